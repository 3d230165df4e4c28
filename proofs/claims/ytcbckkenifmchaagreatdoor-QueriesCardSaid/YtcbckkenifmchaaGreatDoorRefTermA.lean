/-
  PROVED HERE: what the reference's 'term' reads out of a row of tokens where brackets follow the name (the conditions stand in the statement).
-/
import Derived.Test.YtcbckkenifmchaaGreatDoorRefTermW
namespace Go.Proofs.YtcbckkenifmchaaGreatDoor
open Go.RowKit
set_option linter.unusedSimpArgs false
set_option linter.unusedVariables false

theorem RepT.shape {f : Nat} {w : World} {lo hi : Nat} {a b c : Value} {l : List Sym} (h : RepT f w lo hi a b c l) : ∃ s n ca cl cc, a = .string s ∧ b = .int .i64 n ∧ c = .slice ca cl cc := by
  cases f with
  | zero => exact h.elim
  | succ f =>
    rcases h with ⟨n, rfl, rfl, rfl, _⟩ | ⟨nm, ls, xs, _, rfl, rfl, _, h5, _⟩
    · exact ⟨_, _, _, _, _, rfl, rfl, rfl⟩
    · obtain ⟨a, cap, rfl⟩ := owns_slice h5
      exact ⟨_, _, _, _, _, rfl, rfl, rfl⟩

/-- The terms gathered so far. -/
structure Kids (f : Nat) (w : World) (lo : Nat) (cv : Value) (acc : List (List Sym)) (xs : List Value) : Prop where
  owns : w.ownsRow lo 74 3 cv acc.length xs
  all : ∀ (i : Nat) (l' : List Sym), acc[i]? = some l' → ∃ a b c l h, xs[i * 3]? = some a ∧ xs[i * 3 + 1]? = some b ∧ xs[i * 3 + 2]? = some c ∧ lo ≤ l ∧ h ≤ w.heap.size ∧
    (∀ k, cv.ownBlock = some k → ¬ (l ≤ k ∧ k < h)) ∧ RepT f w l h a b c l'

theorem Kids.nil (f : Nat) (w : World) (lo : Nat) : Kids f w lo (.slice none 0 0) [] [] := ⟨World.ownsRow_nil _ _ _ _, fun i l' h => by simp at h⟩

theorem Appended.trans {w w1 w2 : World} {B : Nat} {e : TypeId} {size n n' : Nat} {v v1 v2 : Value} {xs xs' : List Value} (h : Appended w B e size v n xs v1 w1) (h' : Appended w1 B e size v1 n' xs' v2 w2) : Appended w B e size v n' xs' v2 w2 :=
  ⟨h'.owns, h.kept.then h'.kept (fun i hi ho => by
      rcases h.where_ with hw | ⟨g, hw, hg⟩
      · exact hw.symm.trans ho
      · have : some g = some i := hw.symm.trans ho
        simp at this; omega), by
    rcases h'.where_ with hw' | ⟨g, hw', hg⟩
    · rcases h.where_ with hw | ⟨g, hw, hg⟩
      · exact Or.inl (hw'.trans hw)
      · exact Or.inr ⟨g, hw'.trans hw, hg⟩
    · exact Or.inr ⟨g, hw', Nat.le_trans h.kept.size hg⟩⟩

theorem term_one {s : ByteArray} {n : Int} {ca : Option Addr} {cl cc : Nat} : ∀ u ∈ (#[Value.string s, .int .i64 n, .slice ca cl cc] : Array Value).toList, u.oneCell' = true := by
  intro u hu
  simp at hu
  rcases hu with rfl | rfl | rfl <;> rfl

/-- A term more: the world behind the append and the store. -/
theorem Kids.step {f : Nat} {wr w1 w3 : World} {N lo : Nat} {nvj nv' cv cv' : Value} {B nn nn' : Nat} {ns ns' : List Value} {acc : List (List Sym)} {xs : List Value} {s : ByteArray} {n : Int} {ca : Option Addr} {cl cc : Nat} {l : List Sym} {o : Obj}
    (hk : Kids f wr lo cv acc xs) (hlo : N < lo) (hlo' : lo ≤ wr.heap.size) (hnv : wr.ownsRow B 9 1 nvj nn ns) (hap : Appended wr B 9 1 nvj nn' ns' nv' w1)
    (hr : RepT f w1 wr.heap.size w1.heap.size (.string s) (.int .i64 n) (.slice ca cl cc) l) (ha : Appended (w1.alloc o) lo 74 3 cv (acc.length + 1) (xs ++ [.string s, .int .i64 n, .slice ca cl cc]) cv' w3) (u : Value) :
    Kids f (w3.setCell ⟨N, 2, none⟩ u) lo cv' (acc ++ [l]) (xs ++ [.string s, .int .i64 n, .slice ca cl cc]) ∧ Kept (fun k => ownOf cv k ∨ k = N) w1 (w3.setCell ⟨N, 2, none⟩ u) := by
  have hcvlt : ∀ k, cv.ownBlock = some k → lo ≤ k ∧ k < wr.heap.size := hk.owns.lt
  have k13 : Kept (ownOf cv) w1 w3 := ((Kept.refl _ w1).alloc o).then ha.kept (fun _ _ e => e)
  have k14 : Kept (fun k => ownOf cv k ∨ k = N) w1 (w3.setCell ⟨N, 2, none⟩ u) := Kept.setCell (S := fun k => ownOf cv k ∨ k = N) (k13.mono (fun _ _ e => Or.inl e)) (p := ⟨N, 2, none⟩) (fun _ => Or.inr rfl) u
  have hcv' : ∀ k, cv'.ownBlock = some k → (lo ≤ k ∧ k < wr.heap.size ∧ cv.ownBlock = some k) ∨ w1.heap.size < k := by
    intro k hk
    rcases ha.where_ with h | ⟨g, h, hg⟩
    · rw [hk] at h
      exact Or.inl ⟨(hcvlt k h.symm).1, (hcvlt k h.symm).2, h.symm⟩
    · rw [hk] at h
      simp at h hg
      exact Or.inr (by omega)
  have hxl : xs.length = acc.length * 3 := hk.owns.1
  have hw14 : w1.heap.size ≤ (w3.setCell ⟨N, 2, none⟩ u).heap.size := k14.size
  have hwr1 := hap.kept.size
  refine ⟨⟨?_, ?_⟩, k14⟩
  · have := ((Kept.refl (only N) w3).put 2 u).owns ha.owns (fun k hk e => by
      have e : k = N := e
      rcases hcv' k hk with h | h <;> omega)
    simpa using this
  · intro i l' hl
    rcases Nat.lt_or_ge i acc.length with hi | hi
    · rw [List.getElem?_append_left hi] at hl
      obtain ⟨a', b', c', l1, h1, x1, x2, x3, g1, g2, g3, g4⟩ := hk.all i l' hl
      refine ⟨a', b', c', l1, h1, ?_, ?_, ?_, g1, by omega, ?_, ?_⟩
      · rw [List.getElem?_append_left (by omega)]; exact x1
      · rw [List.getElem?_append_left (by omega)]; exact x2
      · rw [List.getElem?_append_left (by omega)]; exact x3
      · intro k hk' hin
        rcases hcv' k hk' with h | h
        · exact g3 k h.2.2 hin
        · omega
      · refine g4.later (w := wr) _ (fun k hk1 hk2 ht => ?_)
        obtain ⟨cur, hcur⟩ := ht
        have e1 : w1.heap[k]? = wr.heap[k]? := hap.kept.block k (by omega) (owns_apart hnv (by decide) hcur)
        have e2 := k14.block k (by omega) (fun h => by
          rcases h with h | h
          · exact g3 k h ⟨hk1, hk2⟩
          · omega)
        exact e2.trans e1
    · have hi' : i = acc.length := by
        have : i < (acc ++ [l]).length := (List.getElem?_eq_some_iff.1 hl).1
        simp at this; omega
      subst hi'
      simp at hl
      subst hl
      refine ⟨.string s, .int .i64 n, .slice ca cl cc, wr.heap.size, w1.heap.size, ?_, ?_, ?_, hlo', by omega, ?_, ?_⟩
      · rw [List.getElem?_append_right (by omega), hxl]; simp
      · rw [List.getElem?_append_right (by omega), hxl]; simp
      · rw [List.getElem?_append_right (by omega), hxl]; simp
      · intro k hk' hin
        rcases hcv' k hk' with h | h <;> omega
      · refine hr.later _ (fun k hk1 hk2 _ => k14.block k hk2 (fun h => ?_))
        rcases h with h | h
        · have := (hcvlt k h).2; omega
        · omega

end Go.Proofs.YtcbckkenifmchaaGreatDoor
