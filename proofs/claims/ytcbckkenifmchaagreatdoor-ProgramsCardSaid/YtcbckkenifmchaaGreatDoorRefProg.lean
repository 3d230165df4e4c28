/-
  PROVED HERE: what the reference's 'ReadProgram' reads out of a text (the conditions stand in each statement).
-/
import Derived.Test.YtcbckkenifmchaaGreatDoorRefQuery2
namespace Go.Proofs.YtcbckkenifmchaaGreatDoor
open Go.RowKit
set_option linter.unusedSimpArgs false
set_option linter.unusedVariables false

theorem Tryz.infoClause : (Tryz.prog.info? 76).map (fun i => (i.zero, i.size, i.bytes)) = some (some (.agg #[.string ⟨#[]⟩, .int .i64 0, .slice none 0 0, .slice none 0 0, .int .i64 0]), 5, 80) := by kernel_rfl

/-- All blocks of terms are as they were. -/
structure KeepT (w w' : World) : Prop where
  size : w.heap.size ≤ w'.heap.size
  block : ∀ k, isTerms w k → w'.heap[k]? = w.heap[k]?
theorem KeepT.refl (w : World) : KeepT w w := ⟨Nat.le_refl _, fun _ _ => rfl⟩
theorem KeepT.trans {a b c : World} (h : KeepT a b) (h' : KeepT b c) : KeepT a c :=
  ⟨Nat.le_trans h.size h'.size, fun k hk => by
    have e := h.block k hk
    have : isTerms b k := by obtain ⟨cur, hc⟩ := hk; exact ⟨cur, e.trans hc⟩
    exact (h'.block k this).trans e⟩
theorem KeepT.of_kept {S : Nat → Prop} {w w' : World} (h : Kept S w w') (hs : ∀ k, isTerms w k → ¬ S k) : KeepT w w' :=
  ⟨h.size, fun k hk => h.block k (by obtain ⟨cur, hc⟩ := hk; exact lt_of_block hc) (hs k hk)⟩
theorem KeepT.of_apart {B : Nat} {e : TypeId} {size n : Nat} {v : Value} {xs : List Value} {w w' : World} (h : Kept (ownOf v) w w') (ho : w.ownsRow B e size v n xs) (he : e ≠ 74) : KeepT w w' :=
  KeepT.of_kept h (fun k hk => by obtain ⟨cur, hc⟩ := hk; exact owns_apart ho he hc)
theorem KeepT.alloc (w : World) (o : Obj) : KeepT w (w.alloc o) := ⟨by simp, fun k hk => by obtain ⟨cur, hc⟩ := hk; exact Below.heap_alloc _ _ _ (lt_of_block hc)⟩
theorem RepT.keep {f : Nat} {w w' : World} {lo hi : Nat} {a b c : Value} {l : List Sym} (h : RepT f w lo hi a b c l) (hk : KeepT w w') : RepT f w' lo hi a b c l := h.later f (fun k _ _ ht => hk.block k ht)
theorem Kids.keep {f : Nat} {w w' : World} {lo : Nat} {cv : Value} {acc : List (List Sym)} {xs : List Value} (h : Kids f w lo cv acc xs) (hk : KeepT w w') : Kids f w' lo cv acc xs :=
  ⟨owns_same h.owns (fun k e => hk.block k (owns_terms h.owns k e)), fun i l' hl => by
    obtain ⟨a', b', c', l1, h1, y1, y2, y3, g1, g2, g3, g4⟩ := h.all i l' hl
    exact ⟨a', b', c', l1, h1, y1, y2, y3, g1, Nat.le_trans g2 hk.size, g3, g4.keep hk⟩⟩

/-- A clause: its head, its body, how many variables it has. -/
structure Cls where
  head : List Sym
  body : List (List Sym)
  n : Nat

/-- A clause in memory: five cells. -/
def ClsAt (w : World) (xs : List Value) (c : Cls) : Prop := ∃ s n ca cl cc bv lo hi lo' ys, xs = [.string s, .int .i64 n, .slice ca cl cc, bv, .int .i64 c.n] ∧ RepT 1000 w lo hi (.string s) (.int .i64 n) (.slice ca cl cc) c.head ∧ Kids 1000 w lo' bv c.body ys
theorem ClsAt.keep {w w' : World} {xs : List Value} {c : Cls} (h : ClsAt w xs c) (hk : KeepT w w') : ClsAt w' xs c := by
  obtain ⟨s, n, ca, cl, cc, bv, lo, hi, lo', ys, h1, h2, h3⟩ := h
  exact ⟨s, n, ca, cl, cc, bv, lo, hi, lo', ys, h1, h2.keep hk, h3.keep hk⟩

/-- Clauses in memory. -/
structure ClsRow (w : World) (lo : Nat) (lv : Value) (cs : List Cls) (xs : List (List Value)) : Prop where
  owns : w.ownsRow lo 76 5 lv cs.length xs.flatten
  len : xs.length = cs.length
  five : ∀ x ∈ xs, x.length = 5
  all : ∀ (i : Nat) (c : Cls), cs[i]? = some c → ∃ x, xs[i]? = some x ∧ ClsAt w x c
theorem ClsRow.nil (w : World) (lo : Nat) : ClsRow w lo (.slice none 0 0) [] [] := ⟨World.ownsRow_nil _ _ _ _, rfl, by simp, fun i c h => by simp at h⟩

/-- A clause at the head of some tokens. -/
def pclause (ts : List Tok) : Option (Cls × List Tok) :=
  match pterm 1000 ts [] with
  | none => none
  | some r => match r.2.1 with
    | [] => none
    | x :: rest => if x.kind = 3 then (pterms 1000 1000 rest r.2.2 []).map (fun q => (⟨r.1, q.1, q.2.2.length⟩, q.2.1)) else some (⟨r.1, [], r.2.2.length⟩, rest)
/-- The clauses of a program. -/
def pprog : Nat → List Tok → List Cls → Option (List Cls)
  | 0, _, _ => none
  | _ + 1, [], _ => none
  | g + 1, t :: ts, acc =>
    if t.kind = 4 then some acc
    else match pclause (t :: ts) with
      | none => none
      | some r => pprog g r.2 (acc ++ [r.1])

theorem ClsRow.keep {w w' : World} {lo : Nat} {lv : Value} {cs : List Cls} {xs : List (List Value)} (h : ClsRow w lo lv cs xs) (hk : KeepT w w') (ho : w'.ownsRow lo 76 5 lv cs.length xs.flatten) : ClsRow w' lo lv cs xs :=
  ⟨ho, h.len, h.five, fun i c hc => by obtain ⟨x, h1, h2⟩ := h.all i c hc; exact ⟨x, h1, h2.keep hk⟩⟩

theorem ClsRow.add {w w' : World} {lo : Nat} {lv lv' : Value} {cs : List Cls} {xs : List (List Value)} {c : Cls} {x : List Value} (h : ClsRow w lo lv cs xs) (hx : ClsAt w x c) (hx5 : x.length = 5) (hk : KeepT w w')
    (ho : w'.ownsRow lo 76 5 lv' (cs.length + 1) (xs.flatten ++ x)) : ClsRow w' lo lv' (cs ++ [c]) (xs ++ [x]) := by
  refine ⟨by simpa using ho, by simp [h.len], ?_, ?_⟩
  · intro y hy
    simp at hy
    rcases hy with hy | rfl
    · exact h.five y hy
    · exact hx5
  · intro i d hd
    rcases Nat.lt_or_ge i cs.length with hi | hi
    · rw [List.getElem?_append_left hi] at hd
      obtain ⟨y, h1, h2⟩ := h.all i d hd
      exact ⟨y, by rw [List.getElem?_append_left (by rw [h.len]; exact hi)]; exact h1, h2.keep hk⟩
    · have hi' : i = cs.length := by
        have : i < (cs ++ [c]).length := (List.getElem?_eq_some_iff.1 hd).1
        simp at this; omega
      subst hi'
      simp at hd
      subst hd
      exact ⟨x, by rw [← h.len]; simp, hx.keep hk⟩

theorem cls_one {s : ByteArray} {n m : Int} {ca ba : Option Addr} {cl cc bl bc : Nat} : ∀ u ∈ (#[Value.string s, .int .i64 n, .slice ca cl cc, .slice ba bl bc, .int .i64 m] : Array Value).toList, u.oneCell' = true := by
  intro u hu
  simp at hu
  rcases hu with rfl | rfl | rfl | rfl | rfl <;> rfl

end Go.Proofs.YtcbckkenifmchaaGreatDoor
