/-
  PROVED HERE: what the reference's 'ReadQuery' and 'Query' answer (the conditions stand in each statement).
-/
import Derived.Test.YtcbckkenifmchaaGreatDoorRefListed
import Derived.Test.YtcbckkenifmchaaGreatDoorRefTerms
import Derived.Test.YtcbckkenifmchaaGreatDoorRefOver3
namespace Go.Proofs.YtcbckkenifmchaaGreatDoor
open Go.RowKit
set_option linter.unusedSimpArgs false
set_option linter.unusedVariables false

theorem lexF_facts (f : Nat) : ∀ (l : List UInt8) (p : Nat), (lexF f l p).length ≤ l.length ∧ ∀ t ∈ lexF f l p, t.text ≠ [] ∧ t.text.length ≤ l.length := by
  induction f with
  | zero => intro l p; exact ⟨by simp [lexF], fun t ht => by simp [lexF] at ht⟩
  | succ f ih =>
    intro l p
    cases l with
    | nil => exact ⟨by simp [lexF], fun t ht => by simp [lexF] at ht⟩
    | cons c r =>
      rw [lexF]
      split
      · have h := ih r (p + 1)
        exact ⟨by simp; omega, fun t ht => ⟨(h.2 t ht).1, by have := (h.2 t ht).2; simp; omega⟩⟩
      · have h := ih (r.drop (headOf c r).2) (p + (headOf c r).2 + 1)
        simp only [List.length_drop] at h
        refine ⟨by simp; omega, fun t ht => ?_⟩
        simp only [List.mem_cons] at ht
        rcases ht with rfl | ht
        · exact ⟨by simp, by simp; omega⟩
        · exact ⟨(h.2 t ht).1, by have := (h.2 t ht).2; simp; omega⟩
theorem toks_len (l : List UInt8) (p : Nat) : (toks l p).length ≤ l.length := (lexF_facts _ l p).1
theorem toks_text (l : List UInt8) (p : Nat) : ∀ t ∈ toks l p, t.text ≠ [] ∧ t.text.length ≤ l.length := (lexF_facts _ l p).2

/-- The tokens of a text, an End behind them. -/
def alltoks (s : ByteArray) : List Tok := toks s.data.toList 0 ++ [⟨4, [], s.size⟩]
theorem alltoks_len (s : ByteArray) : (alltoks s).length ≤ s.size + 1 := by
  have := toks_len s.data.toList 0
  simp [alltoks] at this ⊢
  exact this
theorem alltoks_text (s : ByteArray) : ∀ t ∈ alltoks s, t.text.length ≤ s.size := by
  intro t ht
  simp only [alltoks, List.mem_append, List.mem_singleton] at ht
  rcases ht with ht | rfl
  · have := (toks_text _ _ t ht).2
    simpa using this
  · simp
theorem alltoks_some (s : ByteArray) : ∀ i t, (alltoks s)[i]? = some t → i + 1 < (alltoks s).length → t.text ≠ [] := by
  intro i t ht hi
  simp only [alltoks, List.length_append, List.length_singleton] at hi
  rw [alltoks, List.getElem?_append_left (by omega)] at ht
  exact (toks_text _ _ t (List.mem_of_getElem? ht)).1

/-- The tokens' row, as 'Tokens' leaves it. -/
theorem tokens_row (s : ByteArray) (w : World) (hs : s.size ≤ 800) :
    Calls Tryz.prog 60 #[.string s] w fun e w' => ∃ v, e = .returned v ∧ Below w.heap.size w w' ∧ w'.ownsRow w.heap.size 121 3 v (alltoks s).length (toksCells (alltoks s)) := by
  refine (tokens_any s w (by omega)).mono ?_
  rintro e w' ⟨v, h1, h2, h3⟩
  refine ⟨v, h1, h2, ?_⟩
  simpa [alltoks] using h3

theorem over_query (w : World) (Bt : Nat) (s : ByteArray) (v : Value) (hs : s.size ≤ 800) (hts : w.ownsRow Bt 121 3 v (alltoks s).length (toksCells (alltoks s))) :
    Calls Tryz.prog 61 #[v, .bool true] w fun e w' =>
      e = .returned (.tuple #[.int .i64 (lover (alltoks s) (lstart0 true)).1, .int .i64 (lover (alltoks s) (lstart0 true)).2]) ∧ Below w.heap.size w w' :=
  over_true w Bt _ v hts (by have := alltoks_len s; omega) (fun t ht => by have := alltoks_text s t ht; omega)
theorem over_program (w : World) (Bt : Nat) (s : ByteArray) (v : Value) (hs : s.size ≤ 800) (hts : w.ownsRow Bt 121 3 v (alltoks s).length (toksCells (alltoks s))) :
    Calls Tryz.prog 61 #[v, .bool false] w fun e w' =>
      e = .returned (.tuple #[.int .i64 (lover (alltoks s) (lstart0 false)).1, .int .i64 (lover (alltoks s) (lstart0 false)).2]) ∧ Below w.heap.size w w' :=
  over_false w Bt _ v hts (by have := alltoks_len s; omega) (fun t ht => by have := alltoks_text s t ht; omega)

theorem below_owns {B : Nat} {w w' : World} (h : Below B w w') {base : Nat} {e : TypeId} {size : Nat} {v : Value} {n : Nat} {xs : List Value} (ho : w.ownsRow base e size v n xs) (hB : w.heap.size ≤ B) : w'.ownsRow base e size v n xs :=
  owns_same ho (fun k hk => h.block k (Nat.lt_of_lt_of_le (ho.lt k hk).2 hB))

set_option maxRecDepth 10000 in
set_option maxHeartbeats 1000000 in
theorem readQuery_long (s : ByteArray) (w : World) (hm : s.size ≤ maxLen) (hs : 120 < s.size) :
    Calls Tryz.prog 38 #[.string s] w fun e w' => e = .returned (.tuple #[.agg #[.slice none 0 0, .slice none 0 0], .int .i64 1, .int .i64 0]) ∧ Below w.heap.size w w' := by
  unfold maxLen at hm
  go_enter Tryz.func38, Tryz.ntmps38
  go_wp2
  exact bodyPost_ret (v := .tuple #[.agg #[.slice none 0 0, .slice none 0 0], .int .i64 1, .int .i64 0]) (by simp [results, Tryz.results38, go_sem]) rfl ⟨rfl, (Below.refl _ _).alloc (Nat.le_refl _) _⟩

set_option maxRecDepth 10000 in
set_option maxHeartbeats 1000000 in
theorem readQuery_err (s : ByteArray) (w : World) (hs : s.size ≤ 120) (he : (lover (alltoks s) (lstart0 true)).1 ≠ 0) :
    Calls Tryz.prog 38 #[.string s] w fun e w' => e = .returned (.tuple #[.agg #[.slice none 0 0, .slice none 0 0], .int .i64 (lover (alltoks s) (lstart0 true)).1, .int .i64 (lover (alltoks s) (lstart0 true)).2]) ∧ Below w.heap.size w w' := by
  have he' : (((lover (alltoks s) (lstart0 true)).1 : Int) != 0) = true := by rw [bne_iff_ne]; omega
  go_enter Tryz.func38, Tryz.ntmps38
  go_wp2_with fail
  refine (tokens_row s _ (by omega)).mono ?_
  rintro e w1 ⟨v, rfl, hb1, hts⟩
  have Hts := hide' hts
  have Hb1 := hide' hb1
  clear hts hb1
  go_wp2_with fail
  refine (over_query w1 _ s v (by omega) Hts.out).mono ?_
  rintro e w2 ⟨rfl, hb2⟩
  have hsz1 : w.heap.size + 1 ≤ w1.heap.size := by have := Hb1.out.size; simpa using this
  have hsz2 := hb2.size
  have hblk : w2.heap[w.heap.size]? = some (.cells #[.slice none 0 0, .slice none 0 0] 46 (0, 0)) :=
    (hb2.block w.heap.size (by omega)).trans ((Hb1.out.block w.heap.size (by simp)).trans (heap_alloc_new w _))
  have z0 : w2.cell? ⟨w.heap.size, 0, none⟩ = some (.slice none 0 0) := cell_of_block hblk 0 _ rfl
  have z1 : w2.cell? ⟨w.heap.size, 1, none⟩ = some (.slice none 0 0) := cell_of_block hblk 1 _ rfl
  have zf := fun i => thawed_of_block hblk i
  have Hb2 := hide' hb2
  clear hblk hb2
  go_wp2
  refine bodyPost_ret (v := .tuple #[.agg #[.slice none 0 0, .slice none 0 0], .int .i64 (lover (alltoks s) (lstart0 true)).1, .int .i64 (lover (alltoks s) (lstart0 true)).2]) (by simp [results, Tryz.results38, go_sem, z0, z1, zf]) rfl ⟨rfl, ?_⟩
  refine Below.setCell (Below.setCell ?_ (p := ⟨w.heap.size, 0, none⟩) (Nat.le_refl _) _) (p := ⟨w.heap.size, 1, none⟩) (Nat.le_refl _) _
  exact (((Below.refl _ w).alloc (Nat.le_refl _) _).trans (Hb1.out.mono (by simp))).trans (Hb2.out.mono (by omega))

set_option maxRecDepth 10000 in
set_option maxHeartbeats 1000000 in
theorem readQuery_ok (s : ByteArray) (w : World) (q : List (List Sym) × List Tok × Names) (hs : s.size ≤ 120) (he : (lover (alltoks s) (lstart0 true)).1 = 0) (hq : pterms 1000 1000 (alltoks s) [] [] = some q) :
    Calls Tryz.prog 38 #[.string s] w fun e w' => ∃ lv nv lo xs, e = .returned (.tuple #[.agg #[lv, nv], .int .i64 0, .int .i64 0]) ∧ w.heap.size < lo ∧ lo ≤ w'.heap.size ∧ Kids 1000 w' lo lv q.1 xs ∧
      w'.ownsRow lo 9 1 nv q.2.2.length (strs q.2.2) ∧ Below w.heap.size w w' := by
  have he' : (((lover (alltoks s) (lstart0 true)).1 : Int) != 0) = false := by rw [he]; rfl
  have hal := alltoks_len s
  go_enter Tryz.func38, Tryz.ntmps38
  go_wp2_with fail
  refine (tokens_row s _ (by omega)).mono ?_
  rintro e w1 ⟨v, rfl, hb1, hts⟩
  have Hts := hide' hts
  have Hb1 := hide' hb1
  clear hts hb1
  go_wp2_with fail
  refine (over_query w1 _ s v (by omega) Hts.out).mono ?_
  rintro e w2 ⟨rfl, hb2⟩
  have hsz1 : w.heap.size + 1 ≤ w1.heap.size := by have := Hb1.out.size; simpa using this
  have hsz2 := hb2.size
  have Hts2 := hide' (below_owns hb2 Hts.out (Nat.le_refl _))
  have Hblk : Hid (w2.heap[w.heap.size]? = some (.cells #[.slice none 0 0, .slice none 0 0] 46 (0, 0))) :=
    (hb2.block w.heap.size (by omega)).trans ((Hb1.out.block w.heap.size (by simp)).trans (heap_alloc_new w _))
  have Hb2 := hide' hb2
  clear hb2
  go_wp2_with fail
  refine (terms_any 1000 1000 w2 (alltoks s) 0 v _ w2.heap.size [] (.slice none 0 0) q hq Hts2.out (World.ownsRow_nil _ _ _ _) (Nat.le_refl _) (by omega) (by simp; omega) (fun t ht => by have := alltoks_text s t ht; omega) (alltoks_some s)).mono ?_
  rintro e w3 ⟨lv, nv, j, xs, rfl, hrest, hj1, hj2, hkids, hap⟩
  obtain ⟨la, lcap, rfl⟩ := owns_slice hkids.owns
  obtain ⟨na, ncap, rfl⟩ := owns_slice hap.owns
  have hsz3 := hap.kept.size
  have hblk3 := (hap.kept.block w.heap.size (by omega) (fun h => by simp [ownOf, Value.ownBlock] at h)).trans Hblk.out
  have z0 : w3.cell? ⟨w.heap.size, 0, none⟩ = some (.slice none 0 0) := cell_of_block hblk3 0 _ rfl
  have z1 : w3.cell? ⟨w.heap.size, 1, none⟩ = some (.slice none 0 0) := cell_of_block hblk3 1 _ rfl
  have zf := fun i => thawed_of_block hblk3 i
  have Hkids := hide' hkids
  have Hap := hide' hap
  clear hblk3 hkids hap hrest
  go_wp2
  refine bodyPost_ret (v := .tuple #[.agg #[.slice la q.1.length lcap, .slice na q.2.2.length ncap], .int .i64 0, .int .i64 0]) (by simp [results, Tryz.results38, go_sem, z0, z1, zf]) rfl ?_
  have hk5 := ((Kept.refl (only w.heap.size) w3).put 0 (.slice la q.1.length lcap)).put 1 (.slice na q.2.2.length ncap)
  have hs5 := hk5.size
  have hb3 : Below w2.heap.size w2 w3 := Hap.out.kept.below (Nat.le_refl _) (fun k h => by simp [ownOf, Value.ownBlock] at h)
  refine ⟨_, _, w2.heap.size, xs, rfl, by omega, by omega, ?_, ?_, ?_⟩
  · refine ⟨hk5.owns Hkids.out.owns (fun k hk e => ?_), fun i l' hl => ?_⟩
    · have e : k = w.heap.size := e
      have := (Hkids.out.owns.lt k hk).1
      omega
    · obtain ⟨a', b', c', l1, h1, y1, y2, y3, g1, g2, g3, g4⟩ := Hkids.out.all i l' hl
      refine ⟨a', b', c', l1, h1, y1, y2, y3, g1, by omega, g3, RepT.later 1000 g4 (fun k hk1 hk2 _ => hk5.block k (by omega) (fun e => ?_))⟩
      have e : k = w.heap.size := e
      omega
  · refine hk5.owns Hap.out.owns (fun k hk e => ?_)
    have e : k = w.heap.size := e
    have := (Hap.out.owns.lt k hk).1
    omega
  · refine Below.setCell (Below.setCell ?_ (p := ⟨w.heap.size, 0, none⟩) (Nat.le_refl _) _) (p := ⟨w.heap.size, 1, none⟩) (Nat.le_refl _) _
    exact ((((Below.refl _ w).alloc (Nat.le_refl _) _).trans (Hb1.out.mono (by simp))).trans (Hb2.out.mono (by omega))).trans (hb3.mono (by omega))

end Go.Proofs.YtcbckkenifmchaaGreatDoor
