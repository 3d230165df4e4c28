/-
  PROVED HERE: what the reference's method 'begins' does to a Look in memory where a term begins (the conditions stand in each statement).
-/
import Derived.Test.YtcbckkenifmchaaGreatDoorRefBegins
import Derived.RegionTactic
import Derived.ChangeAlike
import Derived.BigRegion
namespace Go.Proofs.YtcbckkenifmchaaGreatDoor
open Go.RowKit
set_option linter.unusedSimpArgs false

/-- One block and a slice's row. -/
def lookSet (b : Nat) (ov : Value) : Nat → Prop := fun k => k = b ∨ ov.ownBlock = some k

theorem owns_set {w : World} {B : Nat} {e : TypeId} {g n cap : Nat} {xs : List Value} (h : w.ownsRow B e 1 (.slice (some ⟨g, 0, none⟩) n cap) n xs) (i : Nat) (u : Value) :
    (w.setCell ⟨g, i, none⟩ u).ownsRow B e 1 (.slice (some ⟨g, 0, none⟩) n cap) n (xs.set i u) := by
  refine ⟨by simpa using h.1, ?_⟩
  rcases h.2 with ⟨h1, _⟩ | ⟨g', cap', cur, h1, hb, hg, hn, hc, hs, ht⟩
  · simp at h1
  · simp at h1
    obtain ⟨rfl, rfl⟩ := h1
    refine .inr ⟨g, cap, cur.setIfInBounds i u, rfl, hb, block_set hg i u, hn, hc, by simpa using hs, ?_⟩
    rw [← ht]
    simp [List.take_set]
theorem owns_some {w : World} {B : Nat} {e : TypeId} {size n : Nat} {v : Value} {xs : List Value} (h : w.ownsRow B e size v n xs) (hn : 0 < n) :
    ∃ g cap cur, v = .slice (some ⟨g, 0, none⟩) n cap ∧ B ≤ g ∧ w.heap[g]? = some (.cells cur e (0, 0)) ∧ n ≤ cap := by
  rcases h.2 with ⟨_, h1⟩ | ⟨g, cap, cur, h1, hb, hg, hn, _⟩
  · omega
  · exact ⟨g, cap, cur, h1, hb, hg, hn⟩
theorem owns_cell {w : World} {B : Nat} {e : TypeId} {size n g cap : Nat} {xs : List Value} (h : w.ownsRow B e size (.slice (some ⟨g, 0, none⟩) n cap) n xs) (j : Nat) (u : Value) (hu : xs[j]? = some u) :
    w.cell? ⟨g, j, none⟩ = some u := by
  have := h.cells (g := g) rfl j u hu
  have hadd : (⟨g, 0, none⟩ : Addr).add j = ⟨g, j, none⟩ := by unfold Addr.add; split <;> simp_all
  rwa [hadd] at this

theorem IsLook.bump {w : World} {B b g n cap : Nat} {L : LookS} {r : List Nat} (h : IsLook w B b L (.slice (some ⟨g, 0, none⟩) (r.length + 1) cap)) (hst : L.stk = n :: r) :
    IsLook (w.setCell ⟨g, r.length, none⟩ (.int .i64 ((n : Int) + 1))) B b { L with stk := (n + 1) :: r } (.slice (some ⟨g, 0, none⟩) (r.length + 1) cap) := by
  have hgb : ¬ g = b := h.apart g rfl
  refine ⟨?_, ?_⟩
  · rw [Below.heap_setCell _ _ _ _ (fun e => hgb e.symm)]; exact h.blk
  · have ho := h.opn
    rw [hst] at ho
    have h2 := owns_set ho r.length (.int .i64 ((n : Int) + 1))
    simp only [List.length_cons]
    have e : (ints (n :: r).reverse).set r.length (.int .i64 ((n : Int) + 1)) = ints ((n + 1) :: r).reverse := by
      simp [ints]
    rw [e] at h2
    exact h2

theorem cell_drew_alloc (w : World) (cs : Array Value) (T : TypeId) (i : Nat) (v : Value) (h : cs[i]? = some v) : (w.alloc (.cells cs T)).drew.cell? ⟨w.heap.size, i, none⟩ = some v :=
  cell_of_block (heap_alloc_new w _) i v h

set_option maxRecDepth 10000 in
set_option maxHeartbeats 400000 in
theorem begins_term1 (w : World) (B b : Nat) (L : LookS) (n : Nat) (r : List Nat) (ov : Value) (ps : Int) (tx : ByteArray) (h : IsLook w B b L ov) (hst : L.stk = n :: r) (hL : L.size ≤ 4000) (hn : n ≤ 4096) (hr : r.length ≤ 4096) (ht : tx.size ≤ 4096) (hw : L.want = 2) :
    Calls Tryz.prog 84 #[.pointer (some ⟨b, 0, none⟩), .agg #[.int .i64 1, .string tx, .int .i64 ps]] w fun e w' =>
      e = .returned (.tuple #[]) ∧ Kept (lookSet b ov) w w' ∧ IsLook w' B b (lbegins L 1 tx.size) ov := by
  obtain ⟨hb, ⟨c0, c1, c2, c3, c4, c5, c6, c7⟩, hf⟩ := h.facts
  have hop := h.opn
  rw [hst] at hop
  obtain ⟨g, cap, cur, rfl, hBg, hg, hcap⟩ := owns_some hop (by simp)
  have hgl := lt_of_block hg
  have hgb : ¬ g = b := h.apart g rfl
  have cg : w.cell? ⟨g, r.length, none⟩ = some (.int .i64 n) := owns_cell hop r.length _ (by simp [ints])
  have fg := thawed_of_block hg r.length
  rw [hw] at c0
  simp only [List.length_cons] at hop hcap c3 h
  have Hw := hide' hw
  have Hst := hide' hst
  have Hl := hide' (h.bump hst)
  have Hk : Hid (Kept (lookSet b (.slice (some ⟨g, 0, none⟩) (r.length + 1) cap)) w (w.setCell ⟨g, r.length, none⟩ (.int .i64 ((n : Int) + 1)))) := (Kept.refl _ w).setCell (p := ⟨g, r.length, none⟩) (fun _ => Or.inr rfl) _
  clear h hw hst hop hg
  by_cases h1 : 4 < n + 1
  · have h1' : (4 : Int) < (n : Int) + 1 := by omega
    go_enter Tryz.func84, Tryz.ntmps84
    go_wp2_with fail
    go_region
    go_wp2_with fail
    refine (sized_any _ B b (lstart L) (.slice (some ⟨g, 0, none⟩) (r.length + 1) cap) _ _ _ ?_ ?_ ht).mono ?_
    · exact Hl.out.from ((((Kept.refl (only b) _).put 7 _).alloc _).drew) (block_alloc (block_set Hl.out.blk 7 _) _) (by simp [lookCells, lstart, Hw.out, Hst.out, h1]) (by simp [lstart, Hw.out, Hst.out, h1])
    · simp [lstart, Hw.out, Hst.out, h1]; omega
    rintro e w1 ⟨rfl, hk1, hl1⟩
    have hbox : w1.cell? ⟨w.heap.size, 0, none⟩ = some (.int .i64 1) := by
      have h := hk1.cell (cell_drew_alloc _ _ _ 0 _ rfl) (box_ne _ (by simpa using hb))
      simpa using h
    have hk1' := hide' (Hk.out.then (((((Kept.refl (only b) _).put 7 _).alloc _).drew).trans hk1) (fun i _ h => Or.inl h))
    have hl1' := hide' hl1
    have d0 := hl1.facts.2.1.1
    have df := hl1.facts.2.2
    clear hk1 hl1 c0 c1 c2 c3 c4 c5 c6 c7 hf cg fg
    go_wp2
    go_end0
    exact ⟨rfl, hk1'.out.then (((Kept.refl (only b) w1).put 0 _).put 0 _) (fun i _ h => Or.inl h), hl1'.out.from (((Kept.refl (only b) w1).put 0 _).put 0 _) (block_set (block_set hl1'.out.blk 0 _) 0 _) (by simp [lookCells, lbegins, Hw.out, Hst.out, h1]) (by simp [lbegins, Hw.out, Hst.out, h1])⟩
  · have h1' : ¬ (4 : Int) < (n : Int) + 1 := by omega
    go_enter Tryz.func84, Tryz.ntmps84
    go_wp2_with fail
    go_region
    go_wp2_with fail
    refine (sized_any _ B b (lstart L) (.slice (some ⟨g, 0, none⟩) (r.length + 1) cap) _ _ _ ?_ ?_ ht).mono ?_
    · exact Hl.out.from (((Kept.refl (only b) _).alloc _).drew) (block_alloc Hl.out.blk _) (by simp [lookCells, lstart, Hw.out, Hst.out, h1]) (by simp [lstart, Hw.out, Hst.out, h1])
    · simp [lstart, Hw.out, Hst.out, h1]; omega
    rintro e w1 ⟨rfl, hk1, hl1⟩
    have hbox : w1.cell? ⟨w.heap.size, 0, none⟩ = some (.int .i64 1) := by
      have h := hk1.cell (cell_drew_alloc _ _ _ 0 _ rfl) (box_ne _ (by simpa using hb))
      simpa using h
    have hk1' := hide' (Hk.out.then ((((Kept.refl (only b) _).alloc _).drew).trans hk1) (fun i _ h => Or.inl h))
    have hl1' := hide' hl1
    have d0 := hl1.facts.2.1.1
    have df := hl1.facts.2.2
    clear hk1 hl1 c0 c1 c2 c3 c4 c5 c6 c7 hf cg fg
    go_wp2
    go_end0
    exact ⟨rfl, hk1'.out.then (((Kept.refl (only b) w1).put 0 _).put 0 _) (fun i _ h => Or.inl h), hl1'.out.from (((Kept.refl (only b) w1).put 0 _).put 0 _) (block_set (block_set hl1'.out.blk 0 _) 0 _) (by simp [lookCells, lbegins, Hw.out, Hst.out, h1]) (by simp [lbegins, Hw.out, Hst.out, h1])⟩

set_option maxRecDepth 10000 in
set_option maxHeartbeats 400000 in
theorem begins_term2 (w : World) (B b : Nat) (L : LookS) (n : Nat) (r : List Nat) (ov : Value) (ps : Int) (tx : ByteArray) (h : IsLook w B b L ov) (hst : L.stk = n :: r) (hL : L.size ≤ 4000) (hn : n ≤ 4096) (hr : r.length ≤ 4096) (ht : tx.size ≤ 4096) (hw : L.want = 2) :
    Calls Tryz.prog 84 #[.pointer (some ⟨b, 0, none⟩), .agg #[.int .i64 2, .string tx, .int .i64 ps]] w fun e w' =>
      e = .returned (.tuple #[]) ∧ Kept (lookSet b ov) w w' ∧ IsLook w' B b (lbegins L 2 tx.size) ov := by
  obtain ⟨hb, ⟨c0, c1, c2, c3, c4, c5, c6, c7⟩, hf⟩ := h.facts
  have hop := h.opn
  rw [hst] at hop
  obtain ⟨g, cap, cur, rfl, hBg, hg, hcap⟩ := owns_some hop (by simp)
  have hgl := lt_of_block hg
  have hgb : ¬ g = b := h.apart g rfl
  have cg : w.cell? ⟨g, r.length, none⟩ = some (.int .i64 n) := owns_cell hop r.length _ (by simp [ints])
  have fg := thawed_of_block hg r.length
  rw [hw] at c0
  simp only [List.length_cons] at hop hcap c3 h
  have Hw := hide' hw
  have Hst := hide' hst
  have Hl := hide' (h.bump hst)
  have Hk : Hid (Kept (lookSet b (.slice (some ⟨g, 0, none⟩) (r.length + 1) cap)) w (w.setCell ⟨g, r.length, none⟩ (.int .i64 ((n : Int) + 1)))) := (Kept.refl _ w).setCell (p := ⟨g, r.length, none⟩) (fun _ => Or.inr rfl) _
  clear h hw hst hop hg
  by_cases h1 : 4 < n + 1
  · have h1' : (4 : Int) < (n : Int) + 1 := by omega
    go_enter Tryz.func84, Tryz.ntmps84
    go_wp2_with fail
    go_region
    go_wp2_with fail
    refine (sized_any _ B b (lstart L) (.slice (some ⟨g, 0, none⟩) (r.length + 1) cap) _ _ _ ?_ ?_ ht).mono ?_
    · exact Hl.out.from ((((Kept.refl (only b) _).put 7 _).alloc _).drew) (block_alloc (block_set Hl.out.blk 7 _) _) (by simp [lookCells, lstart, Hw.out, Hst.out, h1]) (by simp [lstart, Hw.out, Hst.out, h1])
    · simp [lstart, Hw.out, Hst.out, h1]; omega
    rintro e w1 ⟨rfl, hk1, hl1⟩
    have hbox : w1.cell? ⟨w.heap.size, 0, none⟩ = some (.int .i64 2) := by
      have h := hk1.cell (cell_drew_alloc _ _ _ 0 _ rfl) (box_ne _ (by simpa using hb))
      simpa using h
    have hk1' := hide' (Hk.out.then (((((Kept.refl (only b) _).put 7 _).alloc _).drew).trans hk1) (fun i _ h => Or.inl h))
    have hl1' := hide' hl1
    have d0 := hl1.facts.2.1.1
    have df := hl1.facts.2.2
    clear hk1 hl1 c0 c1 c2 c3 c4 c5 c6 c7 hf cg fg
    go_wp2
    go_end0
    exact ⟨rfl, hk1'.out.then ((Kept.refl (only b) w1).put 0 _) (fun i _ h => Or.inl h), hl1'.out.from ((Kept.refl (only b) w1).put 0 _) (block_set hl1'.out.blk 0 _) (by simp [lookCells, lbegins, Hw.out, Hst.out, h1]) (by simp [lbegins, Hw.out, Hst.out, h1])⟩
  · have h1' : ¬ (4 : Int) < (n : Int) + 1 := by omega
    go_enter Tryz.func84, Tryz.ntmps84
    go_wp2_with fail
    go_region
    go_wp2_with fail
    refine (sized_any _ B b (lstart L) (.slice (some ⟨g, 0, none⟩) (r.length + 1) cap) _ _ _ ?_ ?_ ht).mono ?_
    · exact Hl.out.from (((Kept.refl (only b) _).alloc _).drew) (block_alloc Hl.out.blk _) (by simp [lookCells, lstart, Hw.out, Hst.out, h1]) (by simp [lstart, Hw.out, Hst.out, h1])
    · simp [lstart, Hw.out, Hst.out, h1]; omega
    rintro e w1 ⟨rfl, hk1, hl1⟩
    have hbox : w1.cell? ⟨w.heap.size, 0, none⟩ = some (.int .i64 2) := by
      have h := hk1.cell (cell_drew_alloc _ _ _ 0 _ rfl) (box_ne _ (by simpa using hb))
      simpa using h
    have hk1' := hide' (Hk.out.then ((((Kept.refl (only b) _).alloc _).drew).trans hk1) (fun i _ h => Or.inl h))
    have hl1' := hide' hl1
    have d0 := hl1.facts.2.1.1
    have df := hl1.facts.2.2
    clear hk1 hl1 c0 c1 c2 c3 c4 c5 c6 c7 hf cg fg
    go_wp2
    go_end0
    exact ⟨rfl, hk1'.out.then ((Kept.refl (only b) w1).put 0 _) (fun i _ h => Or.inl h), hl1'.out.from ((Kept.refl (only b) w1).put 0 _) (block_set hl1'.out.blk 0 _) (by simp [lookCells, lbegins, Hw.out, Hst.out, h1]) (by simp [lbegins, Hw.out, Hst.out, h1])⟩

end Go.Proofs.YtcbckkenifmchaaGreatDoor
