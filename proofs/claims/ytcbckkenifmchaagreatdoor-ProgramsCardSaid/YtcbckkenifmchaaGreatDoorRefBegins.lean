/-
  PROVED HERE: what the reference's method 'begins' does to a Look in memory, where a clause or an atom of a body begins, or where a token cannot stand (the conditions stand in each statement).
-/
import Derived.Test.YtcbckkenifmchaaGreatDoorRefLook
namespace Go.Proofs.YtcbckkenifmchaaGreatDoor
open Go.RowKit
set_option linter.unusedSimpArgs false

set_option maxRecDepth 10000 in
set_option maxHeartbeats 400000 in
theorem begins_head (w : World) (B b : Nat) (L : LookS) (ov : Value) (ps : Int) (tx : ByteArray) (h : IsLook w B b L ov) (hL : L.heads ≤ 4096) (ht : tx.size ≤ 4096) (hw : L.want = 0) :
    Calls Tryz.prog 84 #[.pointer (some ⟨b, 0, none⟩), .agg #[.int .i64 1, .string tx, .int .i64 ps]] w fun e w' =>
      e = .returned (.tuple #[]) ∧ Kept (only b) w w' ∧ IsLook w' B b (lbegins L 1 tx.size) ov := by
  obtain ⟨hb, ⟨c0, c1, c2, c3, c4, c5, c6, c7⟩, hf⟩ := h.facts
  rw [hw] at c0
  have Hw := hide' hw
  have Hlook := hide' h
  clear h hw
  by_cases h1 : 24 < L.heads + 1
  · have h1' : (24 : Int) < (L.heads : Int) + 1 := by omega
    go_enter Tryz.func84, Tryz.ntmps84
    go_wp2_with fail
    refine (sized_any _ B b (lstart L) ov _ _ _ ?_ ?_ ht).mono ?_
    · exact Hlook.out.from ((((((Kept.refl (only b) w).put 6 _).put 2 _).put 4 _).put 7 _).alloc _) (block_alloc (block_set (block_set (block_set (block_set Hlook.out.blk 6 _) 2 _) 4 _) 7 _) _) (by simp [lookCells, lstart, Hw.out, h1]) (by simp [lstart, Hw.out, h1])
    · simp [lstart, Hw.out, h1]
    rintro e w1 ⟨rfl, hk1, hl1⟩
    have hbox : w1.cell? ⟨w.heap.size, 0, none⟩ = some (.int .i64 1) := by
      have h := hk1.cell (cell_alloc_new _ _ _ 0 _ rfl) (box_ne _ (by simpa using hb))
      simpa using h
    have hk1' := hide' (((((((Kept.refl (only b) w).put 6 _).put 2 _).put 4 _).put 7 _).alloc _).trans hk1)
    have hl1' := hide' hl1
    have d0 := hl1.facts.2.1.1
    have df := hl1.facts.2.2
    clear hk1 hl1 c0 c1 c2 c3 c4 c5 c6 c7 hf
    go_wp2
    go_end0
    exact ⟨rfl, hk1'.out.trans (((Kept.refl (only b) w1).put 0 _).put 0 _), hl1'.out.from (((Kept.refl (only b) w1).put 0 _).put 0 _) (block_set (block_set hl1'.out.blk 0 _) 0 _) (by simp [lookCells, lbegins, Hw.out, h1]) (by simp [lbegins, Hw.out, h1])⟩
  · have h1' : ¬ (24 : Int) < (L.heads : Int) + 1 := by omega
    go_enter Tryz.func84, Tryz.ntmps84
    go_wp2_with fail
    refine (sized_any _ B b (lstart L) ov _ _ _ ?_ ?_ ht).mono ?_
    · exact Hlook.out.from (((((Kept.refl (only b) w).put 6 _).put 2 _).put 4 _).alloc _) (block_alloc (block_set (block_set (block_set Hlook.out.blk 6 _) 2 _) 4 _) _) (by simp [lookCells, lstart, Hw.out, h1]) (by simp [lstart, Hw.out, h1])
    · simp [lstart, Hw.out, h1]
    rintro e w1 ⟨rfl, hk1, hl1⟩
    have hbox : w1.cell? ⟨w.heap.size, 0, none⟩ = some (.int .i64 1) := by
      have h := hk1.cell (cell_alloc_new _ _ _ 0 _ rfl) (box_ne _ (by simpa using hb))
      simpa using h
    have hk1' := hide' ((((((Kept.refl (only b) w).put 6 _).put 2 _).put 4 _).alloc _).trans hk1)
    have hl1' := hide' hl1
    have d0 := hl1.facts.2.1.1
    have df := hl1.facts.2.2
    clear hk1 hl1 c0 c1 c2 c3 c4 c5 c6 c7 hf
    go_wp2
    go_end0
    exact ⟨rfl, hk1'.out.trans (((Kept.refl (only b) w1).put 0 _).put 0 _), hl1'.out.from (((Kept.refl (only b) w1).put 0 _).put 0 _) (block_set (block_set hl1'.out.blk 0 _) 0 _) (by simp [lookCells, lbegins, Hw.out, h1]) (by simp [lbegins, Hw.out, h1])⟩

set_option maxRecDepth 10000 in
set_option maxHeartbeats 400000 in
theorem begins_goal (w : World) (B b : Nat) (L : LookS) (ov : Value) (ps : Int) (tx : ByteArray) (h : IsLook w B b L ov) (hL : L.goals ≤ 4096) (ht : tx.size ≤ 4096) (hw : L.want = 1) :
    Calls Tryz.prog 84 #[.pointer (some ⟨b, 0, none⟩), .agg #[.int .i64 1, .string tx, .int .i64 ps]] w fun e w' =>
      e = .returned (.tuple #[]) ∧ Kept (only b) w w' ∧ IsLook w' B b (lbegins L 1 tx.size) ov := by
  obtain ⟨hb, ⟨c0, c1, c2, c3, c4, c5, c6, c7⟩, hf⟩ := h.facts
  rw [hw] at c0
  have Hw := hide' hw
  have Hlook := hide' h
  clear h hw
  by_cases h1 : 6 < L.goals + 1
  · have h1' : (6 : Int) < (L.goals : Int) + 1 := by omega
    go_enter Tryz.func84, Tryz.ntmps84
    go_wp2_with fail
    refine (sized_any _ B b (lstart L) ov _ _ _ ?_ ?_ ht).mono ?_
    · exact Hlook.out.from (((((Kept.refl (only b) w).put 5 _).put 4 _).put 7 _).alloc _) (block_alloc (block_set (block_set (block_set Hlook.out.blk 5 _) 4 _) 7 _) _) (by simp [lookCells, lstart, Hw.out, h1]) (by simp [lstart, Hw.out, h1])
    · simp [lstart, Hw.out, h1]
    rintro e w1 ⟨rfl, hk1, hl1⟩
    have hbox : w1.cell? ⟨w.heap.size, 0, none⟩ = some (.int .i64 1) := by
      have h := hk1.cell (cell_alloc_new _ _ _ 0 _ rfl) (box_ne _ (by simpa using hb))
      simpa using h
    have hk1' := hide' ((((((Kept.refl (only b) w).put 5 _).put 4 _).put 7 _).alloc _).trans hk1)
    have hl1' := hide' hl1
    have d0 := hl1.facts.2.1.1
    have df := hl1.facts.2.2
    clear hk1 hl1 c0 c1 c2 c3 c4 c5 c6 c7 hf
    go_wp2
    go_end0
    exact ⟨rfl, hk1'.out.trans (((Kept.refl (only b) w1).put 0 _).put 0 _), hl1'.out.from (((Kept.refl (only b) w1).put 0 _).put 0 _) (block_set (block_set hl1'.out.blk 0 _) 0 _) (by simp [lookCells, lbegins, Hw.out, h1]) (by simp [lbegins, Hw.out, h1])⟩
  · have h1' : ¬ (6 : Int) < (L.goals : Int) + 1 := by omega
    go_enter Tryz.func84, Tryz.ntmps84
    go_wp2_with fail
    refine (sized_any _ B b (lstart L) ov _ _ _ ?_ ?_ ht).mono ?_
    · exact Hlook.out.from ((((Kept.refl (only b) w).put 5 _).put 4 _).alloc _) (block_alloc (block_set (block_set Hlook.out.blk 5 _) 4 _) _) (by simp [lookCells, lstart, Hw.out, h1]) (by simp [lstart, Hw.out, h1])
    · simp [lstart, Hw.out, h1]
    rintro e w1 ⟨rfl, hk1, hl1⟩
    have hbox : w1.cell? ⟨w.heap.size, 0, none⟩ = some (.int .i64 1) := by
      have h := hk1.cell (cell_alloc_new _ _ _ 0 _ rfl) (box_ne _ (by simpa using hb))
      simpa using h
    have hk1' := hide' (((((Kept.refl (only b) w).put 5 _).put 4 _).alloc _).trans hk1)
    have hl1' := hide' hl1
    have d0 := hl1.facts.2.1.1
    have df := hl1.facts.2.2
    clear hk1 hl1 c0 c1 c2 c3 c4 c5 c6 c7 hf
    go_wp2
    go_end0
    exact ⟨rfl, hk1'.out.trans (((Kept.refl (only b) w1).put 0 _).put 0 _), hl1'.out.from (((Kept.refl (only b) w1).put 0 _).put 0 _) (block_set (block_set hl1'.out.blk 0 _) 0 _) (by simp [lookCells, lbegins, Hw.out, h1]) (by simp [lbegins, Hw.out, h1])⟩

set_option maxRecDepth 10000 in
set_option maxHeartbeats 400000 in
theorem begins_err (w : World) (B b : Nat) (L : LookS) (ov : Value) (kd : Nat) (ps : Int) (tx : ByteArray) (h : IsLook w B b L ov) (hk : kd ≠ 1 ∧ (kd ≠ 2 ∨ L.want ≠ 2)) :
    Calls Tryz.prog 84 #[.pointer (some ⟨b, 0, none⟩), .agg #[.int .i64 kd, .string tx, .int .i64 ps]] w fun e w' =>
      e = .returned (.tuple #[]) ∧ Kept (only b) w w' ∧ IsLook w' B b (lbegins L kd tx.size) ov := by
  obtain ⟨hb, ⟨c0, c1, c2, c3, c4, c5, c6, c7⟩, hf⟩ := h.facts
  have Hk := hide' hk
  have Hlook := hide' h
  have g1 : ((kd : Int) == 1) = false := by rw [beq_eq_false_iff_ne]; omega
  have g1' : ((kd : Int) != 1) = true := by rw [bne_iff_ne]; omega
  cases g2 : ((kd : Int) != 2)
  · have g3 : ((L.want : Int) != 2) = true := by
      rw [bne_iff_ne]
      have : (kd : Int) = 2 := by simpa using g2
      omega
    clear h hk
    go_enter Tryz.func84, Tryz.ntmps84
    go_wp2
    refine bodyPost_ret (results_none rfl _ _ _) rfl ?_
    exact ⟨rfl, ((Kept.refl (only b) w).put 7 _).alloc _, Hlook.out.from (((Kept.refl (only b) w).put 7 _).alloc _) (block_alloc (block_set Hlook.out.blk 7 _) _) (by unfold lbegins; rw [if_pos Hk.out]; simp [lookCells]) (by unfold lbegins; rw [if_pos Hk.out])⟩
  · clear h hk
    go_enter Tryz.func84, Tryz.ntmps84
    go_wp2
    refine bodyPost_ret (results_none rfl _ _ _) rfl ?_
    exact ⟨rfl, ((Kept.refl (only b) w).put 7 _).alloc _, Hlook.out.from (((Kept.refl (only b) w).put 7 _).alloc _) (block_alloc (block_set Hlook.out.blk 7 _) _) (by unfold lbegins; rw [if_pos Hk.out]; simp [lookCells]) (by unfold lbegins; rw [if_pos Hk.out])⟩

end Go.Proofs.YtcbckkenifmchaaGreatDoor
