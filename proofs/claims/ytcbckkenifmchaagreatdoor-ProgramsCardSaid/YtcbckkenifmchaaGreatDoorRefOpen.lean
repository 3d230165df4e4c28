/-
  PROVED HERE: what the reference method follows does to a Look in memory at an opening bracket behind a name (the conditions stand in the statement).
-/
import Derived.Test.YtcbckkenifmchaaGreatDoorRefFollows
namespace Go.Proofs.YtcbckkenifmchaaGreatDoor
open Go.RowKit
set_option linter.unusedSimpArgs false
set_option linter.unusedVariables false

set_option maxRecDepth 10000 in
set_option maxHeartbeats 400000 in
theorem follows_open (w : World) (B b : Nat) (L : LookS) (ov : Value) (ps : Int) (tx : ByteArray) (h : IsLook w B b L ov) (hBb : B ≤ b) (hL : L.stk.length ≤ 4096) (hw : L.want = 3) :
    Calls Tryz.prog 85 #[.pointer (some ⟨b, 0, none⟩), .agg #[.int .i64 40, .string tx, .int .i64 ps]] w fun e w' =>
      e = .returned (.tuple #[]) ∧ ∃ ov', Kept (lookSet b ov) w w' ∧ IsLook w' B b (lfollows L 40) ov' := by
  obtain ⟨hb, ⟨c0, c1, c2, c3, c4, c5, c6, c7⟩, hf⟩ := h.facts
  have Hlook := hide' h
  obtain ⟨sa, scap, rfl⟩ := owns_slice h.opn
  clear h
  rw [hw] at c0
  have Hw := hide' hw
  have hbase : B ≤ w.heap.size := Nat.le_of_lt (Nat.lt_of_le_of_lt hBb hb)
  have hopn := hide' Hlook.out.opn
  clear hw
  go_enter Tryz.func85, Tryz.ntmps85
  go_wp2_with (at_builtin; refine wpList_append1 _ rfl (.tmp 28) (.tmp 29) 28 rfl B 3 Tryz.infoInt Tryz.underlying28 rfl (by decide) _ L.stk.length (ints L.stk.reverse) rfl (hopn.out.alloc _) _ rfl (by simp) rfl (int_one _) ?_ ?_ ?_)
  · omega
  · simp; omega
  intro v' w1 hap
  obtain ⟨va, vcap, rfl⟩ := owns_slice hap.owns
  have hk1 : Kept (ownOf (.slice sa L.stk.length scap)) w w1 := ((Kept.refl _ w).alloc _).trans hap.kept
  have hne : ¬ ownOf (.slice sa L.stk.length scap) b := fun e => Hlook.out.apart b e rfl
  have hblk1 : w1.heap[b]? = some (.cells (lookCells L (.slice sa L.stk.length scap)) 162 (0, 0)) := (hk1.block b hb hne).trans Hlook.out.blk
  have d0 : w1.cell? ⟨b, 0, none⟩ = some (.int .i64 L.want) := cell_of_block hblk1 0 _ rfl
  have d3 : w1.cell? ⟨b, 3, none⟩ = some (.slice sa L.stk.length scap) := cell_of_block hblk1 3 _ rfl
  have df : ∀ i, w1.frozen? ⟨b, i, none⟩ = false := fun i => thawed_of_block hblk1 i
  have Hap := hide' hap
  have Hblk1 := hide' hblk1
  have Hk1 := hide' hk1
  clear hap hblk1 hk1 hne c0 c1 c2 c3 c4 c5 c6 c7 hf
  go_wp2
  go_end0
  have hv : ∀ k, (Value.slice va (L.stk.length + 1) vcap).ownBlock = some k → ¬ only b k := by
    rintro k hk (rfl : k = b)
    rcases Hap.out.where_ with h | ⟨g, h, hg⟩
    · exact Hlook.out.apart k (by rw [← h]; exact hk) rfl
    · rw [hk] at h
      simp at h
      subst h
      simp at hg
      omega
  refine ⟨rfl, .slice va (L.stk.length + 1) vcap, ?_, ?_, ?_⟩
  · exact (Hk1.out.mono (fun _ _ e => Or.inr e)).then (((Kept.refl (only b) w1).put 3 _).put 0 _) (fun _ _ e => Or.inl e)
  · rw [block_set (block_set Hblk1.out 3 _) 0 _]
    simp [lookCells, lfollows, Hw.out]
  · have h4 : (lfollows L 40).stk = 0 :: L.stk := by simp [lfollows, Hw.out]
    rw [h4]
    have h5 := (((Kept.refl (only b) w1).put 3 (.slice va (L.stk.length + 1) vcap)).put 0 (.int .i64 2)).owns Hap.out.owns hv
    simpa [ints] using h5

end Go.Proofs.YtcbckkenifmchaaGreatDoor
