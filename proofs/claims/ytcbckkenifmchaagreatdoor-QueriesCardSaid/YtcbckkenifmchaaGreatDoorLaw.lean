/-
  PROVED HERE: the laws 'Programs' and 'Queries' return true wherever the program's own Program and Query answer as the document does (a condition of each theorem here, shown elsewhere).
-/
import Derived.Test.YtcbckkenifmchaaGreatDoorRefOk2
namespace Go.Proofs.YtcbckkenifmchaaGreatDoor
open Go.RowKit
set_option linter.unusedSimpArgs false
set_option linter.unusedVariables false

/-- The steps of a script, as they lie in memory. -/
def StepsAt (w : World) (sv : Value) : Prop := ∃ a len cap, sv = .slice a len cap ∧ len ≤ maxLen ∧ ∀ k, k < len → ∃ (b off : Nat) (kd n m : Int) (p q x : ByteArray), a = some ⟨b, off, none⟩ ∧ b < w.heap.size ∧
  w.cell? ⟨b, off + k * 6, none⟩ = some (.int .i64 kd) ∧ w.cell? ⟨b, off + k * 6 + 1, none⟩ = some (.int .i64 n) ∧ w.cell? ⟨b, off + k * 6 + 2, none⟩ = some (.int .i64 m) ∧
  w.cell? ⟨b, off + k * 6 + 3, none⟩ = some (.string p) ∧ w.cell? ⟨b, off + k * 6 + 4, none⟩ = some (.string q) ∧ w.cell? ⟨b, off + k * 6 + 5, none⟩ = some (.string x) ∧ p.size ≤ maxLen ∧ q.size ≤ maxLen

set_option maxHeartbeats 400000 in
theorem looks_nil (w : World) (b : Nat) (h : w.heap[b]? = some (.cells #[.slice none 0 0, .slice none 0 0, .slice none 0 0] 30 (0, 0))) :
    Calls Tryz.prog 8 #[.pointer (some ⟨b, 0, none⟩)] w fun e w' => e = .returned (.bool true) ∧ w' = w := by
  have c1 : w.cell? ⟨b, 1, none⟩ = some (.slice none 0 0) := cell_of_block h 1 _ rfl
  clear h
  go_enter Tryz.func8, Tryz.ntmps8
  go_wp2
  go_loop [3] (fun i => i = .int .i64 0) (fun i => 0)
  case atStart => rfl
  case round =>
    subst hrel
    go_wp2
    go_ret
    exact ⟨rfl, rfl⟩

/-- The program's own answer is the document's. -/
def ProgramCode : Prop := ∀ (s : ByteArray) (w : World), s.size ≤ maxLen → Calls Tryz.prog 14 #[.string s] w fun e w' => e = .returned (.tuple #[.string ⟨(refProgram s).1.toArray⟩, .int .i64 (refProgram s).2.1, .int .i64 (refProgram s).2.2]) ∧ Below w.heap.size w w'

set_option maxRecDepth 10000 in
set_option maxHeartbeats 1000000 in
theorem texts_program (HC0 : ProgramCode) (n m : Int) (p q x : ByteArray) (w : World) (hs : p.size ≤ maxLen) :
    Calls Tryz.prog 9 #[.agg #[.int .i64 1, .int .i64 n, .int .i64 m, .string p, .string q, .string x]] w fun e w' => e = .returned (.bool true) ∧ Below w.heap.size w w' := by
  have HC := hide' HC0
  have HR := hide' (program_refs p)
  clear HC0
  go_enter Tryz.func9, Tryz.ntmps9
  go_wp2_with fail
  refine (HC.out p _ hs).mono ?_
  rintro e w1 ⟨rfl, hb1⟩
  have hsz1 : w.heap.size + 1 ≤ w1.heap.size := by have := hb1.size; simpa using this
  have hb1' : Below w.heap.size w w1 := ((Below.refl _ w).alloc (Nat.le_refl _) _).trans (hb1.mono (by simp))
  have hc : w1.cell? ⟨w.heap.size, 3, none⟩ = some (.string p) := (hb1.cell (p := ⟨w.heap.size, 3, none⟩) (by simp)).trans (cell_alloc_new w _ _ 3 _ rfl)
  have Hb1 := hide' hb1'
  clear hb1 hb1'
  go_wp2_with fail
  refine (HR.out _ hs).mono ?_
  rintro e w2 ⟨rfl, hb2⟩
  have Hb2 := hide' hb2
  clear hb2
  go_wp2
  go_ret
  exact ⟨rfl, Hb1.out.trans (Hb2.out.mono Hb1.out.size)⟩

set_option maxRecDepth 10000 in
set_option maxHeartbeats 1000000 in
theorem step_program (HC0 : ProgramCode) (n m : Int) (p q x : ByteArray) (b : Value) (w : World) (hs : p.size ≤ maxLen) :
    Calls Tryz.prog 7 #[b, .agg #[.int .i64 1, .int .i64 n, .int .i64 m, .string p, .string q, .string x]] w fun e w' => e = .returned (.bool true) ∧ Below w.heap.size w w' := by
  have HT := hide' (texts_program HC0 n m p q x)
  clear HC0
  go_enter Tryz.func7, Tryz.ntmps7
  go_wp2_with fail
  refine (HT.out _ hs).mono ?_
  rintro e w1 ⟨rfl, hb1⟩
  have Hb1 := hide' hb1
  clear hb1
  go_wp2
  go_ret
  exact ⟨rfl, ((Below.refl _ w).alloc (Nat.le_refl _) _).trans (Hb1.out.mono (by simp))⟩

set_option maxRecDepth 10000 in
set_option maxHeartbeats 1000000 in
theorem upTo_program (HC0 : ProgramCode) (sv : Value) (w : World) (hst : StepsAt w sv) :
    Calls Tryz.prog 6 #[sv, .int .i64 1, .int .i64 1] w fun e w' => e = .returned (.int .i64 (-1)) ∧ Below w.heap.size w w' := by
  obtain ⟨a, len, cap, rfl, hlen, hcells⟩ := hst
  unfold maxLen at hlen
  have HS := hide' (step_program HC0)
  have HL := hide' looks_nil
  have Hcells := hide' hcells
  clear HC0 hcells
  go_enter Tryz.func6, Tryz.ntmps6
  go_wp2
  go_loopw [8] (fun i wr => ∃ k : Nat, k ≤ len ∧ i = .int .i64 k ∧ Below w.heap.size w wr ∧ wr.heap[w.heap.size]? = some (.cells #[.slice none 0 0, .slice none 0 0, .slice none 0 0] 30 (0, 0))) (fun i _ => len - (intOf i).toNat)
  case atStart => exact ⟨0, Nat.zero_le _, rfl, (Below.refl _ _).alloc (Nat.le_refl _) _, heap_alloc_new w _⟩
  case round =>
    obtain ⟨k, hk, rfl, hbel, hblk⟩ := hrel
    have Hblk := hide' hblk
    have hsz := lt_of_block hblk
    clear hblk
    by_cases hlt : k < len
    · obtain ⟨b, off, kd, n, m, p, q, x, rfl, hbl, d0, d1, d2, d3, d4, d5, hp, hq⟩ := Hcells.out k hlt
      have c0 : wr.cell? ⟨b, off + k * 6, none⟩ = some (.int .i64 kd) := (hbel.cell (p := ⟨b, off + k * 6, none⟩) hbl).trans d0
      have c1 : wr.cell? ⟨b, off + k * 6 + 1, none⟩ = some (.int .i64 n) := (hbel.cell (p := ⟨b, off + k * 6 + 1, none⟩) hbl).trans d1
      have c2 : wr.cell? ⟨b, off + k * 6 + 2, none⟩ = some (.int .i64 m) := (hbel.cell (p := ⟨b, off + k * 6 + 2, none⟩) hbl).trans d2
      have c3 : wr.cell? ⟨b, off + k * 6 + 3, none⟩ = some (.string p) := (hbel.cell (p := ⟨b, off + k * 6 + 3, none⟩) hbl).trans d3
      have c4 : wr.cell? ⟨b, off + k * 6 + 4, none⟩ = some (.string q) := (hbel.cell (p := ⟨b, off + k * 6 + 4, none⟩) hbl).trans d4
      have c5 : wr.cell? ⟨b, off + k * 6 + 5, none⟩ = some (.string x) := (hbel.cell (p := ⟨b, off + k * 6 + 5, none⟩) hbl).trans d5
      clear d0 d1 d2 d3 d4 d5
      by_cases hkd : kd = 1
      · subst hkd
        go_wp2_with fail
        refine (HS.out n m p q x _ _ hp).mono ?_
        rintro e w1 ⟨rfl, hb1⟩
        have hs1 : wr.heap.size + 1 ≤ w1.heap.size := by have := hb1.size; simpa using this
        have hbel1 : Below w.heap.size w w1 := (hbel.alloc hbel.size _).trans (hb1.mono (by simp; omega))
        have Hblk1 : Hid (w1.heap[w.heap.size]? = some (.cells #[.slice none 0 0, .slice none 0 0, .slice none 0 0] 30 (0, 0))) := (hb1.block w.heap.size (by simp; omega)).trans (block_alloc Hblk.out _)
        clear hb1 c0 c1 c2 c3 c4 c5
        go_wp2_with fail
        refine (HL.out w1 w.heap.size Hblk1.out).mono ?_
        rintro e w2 ⟨rfl, rfl⟩
        go_wp2
        go_roundw
        case rel => exact ⟨k + 1, by omega, by go_num, hbel1, Hblk1.out⟩
        case measure => simp [intOf]; omega
      · rcases Int.lt_or_gt_of_ne hkd with hlt2 | hlt2
        · have h1 : ¬ (1 : Int) ≤ kd := by omega
          clear hkd hlt2
          go_wp2
          go_roundw
          case rel => exact ⟨k + 1, by omega, by go_num, hbel.alloc hbel.size _, block_alloc Hblk.out _⟩
          case measure => simp [intOf]; omega
        · have h1 : (1 : Int) ≤ kd := by omega
          have h2 : ¬ kd ≤ (1 : Int) := by omega
          clear hkd hlt2
          go_wp2
          go_roundw
          case rel => exact ⟨k + 1, by omega, by go_num, hbel.alloc hbel.size _, block_alloc Hblk.out _⟩
          case measure => simp [intOf]; omega
    · go_wp2
      go_ret
      exact ⟨rfl, hbel⟩

/-- The program's own answer is the document's. -/
def QueryCode : Prop := ∀ (s : ByteArray) (w : World), s.size ≤ maxLen → Calls Tryz.prog 16 #[.string s] w fun e w' => e = .returned (.tuple #[.string ⟨(refQuery s).1.toArray⟩, .int .i64 (refQuery s).2.1, .int .i64 (refQuery s).2.2]) ∧ Below w.heap.size w w'

set_option maxRecDepth 10000 in
set_option maxHeartbeats 1000000 in
theorem texts_query (HC0 : QueryCode) (n m : Int) (p q x : ByteArray) (w : World) (hs : q.size ≤ maxLen) :
    Calls Tryz.prog 9 #[.agg #[.int .i64 2, .int .i64 n, .int .i64 m, .string p, .string q, .string x]] w fun e w' => e = .returned (.bool true) ∧ Below w.heap.size w w' := by
  have HC := hide' HC0
  have HR := hide' (query_refs q)
  clear HC0
  go_enter Tryz.func9, Tryz.ntmps9
  go_wp2_with fail
  refine (HC.out q _ hs).mono ?_
  rintro e w1 ⟨rfl, hb1⟩
  have hsz1 : w.heap.size + 1 ≤ w1.heap.size := by have := hb1.size; simpa using this
  have hb1' : Below w.heap.size w w1 := ((Below.refl _ w).alloc (Nat.le_refl _) _).trans (hb1.mono (by simp))
  have hc : w1.cell? ⟨w.heap.size, 4, none⟩ = some (.string q) := (hb1.cell (p := ⟨w.heap.size, 4, none⟩) (by simp)).trans (cell_alloc_new w _ _ 4 _ rfl)
  have Hb1 := hide' hb1'
  clear hb1 hb1'
  go_wp2_with fail
  refine (HR.out _ hs).mono ?_
  rintro e w2 ⟨rfl, hb2⟩
  have Hb2 := hide' hb2
  clear hb2
  go_wp2
  go_ret
  exact ⟨rfl, Hb1.out.trans (Hb2.out.mono Hb1.out.size)⟩

set_option maxRecDepth 10000 in
set_option maxHeartbeats 1000000 in
theorem step_query (HC0 : QueryCode) (n m : Int) (p q x : ByteArray) (b : Value) (w : World) (hs : q.size ≤ maxLen) :
    Calls Tryz.prog 7 #[b, .agg #[.int .i64 2, .int .i64 n, .int .i64 m, .string p, .string q, .string x]] w fun e w' => e = .returned (.bool true) ∧ Below w.heap.size w w' := by
  have HT := hide' (texts_query HC0 n m p q x)
  clear HC0
  go_enter Tryz.func7, Tryz.ntmps7
  go_wp2_with fail
  refine (HT.out _ hs).mono ?_
  rintro e w1 ⟨rfl, hb1⟩
  have Hb1 := hide' hb1
  clear hb1
  go_wp2
  go_ret
  exact ⟨rfl, ((Below.refl _ w).alloc (Nat.le_refl _) _).trans (Hb1.out.mono (by simp))⟩

set_option maxRecDepth 10000 in
set_option maxHeartbeats 1000000 in
theorem upTo_query (HC0 : QueryCode) (sv : Value) (w : World) (hst : StepsAt w sv) :
    Calls Tryz.prog 6 #[sv, .int .i64 2, .int .i64 2] w fun e w' => e = .returned (.int .i64 (-1)) ∧ Below w.heap.size w w' := by
  obtain ⟨a, len, cap, rfl, hlen, hcells⟩ := hst
  unfold maxLen at hlen
  have HS := hide' (step_query HC0)
  have HL := hide' looks_nil
  have Hcells := hide' hcells
  clear HC0 hcells
  go_enter Tryz.func6, Tryz.ntmps6
  go_wp2
  go_loopw [8] (fun i wr => ∃ k : Nat, k ≤ len ∧ i = .int .i64 k ∧ Below w.heap.size w wr ∧ wr.heap[w.heap.size]? = some (.cells #[.slice none 0 0, .slice none 0 0, .slice none 0 0] 30 (0, 0))) (fun i _ => len - (intOf i).toNat)
  case atStart => exact ⟨0, Nat.zero_le _, rfl, (Below.refl _ _).alloc (Nat.le_refl _) _, heap_alloc_new w _⟩
  case round =>
    obtain ⟨k, hk, rfl, hbel, hblk⟩ := hrel
    have Hblk := hide' hblk
    have hsz := lt_of_block hblk
    clear hblk
    by_cases hlt : k < len
    · obtain ⟨b, off, kd, n, m, p, q, x, rfl, hbl, d0, d1, d2, d3, d4, d5, hp, hq⟩ := Hcells.out k hlt
      have c0 : wr.cell? ⟨b, off + k * 6, none⟩ = some (.int .i64 kd) := (hbel.cell (p := ⟨b, off + k * 6, none⟩) hbl).trans d0
      have c1 : wr.cell? ⟨b, off + k * 6 + 1, none⟩ = some (.int .i64 n) := (hbel.cell (p := ⟨b, off + k * 6 + 1, none⟩) hbl).trans d1
      have c2 : wr.cell? ⟨b, off + k * 6 + 2, none⟩ = some (.int .i64 m) := (hbel.cell (p := ⟨b, off + k * 6 + 2, none⟩) hbl).trans d2
      have c3 : wr.cell? ⟨b, off + k * 6 + 3, none⟩ = some (.string p) := (hbel.cell (p := ⟨b, off + k * 6 + 3, none⟩) hbl).trans d3
      have c4 : wr.cell? ⟨b, off + k * 6 + 4, none⟩ = some (.string q) := (hbel.cell (p := ⟨b, off + k * 6 + 4, none⟩) hbl).trans d4
      have c5 : wr.cell? ⟨b, off + k * 6 + 5, none⟩ = some (.string x) := (hbel.cell (p := ⟨b, off + k * 6 + 5, none⟩) hbl).trans d5
      clear d0 d1 d2 d3 d4 d5
      by_cases hkd : kd = 2
      · subst hkd
        go_wp2_with fail
        refine (HS.out n m p q x _ _ hq).mono ?_
        rintro e w1 ⟨rfl, hb1⟩
        have hs1 : wr.heap.size + 1 ≤ w1.heap.size := by have := hb1.size; simpa using this
        have hbel1 : Below w.heap.size w w1 := (hbel.alloc hbel.size _).trans (hb1.mono (by simp; omega))
        have Hblk1 : Hid (w1.heap[w.heap.size]? = some (.cells #[.slice none 0 0, .slice none 0 0, .slice none 0 0] 30 (0, 0))) := (hb1.block w.heap.size (by simp; omega)).trans (block_alloc Hblk.out _)
        clear hb1 c0 c1 c2 c3 c4 c5
        go_wp2_with fail
        refine (HL.out w1 w.heap.size Hblk1.out).mono ?_
        rintro e w2 ⟨rfl, rfl⟩
        go_wp2
        go_roundw
        case rel => exact ⟨k + 1, by omega, by go_num, hbel1, Hblk1.out⟩
        case measure => simp [intOf]; omega
      · rcases Int.lt_or_gt_of_ne hkd with hlt2 | hlt2
        · have h1 : ¬ (2 : Int) ≤ kd := by omega
          clear hkd hlt2
          go_wp2
          go_roundw
          case rel => exact ⟨k + 1, by omega, by go_num, hbel.alloc hbel.size _, block_alloc Hblk.out _⟩
          case measure => simp [intOf]; omega
        · have h1 : (2 : Int) ≤ kd := by omega
          have h2 : ¬ kd ≤ (2 : Int) := by omega
          clear hkd hlt2
          go_wp2
          go_roundw
          case rel => exact ⟨k + 1, by omega, by go_num, hbel.alloc hbel.size _, block_alloc Hblk.out _⟩
          case measure => simp [intOf]; omega
    · go_wp2
      go_ret
      exact ⟨rfl, hbel⟩

set_option maxHeartbeats 1000000 in
theorem programs_walk (HC0 : ProgramCode) (sv : Value) (w : World) (hst : StepsAt w sv) :
    Calls Tryz.prog 3 #[sv] w fun e w' => e = .returned (.bool true) ∧ Below w.heap.size w w' := by
  have HU := hide' (upTo_program HC0 sv w hst)
  clear HC0 hst
  go_enter Tryz.func3, Tryz.ntmps3
  go_wp2_with fail
  refine HU.out.mono ?_
  rintro e w1 ⟨rfl, hb1⟩
  have Hb1 := hide' hb1
  clear hb1
  go_wp2
  go_ret
  exact ⟨rfl, Hb1.out⟩

set_option maxHeartbeats 1000000 in
theorem queries_walk (HC0 : QueryCode) (sv : Value) (w : World) (hst : StepsAt w sv) :
    Calls Tryz.prog 4 #[sv] w fun e w' => e = .returned (.bool true) ∧ Below w.heap.size w w' := by
  have HU := hide' (upTo_query HC0 sv w hst)
  clear HC0 hst
  go_enter Tryz.func4, Tryz.ntmps4
  go_wp2_with fail
  refine HU.out.mono ?_
  rintro e w1 ⟨rfl, hb1⟩
  have Hb1 := hide' hb1
  clear hb1
  go_wp2
  go_ret
  exact ⟨rfl, Hb1.out⟩

end Go.Proofs.YtcbckkenifmchaaGreatDoor
