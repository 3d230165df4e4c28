/-
  PROVED HERE: a script that can be read as data lies in memory step by step (no conditions).
-/
import Derived.Test.YtcbckkenifmchaaGreatDoorLaw
import Derived.Test.YtcbckkenifmchaaGreatDoorCards
import Derived.Test.YtcbckkenifmchaaGreatDoorTie
import Derived.ProofKit
import Derived.LaidMore
import Derived.OpenShut
import Derived.Stop.Joined
import Derived.SevenTiedAt
import Derived.Deep.Slices
import Derived.Carry
namespace Go.Proofs.YtcbckkenifmchaaGreatDoor
open Go.ChangeShapes Go.WideShapes Go.ChangeAt Go.WideMaps Go.WideElems Go.RowKit
set_option linter.unusedSimpArgs false
set_option linter.unusedVariables false

theorem own : ownKnob Tryz.prog.godebug = none := by kernel_rfl
theorem laidOut : laidOutB Tryz.prog = true := by kernel_rfl
theorem cellsStep : Tryz.prog.cellsOf 32 = 6 := by kernel_rfl
theorem cellsInt : Tryz.prog.cellsOf 3 = 1 := by kernel_rfl
theorem cellsStr : Tryz.prog.cellsOf 9 = 1 := by kernel_rfl

theorem cell_plain {W : World} {a : Addr} {j : Nat} {v : Value} (h : W.cell? (a.add j) = some v) (hs : a.spot = none) : W.cell? ⟨a.block, a.off + j, none⟩ = some v := by
  have e : a.add j = ⟨a.block, a.off + j, none⟩ := by
    unfold Addr.add
    obtain ⟨b, o, s⟩ := a
    simp only at hs
    subst hs
    split
    · rename_i h0; subst h0; rfl
    · rfl
  rwa [e] at h
theorem spot_none {W : World} {a : Addr} {v : Value} (h : W.cell? a = some v) : a.spot = none := by
  unfold World.cell? at h
  split at h
  · split at h
    · cases h
    · rename_i h1; cases hs : a.spot with
      | none => rfl
      | some _ => rw [hs] at h1; simp at h1
  · cases h
theorem step_str {H : Type} {enc : TypeId × Value → H} {W : World} {base n' : Nat} {spare : Nat → Bool} {held : Bool} {a : Addr} {cs : List Value} {x : DataW H × List MemPlace} {i : Nat} (hcells : ∀ i, i < 6 → W.cell? (a.add i) = cs[i]?) (hlen : cs.length = 6) (hi : i < 6)
    (h : DataW.trod enc Tryz.prog W base spare held n' 9 ((cs.drop i).take (Tryz.prog.cellsOf 9)) = some x) : ∃ s : ByteArray, W.cell? (a.add i) = some (.string s) ∧ s.size ≤ maxLen := by
  obtain ⟨s, h1, _, h3⟩ := DataW.trod_string Tryz.underlying9 h
  rw [cellsStr] at h1
  refine ⟨s, ?_, h3⟩
  rw [hcells i hi]
  have := congrArg (fun l : List Value => l[0]?) h1
  simpa using this
theorem step_int {H : Type} {enc : TypeId × Value → H} {W : World} {base n' : Nat} {spare : Nat → Bool} {held : Bool} {a : Addr} {cs : List Value} {x : DataW H × List MemPlace} {i : Nat} (hcells : ∀ i, i < 6 → W.cell? (a.add i) = cs[i]?) (hlen : cs.length = 6) (hi : i < 6)
    (h : DataW.trod enc Tryz.prog W base spare held n' 3 ((cs.drop i).take (Tryz.prog.cellsOf 3)) = some x) : ∃ k : Int, W.cell? (a.add i) = some (.int .i64 k) := by
  obtain ⟨s, h1, _, h3⟩ := DataW.trod_int Tryz.underlying3 h
  rw [cellsInt] at h1
  refine ⟨s, ?_⟩
  rw [hcells i hi]
  have := congrArg (fun l : List Value => l[0]?) h1
  simpa using this

set_option maxRecDepth 100000 in
theorem steps_of_script {H : Type} {enc : TypeId × Value → H} {W : World} {a0 : Option Addr} {len cap : Nat} {d : DataW H} {ps : List MemPlace}
    (h : DataW.Trod enc Tryz.prog W 0 (fun _ => true) true 22 (.slice a0 len cap) d ps) : StepsAt W (.slice a0 len cap) := by
  obtain ⟨fuel, hf⟩ := h
  rcases Deep.open_slice Tryz.underlying22 hf with ⟨hcs, _⟩ | ⟨a, l, c, m, n, D, Pl, hcs, _, hl, hm, hmm, _, hall⟩
  · simp [Value.cells] at hcs
    obtain ⟨rfl, rfl, rfl⟩ := hcs
    exact ⟨none, 0, 0, rfl, by decide, fun k hk => absurd hk (by omega)⟩
  · simp [Value.cells] at hcs
    obtain ⟨rfl, rfl, rfl⟩ := hcs
    refine ⟨some a, len, cap, rfl, Nat.le_trans hl hm, fun k hk => ?_⟩
    obtain ⟨cs, hcells, htrod⟩ := hall k (by rw [hmm]; simp; omega)
    rw [cellsStep] at hcells
    obtain ⟨hb, hlen, hcell⟩ := World.cells?_some hcells
    obtain ⟨xs, n', _, _, hlen2, hxl, hfld⟩ := DataW.trod_struct Tryz.underlying32 htrod
    have hx : ∀ i, i < 6 → ∃ x, xs[i]? = some x := fun i hi => ⟨_, List.getElem?_eq_getElem (by rw [hxl]; exact hi)⟩
    obtain ⟨x0, e0⟩ := hx 0 (by omega)
    obtain ⟨x1, e1⟩ := hx 1 (by omega)
    obtain ⟨x2, e2⟩ := hx 2 (by omega)
    obtain ⟨x3, e3⟩ := hx 3 (by omega)
    obtain ⟨x4, e4⟩ := hx 4 (by omega)
    obtain ⟨x5, e5⟩ := hx 5 (by omega)
    obtain ⟨k0, q0⟩ := step_int hcell hlen (i := 0) (by omega) ((hfld 0 _ rfl).trans e0)
    obtain ⟨k1, q1⟩ := step_int hcell hlen (i := 1) (by omega) ((hfld 1 _ rfl).trans e1)
    obtain ⟨k2, q2⟩ := step_int hcell hlen (i := 2) (by omega) ((hfld 2 _ rfl).trans e2)
    obtain ⟨s3, q3, z3⟩ := step_str hcell hlen (i := 3) (by omega) ((hfld 3 _ rfl).trans e3)
    obtain ⟨s4, q4, z4⟩ := step_str hcell hlen (i := 4) (by omega) ((hfld 4 _ rfl).trans e4)
    obtain ⟨s5, q5, z5⟩ := step_str hcell hlen (i := 5) (by omega) ((hfld 5 _ rfl).trans e5)
    have hblk : a.block < W.heap.size := by
      have := World.block_lt_of_cell? W _ q1
      rw [Deep.add_add] at this
      simpa [Addr.add] using this
    have hsp : a.spot = none := by
      obtain ⟨cs', hcells', _⟩ := hall 0 (by rw [hmm]; simp; omega)
      rw [cellsStep] at hcells'
      obtain ⟨_, hlen', hcell'⟩ := World.cells?_some hcells'
      have h1 := hcell' 0 (by omega)
      rw [List.getElem?_eq_getElem (by omega)] at h1
      have h2 := spot_none h1
      simpa [Addr.add] using h2
    simp only [Deep.add_add] at q0 q1 q2 q3 q4 q5
    obtain ⟨b, o, sp⟩ := a
    simp only at hsp
    subst hsp
    refine ⟨b, o, k0, k1, k2, s3, s4, s5, rfl, hblk, ?_, ?_, ?_, ?_, ?_, ?_, z3, z4⟩
    · simpa using cell_plain q0 rfl
    · simpa [Nat.add_assoc] using cell_plain q1 rfl
    · simpa [Nat.add_assoc] using cell_plain q2 rfl
    · simpa [Nat.add_assoc] using cell_plain q3 rfl
    · simpa [Nat.add_assoc] using cell_plain q4 rfl
    · simpa [Nat.add_assoc] using cell_plain q5 rfl

end Go.Proofs.YtcbckkenifmchaaGreatDoor

/-
  PROVED HERE: the given cards of the laws 'Programs' and 'Queries', wherever the program's own Program and Query answer as the document does (a condition of each theorem here, shown elsewhere).
-/
namespace Go.Proofs.YtcbckkenifmchaaGreatDoor
open Go.ChangeShapes Go.WideShapes Go.ChangeAt Go.WideMaps Go.WideElems Go.RowKit
set_option linter.unusedSimpArgs false
set_option linter.unusedVariables false

theorem programs_door (os : Os) (args : Array Value) : laidMetH Tryz.prog Rows.programsRow.laid ((World.doorLaid Tryz.prog 400 os).forCall (fun _ _ => 0) ⟨#[], args, []⟩).memory :=
  laidMetH_of_parts3 (fuel := 8) (laidMet_of_run' 8 (by kernel_rfl) (by kernel_rfl)) (by kernel_rfl) (by kernel_rfl)
theorem queries_door (os : Os) (args : Array Value) : laidMetH Tryz.prog Rows.queriesRow.laid ((World.doorLaid Tryz.prog 400 os).forCall (fun _ _ => 0) ⟨#[], args, []⟩).memory :=
  laidMetH_of_parts3 (fuel := 8) (laidMet_of_run' 8 (by kernel_rfl) (by kernel_rfl)) (by kernel_rfl) (by kernel_rfl)
set_option maxRecDepth 100000 in
theorem programs_lifted (HC : ProgramCode) (os : Os) (started : os.Started) (H : Type) (enc : TypeId × Value → H) :
    ReturnsInHanded {} Tryz.checked os 3 .any (fun w args => (Rows.programsSpec.pre enc Tryz.prog Tryz.f3 [] false w args ∧ laidMetH Tryz.prog Rows.programsRow.laid w) ∧ sizedMet enc Tryz.prog Tryz.f3 (OpenSpec.ofChange Rows.programsSpec) false w args)
      (Rows.programsSpec.post enc Tryz.prog Tryz.f3 false true false false) := by
  refine returnsInHanded_of_change_and (C := Tryz.checked) (X := fun w _ => laidMetH Tryz.prog Rows.programsRow.laid w) (fun _ _ _ hh h => h.of_heap hh) own started (by kernel_rfl) Tryz.func3
    (ChangeSpec.witness_shaped (enc := enc) (C := Tryz.checked) (os := os) (X := fun w _ => laidMetH Tryz.prog Rows.programsRow.laid w) false (World.doorLaid Tryz.prog 400 os) #[.slice none 0 0] 8 rfl (World.shaped_of_RefB (by kernel_rfl) (by kernel_rfl)) (by kernel_rfl) (by kernel_rfl) (by kernel_rfl) (programs_door os _)) ?_
  intro W base args ds gs before hval0 hW _ _ hL _
  have hval : ∀ (j : Nat) t v, Tryz.f3.params[j]? = some t → args[j]? = some v → Value.okWide Tryz.prog W .any base t v := hval0
  have hW' := hW
  obtain ⟨p, q, hA0, hV, rfl, hfz, hnd⟩ := hW
  have hA : DataW.TrodAll enc Tryz.prog W 0 (fun _ => true) true Tryz.f3.params.toList args.toList ds p := hA0
  rw [Tryz.params3] at hA hval
  obtain ⟨v0, d0, rfl, rfl, h0⟩ := trodAll_one hA
  obtain ⟨rfl, rfl⟩ := trodVars_none hV
  have lt0 : ∀ x ∈ p, x.block < W.heap.size := by obtain ⟨m, hm⟩ := h0; exact DataW.trod_lt m _ _ _ hm
  obtain ⟨a0, len0, cap0, rfl⟩ := okWide_slice Tryz.underlying22 (hval 0 22 v0 rfl rfl)
  have hst := steps_of_script h0
  clear hA0 hval0
  refine (programs_walk HC _ W hst).mono fun e W' ⟨he, bel⟩ => ?_
  subst he
  exact ⟨_, rfl, _, _, _, [], _, [], hW', trodAll_mk1 (shut_bool Tryz.underlying4 _), trodAll_mk1 (Below.trod laidOut (by kernel_rfl) (of_decide_eq_true (by kernel_rfl)) h0 bel lt0), rfl, bel.frame _, fun h => by cases h⟩

theorem programs_row (HC : ProgramCode) : Rows.ProgramsSaid :=
  OpenClaim.holds_of_wide 3 Tryz.f3 rfl rfl rfl rfl rfl rfl rfl ⟨rfl, rfl, rfl, rfl, rfl⟩ rfl rfl rfl rfl rfl (by kernel_rfl) Tryz.func3 (by kernel_rfl)
    (of_decide_eq_true (by kernel_rfl)) (by unfold Func.isWrapper; first | (rw [if_pos (by decide +kernel)]; kernel_rfl) | (rw [if_neg (by decide +kernel)]; exact ⟨rfl, rfl⟩))
    (fun os started H enc _ => programs_lifted HC os started H enc)

theorem programs_card (HC : ProgramCode) : Rows.ProgramsCardSaid :=
  Claim7.holds_tied_plain_at .later [] [.data, .data, .data] true Rows.programsCard.stood.harness false
    (programs_row HC) (fun _ h => by cases h) (by kernel_rfl) (fun _ h => by cases h) programs_row_tie rfl ⟨rfl, rfl⟩ (by kernel_rfl) rfl
    (fun f fn hf hfn => by
      obtain rfl : f = 3 := Option.some.inj ((show Tryz.prog.funcNamed Tryz.f3.name = some 3 by kernel_rfl).symm.trans hf) |>.symm
      obtain rfl : fn = Tryz.f3 := (Option.some.inj (Tryz.func3.symm.trans hfn)).symm
      exact ⟨by kernel_rfl, fun j t ht => by
        rw [Tryz.params3] at ht
        have hm : t ∈ [22] := by simpa using Array.mem_of_getElem? ht
        have hall : ([22].all fun u => !Tryz.prog.wantsStandIn u) = true := by kernel_rfl
        exact (show Tryz.prog.wantsStandIn t = false by simpa using List.all_eq_true.1 hall t hm)⟩)
    (by kernel_rfl)

set_option maxRecDepth 100000 in
theorem queries_lifted (HC : QueryCode) (os : Os) (started : os.Started) (H : Type) (enc : TypeId × Value → H) :
    ReturnsInHanded {} Tryz.checked os 4 .any (fun w args => (Rows.queriesSpec.pre enc Tryz.prog Tryz.f4 [] false w args ∧ laidMetH Tryz.prog Rows.queriesRow.laid w) ∧ sizedMet enc Tryz.prog Tryz.f4 (OpenSpec.ofChange Rows.queriesSpec) false w args)
      (Rows.queriesSpec.post enc Tryz.prog Tryz.f4 false true false false) := by
  refine returnsInHanded_of_change_and (C := Tryz.checked) (X := fun w _ => laidMetH Tryz.prog Rows.queriesRow.laid w) (fun _ _ _ hh h => h.of_heap hh) own started (by kernel_rfl) Tryz.func4
    (ChangeSpec.witness_shaped (enc := enc) (C := Tryz.checked) (os := os) (X := fun w _ => laidMetH Tryz.prog Rows.queriesRow.laid w) false (World.doorLaid Tryz.prog 400 os) #[.slice none 0 0] 8 rfl (World.shaped_of_RefB (by kernel_rfl) (by kernel_rfl)) (by kernel_rfl) (by kernel_rfl) (by kernel_rfl) (queries_door os _)) ?_
  intro W base args ds gs before hval0 hW _ _ hL _
  have hval : ∀ (j : Nat) t v, Tryz.f4.params[j]? = some t → args[j]? = some v → Value.okWide Tryz.prog W .any base t v := hval0
  have hW' := hW
  obtain ⟨p, q, hA0, hV, rfl, hfz, hnd⟩ := hW
  have hA : DataW.TrodAll enc Tryz.prog W 0 (fun _ => true) true Tryz.f4.params.toList args.toList ds p := hA0
  rw [Tryz.params4] at hA hval
  obtain ⟨v0, d0, rfl, rfl, h0⟩ := trodAll_one hA
  obtain ⟨rfl, rfl⟩ := trodVars_none hV
  have lt0 : ∀ x ∈ p, x.block < W.heap.size := by obtain ⟨m, hm⟩ := h0; exact DataW.trod_lt m _ _ _ hm
  obtain ⟨a0, len0, cap0, rfl⟩ := okWide_slice Tryz.underlying22 (hval 0 22 v0 rfl rfl)
  have hst := steps_of_script h0
  clear hA0 hval0
  refine (queries_walk HC _ W hst).mono fun e W' ⟨he, bel⟩ => ?_
  subst he
  exact ⟨_, rfl, _, _, _, [], _, [], hW', trodAll_mk1 (shut_bool Tryz.underlying4 _), trodAll_mk1 (Below.trod laidOut (by kernel_rfl) (of_decide_eq_true (by kernel_rfl)) h0 bel lt0), rfl, bel.frame _, fun h => by cases h⟩

theorem queries_row (HC : QueryCode) : Rows.QueriesSaid :=
  OpenClaim.holds_of_wide 4 Tryz.f4 rfl rfl rfl rfl rfl rfl rfl ⟨rfl, rfl, rfl, rfl, rfl⟩ rfl rfl rfl rfl rfl (by kernel_rfl) Tryz.func4 (by kernel_rfl)
    (of_decide_eq_true (by kernel_rfl)) (by unfold Func.isWrapper; first | (rw [if_pos (by decide +kernel)]; kernel_rfl) | (rw [if_neg (by decide +kernel)]; exact ⟨rfl, rfl⟩))
    (fun os started H enc _ => queries_lifted HC os started H enc)

theorem queries_card (HC : QueryCode) : Rows.QueriesCardSaid :=
  Claim7.holds_tied_plain_at .later [] [.data, .data, .data] true Rows.queriesCard.stood.harness false
    (queries_row HC) (fun _ h => by cases h) (by kernel_rfl) (fun _ h => by cases h) queries_row_tie rfl ⟨rfl, rfl⟩ (by kernel_rfl) rfl
    (fun f fn hf hfn => by
      obtain rfl : f = 4 := Option.some.inj ((show Tryz.prog.funcNamed Tryz.f4.name = some 4 by kernel_rfl).symm.trans hf) |>.symm
      obtain rfl : fn = Tryz.f4 := (Option.some.inj (Tryz.func4.symm.trans hfn)).symm
      exact ⟨by kernel_rfl, fun j t ht => by
        rw [Tryz.params4] at ht
        have hm : t ∈ [22] := by simpa using Array.mem_of_getElem? ht
        have hall : ([22].all fun u => !Tryz.prog.wantsStandIn u) = true := by kernel_rfl
        exact (show Tryz.prog.wantsStandIn t = false by simpa using List.all_eq_true.1 hall t hm)⟩)
    (by kernel_rfl)

end Go.Proofs.YtcbckkenifmchaaGreatDoor
