/-
  PROVED HERE: what the method 'take' of the program's reader leaves (the conditions stand in each statement).
-/
import Derived.Test.YtcbckkenifmchaaGreatDoorCodeEnd2
namespace Go.Proofs.YtcbckkenifmchaaGreatDoor
open Go.RowKit
set_option linter.unusedSimpArgs false
set_option linter.unusedVariables false

/-- A token has been taken. -/
def takeS (st : RS) (kd : Nat) (t : List UInt8) : RS :=
  if kd = 1 then { addS st ⟨t, 0, 0⟩ with next := 3 }
  else if kd = 2 then { addS (varS st t) ⟨[], (numberOf st.vars t).2, 0⟩ with next := 4 }
  else if kd = 3 then { st with opn := (st.atom.length - 1) :: st.opn, next := 2 }
  else if kd = 4 then { closeS st with next := 4 }
  else if kd = 5 then commaS st
  else if kd = 7 then { endAtomS st with inBody := true, next := 1 }
  else if kd = 6 then endClauseS (endAtomS st)
  else st

theorem add_any (w : World) (B rb : Nat) (st : RS) (s : Sym) (h : IsRx w B rb st) (hb : RBd st) (ho : ∀ n ∈ st.opn, n < st.atom.length) :
    Calls Tryz.prog 107 #[.pointer (some ⟨rb, 0, none⟩), .agg #[.string ⟨s.name.toArray⟩, .int .i64 s.num, .int .i64 s.args]] w fun e w' => e = .returned (.tuple #[]) ∧ IsRx w' B rb (addS st s) ∧ Held B w w' := by
  cases hst : st.opn with
  | nil => exact add_top w B rb st s h hb hst
  | cons n r => exact add_in w B rb st s n r h hb hst (ho n (by simp [hst]))

set_option maxRecDepth 10000 in
set_option maxHeartbeats 1000000 in
theorem take1 (w : World) (B rb : Nat) (st : RS) (t : List UInt8) (h : IsRx w B rb st) (hb : RBd st) (ho : ∀ n ∈ st.opn, n < st.atom.length) :
    Calls Tryz.prog 79 #[.pointer (some ⟨rb, 0, none⟩), .int .i64 1, .string ⟨t.toArray⟩] w fun e w' => e = .returned (.tuple #[]) ∧ IsRx w' B rb (takeS st 1 t) ∧ Held B w w' := by
  have HA := hide' (add_any w B rb st ⟨t, 0, 0⟩ h hb ho)
  clear h ho
  go_enter Tryz.func79, Tryz.ntmps79
  go_wp2_with fail
  refine HA.out.mono ?_
  rintro e w1 ⟨rfl, h1, hB1⟩
  obtain ⟨hrb1, d0, d1, d2, _, df⟩ := h1.cells
  have H1 := hide' h1
  have HB1 := hide' hB1
  clear h1 hB1
  go_wp2
  go_end0
  obtain ⟨hR, hB⟩ := H1.out.next 3
  exact ⟨rfl, hR, HB1.out.trans hB⟩

set_option maxRecDepth 10000 in
set_option maxHeartbeats 1000000 in
theorem take2 (w : World) (B rb : Nat) (st : RS) (t : List UInt8) (h : IsRx w B rb st) (hb : RBd st) (hv : st.vars.length ≤ 4096) (ho : ∀ n ∈ st.opn, n < st.atom.length) :
    Calls Tryz.prog 79 #[.pointer (some ⟨rb, 0, none⟩), .int .i64 2, .string ⟨t.toArray⟩] w fun e w' => e = .returned (.tuple #[]) ∧ IsRx w' B rb (takeS st 2 t) ∧ Held B w w' := by
  have HV := hide' (variable_any w B rb st t h hv)
  have Hb := hide' hb
  have Ho := hide' ho
  clear h ho
  go_enter Tryz.func79, Tryz.ntmps79
  go_wp2_with fail
  refine HV.out.mono ?_
  rintro e w0 ⟨rfl, h0, hB0⟩
  have HA := hide' (add_any w0 B rb (varS st t) ⟨[], (numberOf st.vars t).2, 0⟩ h0 ⟨Hb.out.opn, Hb.out.atom, Hb.out.body, Hb.out.cls, Hb.out.args⟩ Ho.out)
  have HB0 := hide' hB0
  clear h0 hB0
  go_wp2_with fail
  refine HA.out.mono ?_
  rintro e w1 ⟨rfl, h1, hB1⟩
  obtain ⟨hrb1, d0, d1, d2, _, df⟩ := h1.cells
  have H1 := hide' h1
  have HB1 := hide' hB1
  clear h1 hB1
  go_wp2
  go_end0
  obtain ⟨hR, hB⟩ := H1.out.next 4
  exact ⟨rfl, hR, HB0.out.trans (HB1.out.trans hB)⟩

set_option maxRecDepth 10000 in
set_option maxHeartbeats 1000000 in
theorem take4 (w : World) (B rb : Nat) (st : RS) (t : List UInt8) (h : IsRx w B rb st) (hb : RBd st) :
    Calls Tryz.prog 79 #[.pointer (some ⟨rb, 0, none⟩), .int .i64 4, .string ⟨t.toArray⟩] w fun e w' => e = .returned (.tuple #[]) ∧ IsRx w' B rb (takeS st 4 t) ∧ Held B w w' := by
  have HA := hide' (close_any w B rb st h hb.opn)
  clear h
  go_enter Tryz.func79, Tryz.ntmps79
  go_wp2_with fail
  refine HA.out.mono ?_
  rintro e w1 ⟨rfl, h1, hB1⟩
  obtain ⟨hrb1, d0, d1, d2, _, df⟩ := h1.cells
  have H1 := hide' h1
  have HB1 := hide' hB1
  clear h1 hB1
  go_wp2
  go_end0
  obtain ⟨hR, hB⟩ := H1.out.next 4
  exact ⟨rfl, hR, HB1.out.trans hB⟩

set_option maxRecDepth 10000 in
set_option maxHeartbeats 1000000 in
theorem take5 (w : World) (B rb : Nat) (st : RS) (t : List UInt8) (h : IsRx w B rb st) (hb : RBd st) :
    Calls Tryz.prog 79 #[.pointer (some ⟨rb, 0, none⟩), .int .i64 5, .string ⟨t.toArray⟩] w fun e w' => e = .returned (.tuple #[]) ∧ IsRx w' B rb (takeS st 5 t) ∧ Held B w w' := by
  have HA := hide' (comma_any w B rb st h hb)
  clear h
  go_enter Tryz.func79, Tryz.ntmps79
  go_wp2_with fail
  refine HA.out.mono ?_
  rintro e w1 ⟨rfl, h1, hB1⟩
  have H1 := hide' h1
  have HB1 := hide' hB1
  clear h1 hB1
  go_wp2
  go_end0
  exact ⟨rfl, H1.out, HB1.out⟩

set_option maxRecDepth 10000 in
set_option maxHeartbeats 1000000 in
theorem take7 (w : World) (B rb : Nat) (st : RS) (t : List UInt8) (h : IsRx w B rb st) (hb : RBd st) :
    Calls Tryz.prog 79 #[.pointer (some ⟨rb, 0, none⟩), .int .i64 7, .string ⟨t.toArray⟩] w fun e w' => e = .returned (.tuple #[]) ∧ IsRx w' B rb (takeS st 7 t) ∧ Held B w w' := by
  have HA := hide' (endAtom_any w B rb st h hb)
  clear h
  go_enter Tryz.func79, Tryz.ntmps79
  go_wp2_with fail
  refine HA.out.mono ?_
  rintro e w1 ⟨rfl, h1, hB1⟩
  obtain ⟨hrb1, d0, d1, d2, _, df⟩ := h1.cells
  have H1 := hide' h1
  have HB1 := hide' hB1
  clear h1 hB1
  go_wp2
  go_end0
  obtain ⟨hR, hB⟩ := H1.out.inb true
  obtain ⟨hR2, hB2⟩ := hR.next 1
  exact ⟨rfl, hR2, HB1.out.trans (hB.trans hB2)⟩

theorem RBd.endAtom {st : RS} (hb : RBd st) (h : st.body.length + 1 ≤ 4096) : RBd (endAtomS st) := by
  unfold endAtomS
  split
  · exact ⟨hb.opn, by simp, by simpa using h, hb.cls, by simp⟩
  · exact ⟨hb.opn, by simp, hb.body, hb.cls, by simp⟩

set_option maxRecDepth 10000 in
set_option maxHeartbeats 1000000 in
theorem take6 (w : World) (B rb : Nat) (st : RS) (t : List UInt8) (h : IsRx w B rb st) (hb : RBd st) (hbd : st.body.length + 1 ≤ 4096) :
    Calls Tryz.prog 79 #[.pointer (some ⟨rb, 0, none⟩), .int .i64 6, .string ⟨t.toArray⟩] w fun e w' => e = .returned (.tuple #[]) ∧ IsRx w' B rb (takeS st 6 t) ∧ Held B w w' := by
  have HA := hide' (endAtom_any w B rb st h hb)
  have Hb := hide' (hb.endAtom hbd)
  clear h
  go_enter Tryz.func79, Tryz.ntmps79
  go_wp2_with fail
  refine HA.out.mono ?_
  rintro e w1 ⟨rfl, h1, hB1⟩
  have HC := hide' (endClause_any w1 B rb (endAtomS st) h1 Hb.out)
  have HB1 := hide' hB1
  clear h1 hB1
  go_wp2_with fail
  refine HC.out.mono ?_
  rintro e w2 ⟨rfl, h2, hB2⟩
  have H2 := hide' h2
  have HB2 := hide' hB2
  clear h2 hB2
  go_wp2
  go_end0
  exact ⟨rfl, H2.out, HB1.out.trans HB2.out⟩

set_option maxRecDepth 10000 in
set_option maxHeartbeats 2000000 in
theorem take3 (w : World) (B rb : Nat) (st : RS) (t : List UInt8) (h : IsRx w B rb st) (hb : RBd st) (hne : 0 < st.atom.length) :
    Calls Tryz.prog 79 #[.pointer (some ⟨rb, 0, none⟩), .int .i64 3, .string ⟨t.toArray⟩] w fun e w' => e = .returned (.tuple #[]) ∧ IsRx w' B rb (takeS st 3 t) ∧ Held B w w' := by
  obtain ⟨V, Sa, Sb, vs, xs, h⟩ := h
  have hrb := lt_of_block h.blk
  have hBw : B ≤ w.heap.size := by have := h.le; omega
  obtain ⟨c0, c1, c2, c3, c4, c5, c6, c7, c8⟩ := h.opens.facts
  have hf := fun i => thawed_of_block h.blk i
  obtain ⟨aa, acap, hva⟩ := owns_slice h.rest.atom
  obtain ⟨oa, ocap, hvo⟩ := owns_slice h.rest.opn
  have hlo := hb.opn
  have hla := hb.atom
  have hor := h.rest.opn
  rw [hvo] at hor c4
  rw [hva] at c3
  have H := hide' h
  have Hor := hide' hor
  have Hvo := hide' hvo
  have hcast : IntKind.i64.wrap (((st.atom.length : Nat) : Int) - 1) = ((st.atom.length - 1 : Nat) : Int) := by rw [IntKind.wrap_i64]; omega
  clear h hva hvo hor
  go_enter Tryz.func79, Tryz.ntmps79
  go_wp2_with fail
  go_region_law (refine step_append1 (w.drewN 1) rfl (.tmp 35) (.tmp 42) 28 rfl B 3 Tryz.infoInt Tryz.underlying28 rfl (by decide) (.slice oa st.opn.length ocap) st.opn.length (ints st.opn.reverse) rfl Hor.out #[.int .i64 ((st.atom.length - 1 : Nat) : Int)] rfl (by simp) rfl (int_one _) (by omega) (by simp; omega) rfl ?_; intro v' w2 hap; obtain ⟨o1, o1cap, rfl⟩ := owns_slice hap.owns; have hblk1 := blk_after0 hap.kept H.out.blk (owns_apart Hor.out (by decide) H.out.blk); have d1 : w2.cell? ⟨rb, 1, none⟩ = some (.int .i64 st.next) := cell_of_block hblk1 1 _ rfl; have d4 : w2.cell? ⟨rb, 4, none⟩ = some V.o := cell_of_block hblk1 4 _ rfl; have df := fun i => thawed_of_block hblk1 i; have Hap := hide' hap; have Hblk1 := hide' hblk1; clear hap hblk1)
  all_goals
    rw [Hvo.out] at d4
    go_wp2
    go_end0
    have hk : Kept (touch rb V.o) w (w2.setCell ⟨rb, 4, none⟩ (.slice o1 (st.opn.length + 1) o1cap)) := by
      rw [Hvo.out]
      exact touch_put (((Kept.refl _ w).drewN _).trans Hap.out.kept) 4 _
    have hrow : (w2.setCell ⟨rb, 4, none⟩ (.slice o1 (st.opn.length + 1) o1cap)).ownsRow B 3 1 (.slice o1 (st.opn.length + 1) o1cap) ((st.atom.length - 1) :: st.opn).length (ints ((st.atom.length - 1) :: st.opn).reverse) := by
      have h2 := Hap.out.owns
      have h3 := ((Kept.refl (only rb) w2).put 4 (.slice o1 (st.opn.length + 1) o1cap)).owns h2 (fun k hko e => by
        have e : k = rb := e
        rw [e] at hko
        exact owns_apart h2 (by decide) Hblk1.out hko)
      simpa [ints, hcast] using h3
    have hR := H.out.opened hk ((st.atom.length - 1) :: st.opn) (.slice o1 (st.opn.length + 1) o1cap) (block_set Hblk1.out 4 _) hrow
    have hB := H.out.below hk H.out.rest.opn (by decide)
    obtain ⟨hR2, hB2⟩ := IsRx.next ⟨_, Sa, Sb, vs, xs, hR⟩ 2
    exact ⟨rfl, hR2, hB.trans hB2⟩

/-- What 'take' asks for. -/
structure TakeOk (st : RS) (kd : Nat) : Prop where
  bd : RBd st
  vars : st.vars.length ≤ 4096
  body : st.body.length + 1 ≤ 4096
  opn : ∀ n ∈ st.opn, n < st.atom.length
  lo : 1 ≤ kd
  hi : kd ≤ 7
  bracket : kd = 3 → 0 < st.atom.length

theorem take_any (w : World) (B rb : Nat) (st : RS) (kd : Nat) (t : List UInt8) (h : IsRx w B rb st) (hk : TakeOk st kd) :
    Calls Tryz.prog 79 #[.pointer (some ⟨rb, 0, none⟩), .int .i64 kd, .string ⟨t.toArray⟩] w fun e w' => e = .returned (.tuple #[]) ∧ IsRx w' B rb (takeS st kd t) ∧ Held B w w' := by
  obtain ⟨bd, vars, body, opn, lo, hi, bracket⟩ := hk
  have hc : kd = 1 ∨ kd = 2 ∨ kd = 3 ∨ kd = 4 ∨ kd = 5 ∨ kd = 6 ∨ kd = 7 := by omega
  rcases hc with rfl | rfl | rfl | rfl | rfl | rfl | rfl
  · exact take1 w B rb st t h bd opn
  · exact take2 w B rb st t h bd vars opn
  · exact take3 w B rb st t h bd (bracket rfl)
  · exact take4 w B rb st t h bd
  · exact take5 w B rb st t h bd
  · exact take6 w B rb st t h bd body
  · exact take7 w B rb st t h bd

end Go.Proofs.YtcbckkenifmchaaGreatDoor
