/-
  PROVED HERE: what the writing methods 'closeBracket', 'variable' of the program's reader leave (the conditions stand in each statement).
-/
import Derived.Test.YtcbckkenifmchaaGreatDoorCodeUpd
import Derived.BigRegion
import Derived.Deep.RegionLaw
import Derived.Deep.RegionLawGrows
namespace Go.Proofs.YtcbckkenifmchaaGreatDoor
open Go.RowKit
set_option linter.unusedSimpArgs false
set_option linter.unusedVariables false

/-- A reading, in whatever rows. -/
def IsRx (w : World) (B rb : Nat) (st : RS) : Prop := ∃ V Sa Sb vs xs, IsR w B rb st V Sa Sb vs xs

theorem touch_put {w w1 : World} {rb : Nat} {X : Value} (h : Kept (ownOf X) w w1) (i : Nat) (u : Value) : Kept (touch rb X) w (w1.setCell ⟨rb, i, none⟩ u) :=
  Kept.setCell (S := touch rb X) (h.mono (fun _ _ e => Or.inr e)) (p := ⟨rb, i, none⟩) (fun _ => Or.inl rfl) u
theorem touch_more {w w1 : World} {rb : Nat} {X : Value} (h : Kept (touch rb X) w w1) (i : Nat) (u : Value) : Kept (touch rb X) w (w1.setCell ⟨rb, i, none⟩ u) :=
  Kept.setCell (S := touch rb X) h (p := ⟨rb, i, none⟩) (fun _ => Or.inl rfl) u

def closeS (st : RS) : RS := { st with opn := st.opn.tail }

set_option maxRecDepth 10000 in
set_option maxHeartbeats 800000 in
theorem close_any (w : World) (B rb : Nat) (st : RS) (h : IsRx w B rb st) (hl : st.opn.length ≤ 4096) :
    Calls Tryz.prog 109 #[.pointer (some ⟨rb, 0, none⟩)] w fun e w' => e = .returned (.tuple #[]) ∧ IsRx w' B rb (closeS st) ∧ Held B w w' := by
  obtain ⟨V, Sa, Sb, vs, xs, h⟩ := h
  obtain ⟨c0, c1, c2, c3, c4, c5, c6, c7, c8⟩ := h.opens.facts
  have hf := fun i => thawed_of_block h.blk i
  have hrb := lt_of_block h.blk
  obtain ⟨oa, ocap, hvo⟩ := owns_slice h.rest.opn
  cases hst : st.opn with
  | nil =>
    rw [hvo] at c4
    simp only [hst, List.length_nil] at c4
    have Hr : Hid (closeS st = st) := by
      show _ = _
      cases st
      simp only at hst
      subst hst
      rfl
    have H := hide' h
    clear h hvo hst
    go_enter Tryz.func109, Tryz.ntmps109
    go_wp2
    go_end0
    rw [Hr.out]
    exact ⟨rfl, ⟨V, Sa, Sb, vs, xs, H.out⟩, Held.refl _ _⟩
  | cons n r =>
    have hrl : r.length + 1 ≤ 4096 := by rw [hst] at hl; simpa using hl
    have hop := h.rest.opn
    rw [hst, hvo, hst] at hop
    obtain ⟨g, gcap, gcur, he, hBg, hg, hcap⟩ := owns_some hop (by simp)
    simp only [Value.slice.injEq] at he
    obtain ⟨rfl, _, rfl⟩ := he
    rw [hvo] at c4
    simp only [hst, List.length_cons] at c4 hcap hop
    have hpop := owns_pop (n := r.length) hop
    have hvo' : V.o = .slice (some ⟨g, 0, none⟩) (r.length + 1) ocap := by rw [hvo, hst]; rfl
    have H := hide' h
    have Hst := hide' hst
    have Hpop := hide' hpop
    have Hvo := hide' hvo'
    clear h hvo hst hop hg hpop hvo'
    go_enter Tryz.func109, Tryz.ntmps109
    go_wp2_with fail
    go_region
    go_end0
    have hk : Kept (touch rb V.o) w (w.setCell ⟨rb, 4, none⟩ (.slice (some ⟨g, 0, none⟩) r.length ocap)) := (Kept.refl _ w).setCell (p := ⟨rb, 4, none⟩) (fun _ => Or.inl rfl) _
    have hpop' : (w.setCell ⟨rb, 4, none⟩ (.slice (some ⟨g, 0, none⟩) r.length ocap)).ownsRow B 3 1 (.slice (some ⟨g, 0, none⟩) r.length ocap) r.length (ints r.reverse) := by
      have e : (ints (n :: r).reverse).take r.length = ints r.reverse := by simp [ints]
      have h2 := Hpop.out
      rw [e] at h2
      exact ((Kept.refl (only rb) w).put 4 _).owns h2 (fun k hko e => by
        have e : k = rb := e
        rw [e] at hko
        exact owns_apart h2 (by decide) H.out.blk hko)
    have hR := H.out.opened hk r (.slice (some ⟨g, 0, none⟩) r.length ocap) (block_set H.out.blk 4 _) hpop'
    have hc : closeS st = { st with opn := r } := by simp [closeS, Hst.out]
    rw [hc]
    refine ⟨rfl, ⟨_, Sa, Sb, vs, xs, ⟨hR.blk, ⟨hR.rest.atom, hR.rest.opn, hR.rest.vars, hR.rest.head, hR.rest.body, hR.rest.cls, hR.rest.ta, hR.rest.tb, hR.rest.la, hR.rest.lb⟩, hR.le⟩⟩, ?_⟩
    exact (H.out.below hk H.out.rest.opn (by decide)).drew

/-- The number of a variable, and the variables behind it. -/
def varS (st : RS) (t : List UInt8) : RS := { st with vars := (numberOf st.vars t).1 }

set_option maxRecDepth 10000 in
set_option maxHeartbeats 800000 in
theorem variable_any (w : World) (B rb : Nat) (st : RS) (t : List UInt8) (h : IsRx w B rb st) (hl : st.vars.length ≤ 4096) :
    Calls Tryz.prog 108 #[.pointer (some ⟨rb, 0, none⟩), .string ⟨t.toArray⟩] w fun e w' => e = .returned (.int .i64 (numberOf st.vars t).2) ∧ IsRx w' B rb (varS st t) ∧ Held B w w' := by
  obtain ⟨V, Sa, Sb, vs, xs, h⟩ := h
  obtain ⟨c0, c1, c2, c3, c4, c5, c6, c7, c8⟩ := h.opens.facts
  have hrb := lt_of_block h.blk
  obtain ⟨va, vcap, hvv⟩ := owns_slice h.rest.vars
  have hown := h.rest.vars
  rw [hvv] at c7 hown
  have H := hide' h
  have Hown := hide' hown
  have Hvv := hide' hvv
  have hBw : B ≤ w.heap.size := by have := h.le; omega
  clear h hown hvv
  go_enter Tryz.func108, Tryz.ntmps108
  go_wp2
  go_loop [13] (fun i => ∃ k : Nat, k ≤ st.vars.length ∧ i = .int .i64 k ∧ t ∉ st.vars.take k) (fun i => st.vars.length - (intOf i).toNat)
  case atStart => exact ⟨0, Nat.zero_le _, rfl, by simp⟩
  case round =>
    obtain ⟨k, hk, rfl, hnot⟩ := hrel
    have Hnot := hide' hnot
    clear hnot
    by_cases hlt : k < st.vars.length
    · obtain ⟨g, cap', cur, he, hBg, hg, hcp⟩ := owns_some Hown.out (by omega)
      simp only [Value.slice.injEq] at he
      obtain ⟨rfl, _, rfl⟩ := he
      obtain ⟨nm, hnm⟩ : ∃ nm, nm = st.vars[k] := ⟨_, rfl⟩
      have hc : w.cell? ⟨g, k, none⟩ = some (.string ⟨nm.toArray⟩) := owns_cell Hown.out k _ (by simp [strs, hlt, hnm])
      have Hnm := hide' hnm
      clear hg hnm
      go_wp2
      · have hq : nm = t := eq_of_beq (by assumption)
        go_ret
        have hr := numberOf_hit hlt (Hnm.out.symm.trans hq) Hnot.out
        rw [varS, hr]
        exact ⟨rfl, ⟨V, Sa, Sb, vs, xs, H.out⟩, Held.refl _ _⟩
      · have hq : nm ≠ t := ne_of_beq_false (by assumption)
        go_round
        case rel => exact ⟨k + 1, by omega, by go_num, not_on hlt (fun h => hq (Hnm.out.trans h)) Hnot.out⟩
        case measure => simp [intOf]; omega
    · have Hmiss := hide' (numberOf_miss hlt Hnot.out)
      go_wp2_with (at_builtin; refine wpList_append1 _ rfl (.tmp 28) (.tmp 30) 36 rfl B 9 Tryz.infoStr Tryz.underlying36 rfl (by decide) _ st.vars.length (strs st.vars) rfl Hown.out _ rfl rfl rfl (str_one _) ?_ hBw ?_)
      · omega
      intro v' w1 hap
      obtain ⟨v1a, v1cap, rfl⟩ := owns_slice hap.owns
      have hnb : ¬ ownOf (.slice va st.vars.length vcap) rb := owns_apart Hown.out (by decide) H.out.blk
      have hblk1 := (hap.kept.block rb hrb hnb).trans H.out.blk
      have d7 : w1.cell? ⟨rb, 7, none⟩ = some V.v := cell_of_block hblk1 7 _ rfl
      rw [Hvv.out] at d7
      have df := fun i => thawed_of_block hblk1 i
      have Hap := hide' hap
      have Hblk1 := hide' hblk1
      clear hap hblk1 c0 c1 c2 c3 c4 c5 c6 c7 c8
      go_wp2
      go_ret
      have hk : Kept (touch rb V.v) w (w1.setCell ⟨rb, 7, none⟩ (.slice v1a (st.vars.length + 1) v1cap)) := by
        rw [Hvv.out]
        exact touch_put Hap.out.kept 7 _
      have hrow : (w1.setCell ⟨rb, 7, none⟩ (.slice v1a (st.vars.length + 1) v1cap)).ownsRow B 9 1 (.slice v1a (st.vars.length + 1) v1cap) (st.vars ++ [t]).length (strs (st.vars ++ [t])) := by
        have h2 := Hap.out.owns
        have h3 := ((Kept.refl (only rb) w1).put 7 (.slice v1a (st.vars.length + 1) v1cap)).owns h2 (fun k hko e => by
          have e : k = rb := e
          rw [e] at hko
          exact owns_apart h2 (by decide) Hblk1.out hko)
        simpa [strs] using h3
      have hR := H.out.named hk (st.vars ++ [t]) (.slice v1a (st.vars.length + 1) v1cap) (block_set Hblk1.out 7 _) hrow
      rw [varS, Hmiss.out]
      refine ⟨ret_int ?_, ⟨_, Sa, Sb, vs, xs, hR⟩, H.out.below hk H.out.rest.vars (by decide)⟩
      omega

end Go.Proofs.YtcbckkenifmchaaGreatDoor
