/-
  PROVED HERE: what the writing methods 'endAtom', 'takeComma', 'endClause' of the program's reader leave (the conditions stand in each statement). what the method 'take' of the program's reader leaves (the conditions stand in each statement). plain facts: what the program's 'Next' finds are the text's tokens; what holds of its reader behind so many tokens (the conditions stand in each statement). what the method 'readAll' of the program's reader answers and leaves (the conditions stand in each statement). what the program's 'clause.atomText' answers (the conditions stand in each statement). what the program's 'reader.Program' and 'reader.Query' answer (the conditions stand in each statement).
-/
import Derived.Test.YtlmjilpjmgjjcaaGreatDoorT6
import Derived.Deep.RegionWith
namespace Go.Proofs.YtlmjilpjmgjjcaaGreatDoor
open Go.RowKit
set_option linter.unusedSimpArgs false
set_option linter.unusedVariables false

def endAtomS (st : RS) : RS := if st.inBody then { st with body := st.body ++ [st.atom], atom := [] } else { st with head := st.atom, atom := [] }

theorem slice_one (a : Option Addr) (n c : Nat) : ∀ u ∈ (#[Value.slice a n c] : Array Value).toList, u.oneCell' = true := by
  intro u hu
  simp at hu
  subst hu
  rfl

set_option maxRecDepth 10000 in
set_option maxHeartbeats 1000000 in
theorem endAtom_any (w : World) (B rb : Nat) (st : RS) (h : IsRx w B rb st) (hb : RBd st) :
    Calls Tryz.prog 172 #[.pointer (some ⟨rb, 0, none⟩)] w fun e w' => e = .returned (.tuple #[]) ∧ IsRx w' B rb (endAtomS st) ∧ Held B w w' := by
  obtain ⟨V, Sa, Sb, vs, xs, h⟩ := h
  have hrb := lt_of_block h.blk
  have hBw : B ≤ w.heap.size := by have := h.le; omega
  obtain ⟨c0, c1, c2, c3, c4, c5, c6, c7, c8⟩ := h.opens.facts
  have hf := fun i => thawed_of_block h.blk i
  obtain ⟨aa, acap, hva⟩ := owns_slice h.rest.atom
  obtain ⟨ba, bcap, hvb⟩ := owns_slice h.rest.body.1
  have hlb := hb.body
  have hbr := h.rest.body.1
  rw [hvb] at hbr c6
  rw [hva] at c3
  obtain ⟨ha, hac, hvh⟩ := owns_slice h.rest.head.1
  rw [hvh] at c5
  have H := hide' h
  have Hbr := hide' hbr
  have Hva := hide' hva
  have Hvb := hide' hvb
  cases hin : st.inBody
  · rw [hin] at c2
    have He : Hid (endAtomS st = { st with head := st.atom, atom := [] }) := by show _ = _; simp [endAtomS, hin]
    clear h hva hvb hbr hvh hin
    go_enter Tryz.func172, Tryz.ntmps172
    go_wp2
    go_end0
    have hk : Kept (touch rb (.slice none 0 0)) w ((w.setCell ⟨rb, 5, none⟩ (.slice aa st.atom.length acap)).setCell ⟨rb, 3, none⟩ (.slice none 0 0)) := touch_more (touch_more (Kept.refl _ w) 5 _) 3 _
    have hblk : ((w.setCell ⟨rb, 5, none⟩ (.slice aa st.atom.length acap)).setCell ⟨rb, 3, none⟩ (.slice none 0 0)).heap[rb]? = some (.cells (rsCells { st with head := st.atom, atom := [] } { V with h := V.a, a := .slice none 0 0 }) 169 (0, 0)) := by
      rw [block_set (block_set H.out.blk 5 _) 3 _]
      simp [rsCells, Hva.out]
    rw [He.out]
    exact ⟨rfl, ⟨_, _, _, _, _, H.out.headed hk hblk⟩, H.out.below hk (World.ownsRow_nil w B 169 1) (by decide)⟩
  · rw [hin] at c2
    have He : Hid (endAtomS st = { st with body := st.body ++ [st.atom], atom := [] }) := by show _ = _; simp [endAtomS, hin]
    clear h hva hvb hbr hvh hin
    go_enter Tryz.func172, Tryz.ntmps172
    go_wp2_with fail
    go_region_law (refine step_append1 (w.drewN 1) rfl (.tmp 11) (.tmp 16) 85 rfl B 105 Tryz.infoSyms Tryz.underlying85 rfl (by decide) (.slice ba st.body.length bcap) st.body.length vs rfl Hbr.out #[.slice aa st.atom.length acap] rfl (by simp) rfl (slice_one _ _ _) (by omega) (by simp; omega) rfl ?_; intro v' w2 hap; obtain ⟨b1, b1cap, rfl⟩ := owns_slice hap.owns; have hblk1 := blk_after0 hap.kept H.out.blk (owns_apart Hbr.out (by decide) H.out.blk); have d3 : w2.cell? ⟨rb, 3, none⟩ = some V.a := cell_of_block hblk1 3 _ rfl; have d6 : w2.cell? ⟨rb, 6, none⟩ = some V.b := cell_of_block hblk1 6 _ rfl; have df := fun i => thawed_of_block hblk1 i; have Hap := hide' hap; have Hblk1 := hide' hblk1; clear hap hblk1)
    all_goals
      rw [Hva.out] at d3
      rw [Hvb.out] at d6
      go_wp2
      go_end0
      have hk : Kept (touch rb V.b) w ((w2.setCell ⟨rb, 6, none⟩ (.slice b1 (st.body.length + 1) b1cap)).setCell ⟨rb, 3, none⟩ (.slice none 0 0)) := by
        rw [Hvb.out]
        exact touch_more (touch_put (((Kept.refl _ w).drewN _).trans Hap.out.kept) 6 _) 3 _
      have hblk : ((w2.setCell ⟨rb, 6, none⟩ (.slice b1 (st.body.length + 1) b1cap)).setCell ⟨rb, 3, none⟩ (.slice none 0 0)).heap[rb]? = some (.cells (rsCells { st with body := st.body ++ [st.atom], atom := [] } { V with b := .slice b1 (st.body.length + 1) b1cap, a := .slice none 0 0 }) 169 (0, 0)) := by
        rw [block_set (block_set Hblk1.out 6 _) 3 _]
        simp [rsCells]
      have hrow : ((w2.setCell ⟨rb, 6, none⟩ (.slice b1 (st.body.length + 1) b1cap)).setCell ⟨rb, 3, none⟩ (.slice none 0 0)).ownsRow B 105 1 (.slice b1 (st.body.length + 1) b1cap) (st.body.length + 1) (vs ++ [V.a]) := by
        have h2 := Hap.out.owns
        have h3 := (((Kept.refl (only rb) w2).put 6 (.slice b1 (st.body.length + 1) b1cap)).put 3 (.slice none 0 0)).owns h2 (fun k hko e => by
          have e : k = rb := e
          rw [e] at hko
          exact owns_apart h2 (by decide) Hblk1.out hko)
        rw [Hva.out]
        simpa using h3
      have htb : ∀ k, (Value.slice b1 (st.body.length + 1) b1cap).ownBlock = some k → Sb ≤ k := by
        intro k hk
        rcases Hap.out.where_ with hw | ⟨g, hw, hg⟩
        · exact H.out.rest.tb k (by rw [Hvb.out, ← hw]; exact hk)
        · rw [hk] at hw
          simp at hw
          have := H.out.rest.lb
          have hg' : w.heap.size ≤ g := by simpa using hg
          omega
      rw [He.out]
      exact ⟨rfl, ⟨_, _, _, _, _, H.out.bodied hk _ hblk hrow htb⟩, H.out.below hk H.out.rest.body.1 (by decide)⟩

end Go.Proofs.YtlmjilpjmgjjcaaGreatDoor

/-
  PROVED HERE: what the writing methods 'takeComma', 'endClause' of the program's reader leave (the conditions stand in each statement).
-/
namespace Go.Proofs.YtlmjilpjmgjjcaaGreatDoor
open Go.RowKit
set_option linter.unusedSimpArgs false
set_option linter.unusedVariables false

theorem IsRx.next {w : World} {B rb : Nat} {st : RS} (h : IsRx w B rb st) (n : Nat) : IsRx (w.setCell ⟨rb, 1, none⟩ (.int .i64 n)) B rb { st with next := n } ∧ Held B w (w.setCell ⟨rb, 1, none⟩ (.int .i64 n)) := by
  obtain ⟨V, Sa, Sb, vs, xs, h⟩ := h
  have hk : Kept (touch rb (.slice none 0 0)) w (w.setCell ⟨rb, 1, none⟩ (.int .i64 n)) := touch_more (Kept.refl _ w) 1 _
  exact ⟨⟨V, Sa, Sb, vs, xs, h.only hk { st with next := n } (block_set h.blk 1 _) rfl rfl rfl rfl rfl rfl⟩, h.below hk (World.ownsRow_nil w B 169 1) (by decide)⟩
theorem IsRx.inb {w : World} {B rb : Nat} {st : RS} (h : IsRx w B rb st) (b : Bool) : IsRx (w.setCell ⟨rb, 2, none⟩ (.bool b)) B rb { st with inBody := b } ∧ Held B w (w.setCell ⟨rb, 2, none⟩ (.bool b)) := by
  obtain ⟨V, Sa, Sb, vs, xs, h⟩ := h
  have hk : Kept (touch rb (.slice none 0 0)) w (w.setCell ⟨rb, 2, none⟩ (.bool b)) := touch_more (Kept.refl _ w) 2 _
  exact ⟨⟨V, Sa, Sb, vs, xs, h.only hk { st with inBody := b } (block_set h.blk 2 _) rfl rfl rfl rfl rfl rfl⟩, h.below hk (World.ownsRow_nil w B 169 1) (by decide)⟩
theorem IsRx.cells {w : World} {B rb : Nat} {st : RS} (h : IsRx w B rb st) : rb < w.heap.size ∧ w.cell? ⟨rb, 0, none⟩ = some (.bool st.query) ∧ w.cell? ⟨rb, 1, none⟩ = some (.int .i64 st.next) ∧ w.cell? ⟨rb, 2, none⟩ = some (.bool st.inBody) ∧
    (∃ oa oc, w.cell? ⟨rb, 4, none⟩ = some (.slice oa st.opn.length oc)) ∧ ∀ i, w.frozen? ⟨rb, i, none⟩ = false := by
  obtain ⟨V, Sa, Sb, vs, xs, h⟩ := h
  obtain ⟨c0, c1, c2, c3, c4, c5, c6, c7, c8⟩ := h.opens.facts
  obtain ⟨oa, oc, hvo⟩ := owns_slice h.rest.opn
  rw [hvo] at c4
  exact ⟨lt_of_block h.blk, c0, c1, c2, ⟨oa, oc, c4⟩, fun i => thawed_of_block h.blk i⟩

def commaS (st : RS) : RS := if st.opn.isEmpty then { endAtomS st with next := 1 } else { st with next := 2 }

set_option maxRecDepth 10000 in
set_option maxHeartbeats 1000000 in
theorem comma_any (w : World) (B rb : Nat) (st : RS) (h : IsRx w B rb st) (hb : RBd st) :
    Calls Tryz.prog 171 #[.pointer (some ⟨rb, 0, none⟩)] w fun e w' => e = .returned (.tuple #[]) ∧ IsRx w' B rb (commaS st) ∧ Held B w w' := by
  obtain ⟨hrb, c0, c1, c2, ⟨oa, oc, c4⟩, hf⟩ := h.cells
  have hl := hb.opn
  have H := hide' h
  have HE := hide' (endAtom_any w B rb st h hb)
  cases hst : st.opn with
  | nil =>
    simp only [hst, List.length_nil] at c4
    have Hc : Hid (commaS st = { endAtomS st with next := 1 }) := by show _ = _; simp [commaS, hst]
    clear h hst
    go_enter Tryz.func171, Tryz.ntmps171
    go_wp2_with fail
    refine HE.out.mono ?_
    rintro e w1 ⟨rfl, h1, hB1⟩
    obtain ⟨hrb1, d0, d1, d2, _, df⟩ := h1.cells
    have H1 := hide' h1
    have HB1 := hide' hB1
    clear h1 hB1 c0 c1 c2 c4 hf
    go_wp2
    go_end0
    obtain ⟨hR, hB⟩ := H1.out.next 1
    rw [Hc.out]
    exact ⟨rfl, hR, HB1.out.trans hB⟩
  | cons n r =>
    have hrl : r.length + 1 ≤ 4096 := by rw [hst] at hl; simpa using hl
    simp only [hst, List.length_cons] at c4
    have Hc : Hid (commaS st = { st with next := 2 }) := by show _ = _; simp [commaS, hst]
    clear h hst
    go_enter Tryz.func171, Tryz.ntmps171
    go_wp2
    refine bodyPost_ret (results_none rfl _ _ _) rfl ?_
    obtain ⟨hR, hB⟩ := H.out.next 2
    rw [Hc.out]
    exact ⟨rfl, hR, hB⟩

def endClauseS (st : RS) : RS := { st with clauses := st.clauses ++ [⟨st.head, st.body, st.vars⟩], head := [], body := [], vars := [], inBody := false, next := if st.query then 5 else 0 }

theorem cls3_one (a b c : Option Addr) (n m k x y z : Nat) : ∀ u ∈ (#[Value.slice a n x, .slice b m y, .slice c k z] : Array Value).toList, u.oneCell' = true := by
  intro u hu
  simp at hu
  rcases hu with rfl | rfl | rfl <;> rfl

/-- The struct behind a whole clause. -/
def clausW (w : World) (rb : Nat) (c : Value) : World := (((((w.setCell ⟨rb, 8, none⟩ c).setCell ⟨rb, 5, none⟩ (.slice none 0 0)).setCell ⟨rb, 6, none⟩ (.slice none 0 0)).setCell ⟨rb, 7, none⟩ (.slice none 0 0)).setCell ⟨rb, 2, none⟩ (.bool false)).setCell ⟨rb, 1, none⟩ (.int .i64 0)
theorem clause_done {w w2 : World} {B rb nd : Nat} {st : RS} {V : RV} {Sa Sb : Nat} {vs : List Value} {xs : List (List Value)} {a1 : Option Addr} {a1cap : Nat} (H : IsR w B rb st V Sa Sb vs xs)
    (hap : Appended (w.drewN nd) B 107 3 V.c (st.clauses.length + 1) (xs.flatten ++ [V.h, V.b, V.v]) (.slice a1 (st.clauses.length + 1) a1cap) w2) :
    IsRx (clausW w2 rb (.slice a1 (st.clauses.length + 1) a1cap)) B rb { endClauseS st with next := 0 } ∧ Held B w (clausW w2 rb (.slice a1 (st.clauses.length + 1) a1cap)) := by
  have hblk1 := blk_after0 hap.kept H.blk (owns_apart H.rest.cls.1 (by decide) H.blk)
  have hk : Kept (touch rb V.c) w (clausW w2 rb (.slice a1 (st.clauses.length + 1) a1cap)) :=
    touch_more (touch_more (touch_more (touch_more (touch_more (touch_put (((Kept.refl _ w).drewN _).trans hap.kept) 8 _) 5 _) 6 _) 7 _) 2 _) 1 _
  have hblk : (clausW w2 rb (.slice a1 (st.clauses.length + 1) a1cap)).heap[rb]? = some (.cells (rsCells { endClauseS st with next := 0 } { V with c := .slice a1 (st.clauses.length + 1) a1cap, h := .slice none 0 0, b := .slice none 0 0, v := .slice none 0 0 }) 169 (0, 0)) := by
    unfold clausW
    rw [block_set (block_set (block_set (block_set (block_set (block_set hblk1 8 _) 5 _) 6 _) 7 _) 2 _) 1 _]
    simp [rsCells, endClauseS]
  have hrow : (clausW w2 rb (.slice a1 (st.clauses.length + 1) a1cap)).ownsRow B 107 3 (.slice a1 (st.clauses.length + 1) a1cap) (st.clauses.length + 1) (xs.flatten ++ [V.h, V.b, V.v]) := by
    have h2 := hap.owns
    exact ((((((((Kept.refl (only rb) w2).put 8 _).put 5 _).put 6 _).put 7 _).put 2 _).put 1 _)).owns h2 (fun k hko e => by
      have e : k = rb := e
      rw [e] at hko
      exact owns_apart h2 (by decide) hblk1 hko)
  exact ⟨⟨_, _, _, _, _, H.clausd hk _ { endClauseS st with next := 0 } hblk hrow rfl rfl rfl rfl rfl rfl⟩, H.below hk H.rest.cls.1 (by decide)⟩

set_option maxRecDepth 10000 in
set_option maxHeartbeats 2000000 in
theorem endClause_any (w : World) (B rb : Nat) (st : RS) (h : IsRx w B rb st) (hb : RBd st) :
    Calls Tryz.prog 173 #[.pointer (some ⟨rb, 0, none⟩)] w fun e w' => e = .returned (.tuple #[]) ∧ IsRx w' B rb (endClauseS st) ∧ Held B w w' := by
  obtain ⟨V, Sa, Sb, vs, xs, h⟩ := h
  have hrb := lt_of_block h.blk
  have hBw : B ≤ w.heap.size := by have := h.le; omega
  obtain ⟨c0, c1, c2, c3, c4, c5, c6, c7, c8⟩ := h.opens.facts
  have hf := fun i => thawed_of_block h.blk i
  obtain ⟨ca, ccap, hvc⟩ := owns_slice h.rest.cls.1
  obtain ⟨ha, hac, hvh⟩ := owns_slice h.rest.head.1
  obtain ⟨ba, bcap, hvb⟩ := owns_slice h.rest.body.1
  obtain ⟨va, vcap, hvv⟩ := owns_slice h.rest.vars
  have hlc := hb.cls
  have hcr := h.rest.cls.1
  rw [hvc] at hcr c8
  rw [hvh] at c5
  rw [hvb] at c6
  rw [hvv] at c7
  have H := hide' h
  have Hcr := hide' hcr
  have Hvh := hide' hvh
  have Hvb := hide' hvb
  have Hvc := hide' hvc
  have Hvv := hide' hvv
  cases hq : st.query
  all_goals
    rw [hq] at c0
    have Hq := hide' hq
    clear h hvc hvh hvb hvv hcr hq
    go_enter Tryz.func173, Tryz.ntmps173
    go_wp2_with fail
    go_region_law (refine step_append1 (w.drewN 1) rfl (.tmp 6) (.tmp 11) 104 rfl B 107 Tryz.infoCls Tryz.underlying104 rfl (by decide) (.slice ca st.clauses.length ccap) st.clauses.length xs.flatten rfl Hcr.out #[.slice ha st.head.length hac, .slice ba st.body.length bcap, .slice va st.vars.length vcap] rfl (by simp) rfl (cls3_one _ _ _ _ _ _ _ _ _) (by omega) (by simp; omega) rfl ?_; intro v' w2 hap; obtain ⟨c1', c1cap, rfl⟩ := owns_slice hap.owns; have hblk1 := blk_after0 hap.kept H.out.blk (owns_apart Hcr.out (by decide) H.out.blk); have d0 : w2.cell? ⟨rb, 0, none⟩ = some (.bool st.query) := cell_of_block hblk1 0 _ rfl; have d1 : w2.cell? ⟨rb, 1, none⟩ = some (.int .i64 st.next) := cell_of_block hblk1 1 _ rfl; have d2 : w2.cell? ⟨rb, 2, none⟩ = some (.bool st.inBody) := cell_of_block hblk1 2 _ rfl; have d5 : w2.cell? ⟨rb, 5, none⟩ = some V.h := cell_of_block hblk1 5 _ rfl; have d6 : w2.cell? ⟨rb, 6, none⟩ = some V.b := cell_of_block hblk1 6 _ rfl; have d7 : w2.cell? ⟨rb, 7, none⟩ = some V.v := cell_of_block hblk1 7 _ rfl; have d8 : w2.cell? ⟨rb, 8, none⟩ = some V.c := cell_of_block hblk1 8 _ rfl; have df := fun i => thawed_of_block hblk1 i; have Hap := hide' hap; have Hblk1 := hide' hblk1; clear hap hblk1)

  all_goals
    rw [Hvh.out] at d5; rw [Hvb.out] at d6; rw [Hvv.out] at d7; rw [Hvc.out] at d8; rw [Hq.out] at d0
    go_wp2
    go_end0
    have hap := Hap.out
    rw [← Hvh.out, ← Hvb.out, ← Hvv.out, ← Hvc.out] at hap
    obtain ⟨hR, hB⟩ := clause_done H.out hap
    first
    | (have He : endClauseS st = { endClauseS st with next := 0 } := by simp [endClauseS, Hq.out]
       rw [He]
       exact ⟨rfl, hR, hB⟩)
    | (have He : endClauseS st = { { endClauseS st with next := 0 } with next := 5 } := by simp [endClauseS, Hq.out]
       obtain ⟨hR5, hB5⟩ := hR.next 5
       rw [He]
       exact ⟨rfl, hR5, hB.trans hB5⟩)

end Go.Proofs.YtlmjilpjmgjjcaaGreatDoor

namespace Go.Proofs.YtlmjilpjmgjjcaaGreatDoor
open Go.RowKit
set_option linter.unusedSimpArgs false
set_option linter.unusedVariables false

/-- A token has been taken. -/
def takeS (st : RS) (kd : Nat) (t : List UInt8) : RS :=
  if kd = 1 then { addS st ⟨t, 0, 0⟩ with next := 3 }
  else if kd = 2 then { addS (varS st t) ⟨[], (numberOf st.vars t).2, 0⟩ with next := 4 }
  else if kd = 3 then { st with opn := (st.atom.length - 1) :: st.opn, next := 2 }
  else if kd = 4 then { closeS st with next := 4 }
  else if kd = 5 then commaS st
  else if kd = 7 then { endAtomS st with inBody := true, next := 1 }
  else if kd = 6 then endClauseS (endAtomS st)
  else st

theorem add_any (w : World) (B rb : Nat) (st : RS) (s : Sym) (h : IsRx w B rb st) (hb : RBd st) (ho : ∀ n ∈ st.opn, n < st.atom.length) :
    Calls Tryz.prog 168 #[.pointer (some ⟨rb, 0, none⟩), .agg #[.string ⟨s.name.toArray⟩, .int .i64 s.num, .int .i64 s.args]] w fun e w' => e = .returned (.tuple #[]) ∧ IsRx w' B rb (addS st s) ∧ Held B w w' := by
  cases hst : st.opn with
  | nil => exact add_top w B rb st s h hb hst
  | cons n r => exact add_in w B rb st s n r h hb hst (ho n (by simp [hst]))

set_option maxRecDepth 10000 in
set_option maxHeartbeats 1000000 in
theorem take1 (w : World) (B rb : Nat) (st : RS) (t : List UInt8) (h : IsRx w B rb st) (hb : RBd st) (ho : ∀ n ∈ st.opn, n < st.atom.length) :
    Calls Tryz.prog 132 #[.pointer (some ⟨rb, 0, none⟩), .int .i64 1, .string ⟨t.toArray⟩] w fun e w' => e = .returned (.tuple #[]) ∧ IsRx w' B rb (takeS st 1 t) ∧ Held B w w' := by
  have HA := hide' (add_any w B rb st ⟨t, 0, 0⟩ h hb ho)
  clear h ho
  go_enter Tryz.func132, Tryz.ntmps132
  go_wp2_with fail
  refine HA.out.mono ?_
  rintro e w1 ⟨rfl, h1, hB1⟩
  obtain ⟨hrb1, d0, d1, d2, _, df⟩ := h1.cells
  have H1 := hide' h1
  have HB1 := hide' hB1
  clear h1 hB1
  go_wp2
  go_end0
  obtain ⟨hR, hB⟩ := H1.out.next 3
  exact ⟨rfl, hR, HB1.out.trans hB⟩

set_option maxRecDepth 10000 in
set_option maxHeartbeats 1000000 in
theorem take2 (w : World) (B rb : Nat) (st : RS) (t : List UInt8) (h : IsRx w B rb st) (hb : RBd st) (hv : st.vars.length ≤ 4096) (ho : ∀ n ∈ st.opn, n < st.atom.length) :
    Calls Tryz.prog 132 #[.pointer (some ⟨rb, 0, none⟩), .int .i64 2, .string ⟨t.toArray⟩] w fun e w' => e = .returned (.tuple #[]) ∧ IsRx w' B rb (takeS st 2 t) ∧ Held B w w' := by
  have HV := hide' (variable_any w B rb st t h hv)
  have Hb := hide' hb
  have Ho := hide' ho
  clear h ho
  go_enter Tryz.func132, Tryz.ntmps132
  go_wp2_with fail
  refine HV.out.mono ?_
  rintro e w0 ⟨rfl, h0, hB0⟩
  have HA := hide' (add_any w0 B rb (varS st t) ⟨[], (numberOf st.vars t).2, 0⟩ h0 ⟨Hb.out.opn, Hb.out.atom, Hb.out.body, Hb.out.cls, Hb.out.args⟩ Ho.out)
  have HB0 := hide' hB0
  clear h0 hB0
  go_wp2_with fail
  refine HA.out.mono ?_
  rintro e w1 ⟨rfl, h1, hB1⟩
  obtain ⟨hrb1, d0, d1, d2, _, df⟩ := h1.cells
  have H1 := hide' h1
  have HB1 := hide' hB1
  clear h1 hB1
  go_wp2
  go_end0
  obtain ⟨hR, hB⟩ := H1.out.next 4
  exact ⟨rfl, hR, HB0.out.trans (HB1.out.trans hB)⟩

set_option maxRecDepth 10000 in
set_option maxHeartbeats 1000000 in
theorem take4 (w : World) (B rb : Nat) (st : RS) (t : List UInt8) (h : IsRx w B rb st) (hb : RBd st) :
    Calls Tryz.prog 132 #[.pointer (some ⟨rb, 0, none⟩), .int .i64 4, .string ⟨t.toArray⟩] w fun e w' => e = .returned (.tuple #[]) ∧ IsRx w' B rb (takeS st 4 t) ∧ Held B w w' := by
  have HA := hide' (close_any w B rb st h hb.opn)
  clear h
  go_enter Tryz.func132, Tryz.ntmps132
  go_wp2_with fail
  refine HA.out.mono ?_
  rintro e w1 ⟨rfl, h1, hB1⟩
  obtain ⟨hrb1, d0, d1, d2, _, df⟩ := h1.cells
  have H1 := hide' h1
  have HB1 := hide' hB1
  clear h1 hB1
  go_wp2
  go_end0
  obtain ⟨hR, hB⟩ := H1.out.next 4
  exact ⟨rfl, hR, HB1.out.trans hB⟩

set_option maxRecDepth 10000 in
set_option maxHeartbeats 1000000 in
theorem take5 (w : World) (B rb : Nat) (st : RS) (t : List UInt8) (h : IsRx w B rb st) (hb : RBd st) :
    Calls Tryz.prog 132 #[.pointer (some ⟨rb, 0, none⟩), .int .i64 5, .string ⟨t.toArray⟩] w fun e w' => e = .returned (.tuple #[]) ∧ IsRx w' B rb (takeS st 5 t) ∧ Held B w w' := by
  have HA := hide' (comma_any w B rb st h hb)
  clear h
  go_enter Tryz.func132, Tryz.ntmps132
  go_wp2_with fail
  refine HA.out.mono ?_
  rintro e w1 ⟨rfl, h1, hB1⟩
  have H1 := hide' h1
  have HB1 := hide' hB1
  clear h1 hB1
  go_wp2
  go_end0
  exact ⟨rfl, H1.out, HB1.out⟩

set_option maxRecDepth 10000 in
set_option maxHeartbeats 1000000 in
theorem take7 (w : World) (B rb : Nat) (st : RS) (t : List UInt8) (h : IsRx w B rb st) (hb : RBd st) :
    Calls Tryz.prog 132 #[.pointer (some ⟨rb, 0, none⟩), .int .i64 7, .string ⟨t.toArray⟩] w fun e w' => e = .returned (.tuple #[]) ∧ IsRx w' B rb (takeS st 7 t) ∧ Held B w w' := by
  have HA := hide' (endAtom_any w B rb st h hb)
  clear h
  go_enter Tryz.func132, Tryz.ntmps132
  go_wp2_with fail
  refine HA.out.mono ?_
  rintro e w1 ⟨rfl, h1, hB1⟩
  obtain ⟨hrb1, d0, d1, d2, _, df⟩ := h1.cells
  have H1 := hide' h1
  have HB1 := hide' hB1
  clear h1 hB1
  go_wp2
  go_end0
  obtain ⟨hR, hB⟩ := H1.out.inb true
  obtain ⟨hR2, hB2⟩ := hR.next 1
  exact ⟨rfl, hR2, HB1.out.trans (hB.trans hB2)⟩

theorem RBd.endAtom {st : RS} (hb : RBd st) (h : st.body.length + 1 ≤ 4096) : RBd (endAtomS st) := by
  unfold endAtomS
  split
  · exact ⟨hb.opn, by simp, by simpa using h, hb.cls, by simp⟩
  · exact ⟨hb.opn, by simp, hb.body, hb.cls, by simp⟩

set_option maxRecDepth 10000 in
set_option maxHeartbeats 1000000 in
theorem take6 (w : World) (B rb : Nat) (st : RS) (t : List UInt8) (h : IsRx w B rb st) (hb : RBd st) (hbd : st.body.length + 1 ≤ 4096) :
    Calls Tryz.prog 132 #[.pointer (some ⟨rb, 0, none⟩), .int .i64 6, .string ⟨t.toArray⟩] w fun e w' => e = .returned (.tuple #[]) ∧ IsRx w' B rb (takeS st 6 t) ∧ Held B w w' := by
  have HA := hide' (endAtom_any w B rb st h hb)
  have Hb := hide' (hb.endAtom hbd)
  clear h
  go_enter Tryz.func132, Tryz.ntmps132
  go_wp2_with fail
  refine HA.out.mono ?_
  rintro e w1 ⟨rfl, h1, hB1⟩
  have HC := hide' (endClause_any w1 B rb (endAtomS st) h1 Hb.out)
  have HB1 := hide' hB1
  clear h1 hB1
  go_wp2_with fail
  refine HC.out.mono ?_
  rintro e w2 ⟨rfl, h2, hB2⟩
  have H2 := hide' h2
  have HB2 := hide' hB2
  clear h2 hB2
  go_wp2
  go_end0
  exact ⟨rfl, H2.out, HB1.out.trans HB2.out⟩

set_option maxRecDepth 10000 in
set_option maxHeartbeats 2000000 in
theorem take3 (w : World) (B rb : Nat) (st : RS) (t : List UInt8) (h : IsRx w B rb st) (hb : RBd st) (hne : 0 < st.atom.length) :
    Calls Tryz.prog 132 #[.pointer (some ⟨rb, 0, none⟩), .int .i64 3, .string ⟨t.toArray⟩] w fun e w' => e = .returned (.tuple #[]) ∧ IsRx w' B rb (takeS st 3 t) ∧ Held B w w' := by
  obtain ⟨V, Sa, Sb, vs, xs, h⟩ := h
  have hrb := lt_of_block h.blk
  have hBw : B ≤ w.heap.size := by have := h.le; omega
  obtain ⟨c0, c1, c2, c3, c4, c5, c6, c7, c8⟩ := h.opens.facts
  have hf := fun i => thawed_of_block h.blk i
  obtain ⟨aa, acap, hva⟩ := owns_slice h.rest.atom
  obtain ⟨oa, ocap, hvo⟩ := owns_slice h.rest.opn
  have hlo := hb.opn
  have hla := hb.atom
  have hor := h.rest.opn
  rw [hvo] at hor c4
  rw [hva] at c3
  have H := hide' h
  have Hor := hide' hor
  have Hvo := hide' hvo
  have hcast : IntKind.i64.wrap (((st.atom.length : Nat) : Int) - 1) = ((st.atom.length - 1 : Nat) : Int) := by rw [IntKind.wrap_i64]; omega
  clear h hva hvo hor
  go_enter Tryz.func132, Tryz.ntmps132
  go_wp2_with fail
  go_region_law (refine step_append1 (w.drewN 1) rfl (.tmp 35) (.tmp 42) 25 rfl B 3 Tryz.infoInt Tryz.underlying25 rfl (by decide) (.slice oa st.opn.length ocap) st.opn.length (ints st.opn.reverse) rfl Hor.out #[.int .i64 ((st.atom.length - 1 : Nat) : Int)] rfl (by simp) rfl (int_one _) (by omega) (by simp; omega) rfl ?_; intro v' w2 hap; obtain ⟨o1, o1cap, rfl⟩ := owns_slice hap.owns; have hblk1 := blk_after0 hap.kept H.out.blk (owns_apart Hor.out (by decide) H.out.blk); have d1 : w2.cell? ⟨rb, 1, none⟩ = some (.int .i64 st.next) := cell_of_block hblk1 1 _ rfl; have d4 : w2.cell? ⟨rb, 4, none⟩ = some V.o := cell_of_block hblk1 4 _ rfl; have df := fun i => thawed_of_block hblk1 i; have Hap := hide' hap; have Hblk1 := hide' hblk1; clear hap hblk1)
  all_goals
    rw [Hvo.out] at d4
    go_wp2
    go_end0
    have hk : Kept (touch rb V.o) w (w2.setCell ⟨rb, 4, none⟩ (.slice o1 (st.opn.length + 1) o1cap)) := by
      rw [Hvo.out]
      exact touch_put (((Kept.refl _ w).drewN _).trans Hap.out.kept) 4 _
    have hrow : (w2.setCell ⟨rb, 4, none⟩ (.slice o1 (st.opn.length + 1) o1cap)).ownsRow B 3 1 (.slice o1 (st.opn.length + 1) o1cap) ((st.atom.length - 1) :: st.opn).length (ints ((st.atom.length - 1) :: st.opn).reverse) := by
      have h2 := Hap.out.owns
      have h3 := ((Kept.refl (only rb) w2).put 4 (.slice o1 (st.opn.length + 1) o1cap)).owns h2 (fun k hko e => by
        have e : k = rb := e
        rw [e] at hko
        exact owns_apart h2 (by decide) Hblk1.out hko)
      simpa [ints, hcast] using h3
    have hR := H.out.opened hk ((st.atom.length - 1) :: st.opn) (.slice o1 (st.opn.length + 1) o1cap) (block_set Hblk1.out 4 _) hrow
    have hB := H.out.below hk H.out.rest.opn (by decide)
    obtain ⟨hR2, hB2⟩ := IsRx.next ⟨_, Sa, Sb, vs, xs, hR⟩ 2
    exact ⟨rfl, hR2, hB.trans hB2⟩

/-- What 'take' asks for. -/
structure TakeOk (st : RS) (kd : Nat) : Prop where
  bd : RBd st
  vars : st.vars.length ≤ 4096
  body : st.body.length + 1 ≤ 4096
  opn : ∀ n ∈ st.opn, n < st.atom.length
  lo : 1 ≤ kd
  hi : kd ≤ 7
  bracket : kd = 3 → 0 < st.atom.length

theorem take_any (w : World) (B rb : Nat) (st : RS) (kd : Nat) (t : List UInt8) (h : IsRx w B rb st) (hk : TakeOk st kd) :
    Calls Tryz.prog 132 #[.pointer (some ⟨rb, 0, none⟩), .int .i64 kd, .string ⟨t.toArray⟩] w fun e w' => e = .returned (.tuple #[]) ∧ IsRx w' B rb (takeS st kd t) ∧ Held B w w' := by
  obtain ⟨bd, vars, body, opn, lo, hi, bracket⟩ := hk
  have hc : kd = 1 ∨ kd = 2 ∨ kd = 3 ∨ kd = 4 ∨ kd = 5 ∨ kd = 6 ∨ kd = 7 := by omega
  rcases hc with rfl | rfl | rfl | rfl | rfl | rfl | rfl
  · exact take1 w B rb st t h bd opn
  · exact take2 w B rb st t h bd vars opn
  · exact take3 w B rb st t h bd (bracket rfl)
  · exact take4 w B rb st t h bd
  · exact take5 w B rb st t h bd
  · exact take6 w B rb st t h bd body
  · exact take7 w B rb st t h bd

end Go.Proofs.YtlmjilpjmgjjcaaGreatDoor

namespace Go.Proofs.YtlmjilpjmgjjcaaGreatDoor
open Go.RowKit
set_option linter.unusedSimpArgs false
set_option linter.unusedVariables false

/-- The program's number of a kind. -/
def kmap (k : Nat) : Nat := if k = 1 then 1 else if k = 2 then 2 else if k = 40 then 3 else if k = 41 then 4 else if k = 44 then 5 else if k = 46 then 6 else if k = 3 then 7 else 8
/-- The kinds of tokens. -/
def isKind (k : Nat) : Prop := k = 1 ∨ k = 2 ∨ k = 40 ∨ k = 41 ∨ k = 44 ∨ k = 46 ∨ k = 3 ∨ k = 5

theorem signs_is (c : UInt8) (h : inB c signs = true) : c = 40 ∨ c = 41 ∨ c = 44 ∨ c = 46 := by
  have := allBytes (p := fun c => !inB c signs || (c == 40 || c == 41 || c == 44 || c == 46)) (by decide +kernel) c
  simpa [h, or_assoc] using this
theorem signs_isnt (c : UInt8) (h : inB c signs = false) : ¬ c = 40 ∧ ¬ c = 41 ∧ ¬ c = 44 ∧ ¬ c = 46 := by
  have := allBytes (p := fun c => inB c signs || !(c == 40 || c == 41 || c == 44 || c == 46)) (by decide +kernel) c
  simpa [h, not_or, and_assoc] using this

theorem head_cases (c : UInt8) (r : List UInt8) :
    (headOf c r = (1, wordLen r) ∧ kindC c (r.head?.getD 0) = 1 ∧ inB c alnum = true) ∨ (headOf c r = (2, wordLen r) ∧ kindC c (r.head?.getD 0) = 2 ∧ inB c alnum = true) ∨
    (headOf c r = (40, 0) ∧ kindC c (r.head?.getD 0) = 3) ∨ (headOf c r = (41, 0) ∧ kindC c (r.head?.getD 0) = 4) ∨ (headOf c r = (44, 0) ∧ kindC c (r.head?.getD 0) = 5) ∨ (headOf c r = (46, 0) ∧ kindC c (r.head?.getD 0) = 6) ∨
    (headOf c r = (3, 1) ∧ kindC c (r.head?.getD 0) = 7) ∨ (headOf c r = (5, 0) ∧ kindC c (r.head?.getD 0) = 8) := by
  unfold headOf kindC
  cases h1 : inB c little
  · cases h2 : inB c great
    · cases h3 : inB c signs
      · obtain ⟨a1, a2, a3, a4⟩ := signs_isnt c h3
        have hd : (c = 58 ∧ r.head? = some 45) ↔ (c = 58 ∧ r.head?.getD 0 = 45) := by
          cases r with
          | nil => simp
          | cons d r => simp
        by_cases h : c = 58 ∧ r.head? = some 45
        · have h' := hd.1 h
          simp only [Bool.false_eq_true, if_false, if_neg a1, if_neg a2, if_neg a3, if_neg a4, if_pos h, if_pos h']
          simp
        · have h' : ¬ (c = 58 ∧ r.head?.getD 0 = 45) := fun e => h (hd.2 e)
          simp only [Bool.false_eq_true, if_false, if_neg a1, if_neg a2, if_neg a3, if_neg a4, if_neg h, if_neg h']
          simp
      · rcases signs_is c h3 with rfl | rfl | rfl | rfl <;> simp
    · simp [alnum_of_great h2]
  · simp [alnum_of_little h1]

theorem head_kind (c : UInt8) (r : List UInt8) : kmap (headOf c r).1 = kindC c (r.head?.getD 0) ∧ isKind (headOf c r).1 := by
  rcases head_cases c r with ⟨h1, h2, _⟩ | ⟨h1, h2, _⟩ | ⟨h1, h2⟩ | ⟨h1, h2⟩ | ⟨h1, h2⟩ | ⟨h1, h2⟩ | ⟨h1, h2⟩ | ⟨h1, h2⟩ <;> rw [h1, h2] <;> exact ⟨rfl, by unfold isKind; simp⟩

theorem head_end (s : ByteArray) (p : Nat) (c : UInt8) (r : List UInt8) (hd : s.data.toList.drop p = c :: r) : endC s p (kindC c (r.head?.getD 0)) = p + ((headOf c r).2 + 1) := by
  rcases head_cases c r with ⟨h1, h2, h3⟩ | ⟨h1, h2, h3⟩ | ⟨h1, h2⟩ | ⟨h1, h2⟩ | ⟨h1, h2⟩ | ⟨h1, h2⟩ | ⟨h1, h2⟩ | ⟨h1, h2⟩ <;> rw [h1, h2] <;> simp [endC, hd]
  · rw [wordLen_yes c r h3]
  · rw [wordLen_yes c r h3]

theorem byteOr_drop (s : ByteArray) (p : Nat) : byteOr s p = (s.data.toList.drop p).head?.getD 0 := by
  unfold byteOr
  rw [List.head?_drop]

theorem toks_blanks : ∀ (l : List UInt8) (p : Nat), toks l p = toks (l.drop (blanks l)) (p + blanks l) := by
  intro l
  induction l with
  | nil => intro p; rfl
  | cons c r ih =>
    intro p
    unfold blanks
    cases h : blank c
    · simp
    · rw [toks_blank c r p h, ih (p + 1)]
      simp only [if_pos, List.drop_succ_cons]
      congr 1
      omega
theorem blanks_end (l : List UInt8) (c : UInt8) (r : List UInt8) (h : l.drop (blanks l) = c :: r) : blank c = false := by
  induction l with
  | nil => simp [blanks] at h
  | cons d l ih =>
    unfold blanks at h
    cases hb : blank d
    · rw [hb] at h
      simp at h
      rw [← h.1]; exact hb
    · rw [hb] at h
      simp only [if_pos, List.drop_succ_cons] at h
      exact ih h

theorem part_take (s : ByteArray) (p k : Nat) : (s.extract p (p + k)).data.toList = (s.data.toList.drop p).take k := by
  rw [ByteArray.data_extract, Array.toList_extract, List.extract_eq_take_drop]
  congr 1
  omega

/-- What 'Next' finds: no token is left; or the first of them. -/
theorem next_toks (s : ByteArray) (n : Nat) (hn : n ≤ s.size) :
    (nextC s n = (0, s.size, s.size) ∧ toks (s.data.toList.drop n) n = []) ∨
    ∃ t q, nextC s n = (kmap t.kind, t.pos, q) ∧ toks (s.data.toList.drop n) n = t :: toks (s.data.toList.drop q) q ∧ isKind t.kind ∧ n ≤ t.pos ∧ t.pos < q ∧ q ≤ s.size ∧ s.extract t.pos q = ⟨t.text.toArray⟩ ∧ t.text.length = q - t.pos := by
  have hl : s.data.toList.length = s.size := by rw [Array.length_toList]; rfl
  rw [toks_blanks, List.drop_drop]
  unfold nextC
  obtain ⟨p, hp⟩ : ∃ p, p = n + blanks (s.data.toList.drop n) := ⟨_, rfl⟩
  rw [← hp]
  by_cases h : p < s.size
  · right
    rw [if_pos h]
    obtain ⟨c, r, hd⟩ : ∃ c r, s.data.toList.drop p = c :: r := by
      cases hc : s.data.toList.drop p with
      | nil =>
        have := congrArg List.length hc
        simp only [List.length_drop, List.length_nil] at this
        omega
      | cons c r => exact ⟨c, r, rfl⟩
    have hb : blank c = false := blanks_end (s.data.toList.drop n) c r (by rw [List.drop_drop, ← hp]; exact hd)
    have hd1 : s.data.toList.drop (p + 1) = r := by rw [← List.drop_drop, hd]; rfl
    have hc0 : byteOr s p = c := by rw [byteOr_drop, hd]; rfl
    have hc1 : byteOr s (p + 1) = r.head?.getD 0 := by rw [byteOr_drop, hd1]
    have hle := headOf_le c r
    have hlen : (s.data.toList.drop p).length = s.size - p := by rw [List.length_drop, hl]
    rw [hd] at hlen
    simp only [List.length_cons] at hlen
    rw [hc0, hc1, hd, toks_cons c r p hb]
    refine ⟨⟨(headOf c r).1, (c :: r).take ((headOf c r).2 + 1), p⟩, p + ((headOf c r).2 + 1), ?_, ?_, (head_kind c r).2, by simp only; omega, by simp only; omega, by omega, ?_, ?_⟩
    · rw [head_end s p c r hd, (head_kind c r).1]
    · congr 2
      · rw [← List.drop_drop, hd]; rfl
    · have : (s.extract p (p + ((headOf c r).2 + 1))).data.toList = (c :: r).take ((headOf c r).2 + 1) := by rw [part_take, hd]
      simp only
      rw [← this]
    · simp; omega
  · left
    rw [if_neg h]
    refine ⟨rfl, ?_⟩
    rw [List.drop_eq_nil_of_le (by omega)]
    rfl

/-- What holds of the reader behind k tokens. -/
structure RI (k : Nat) (st : RS) : Prop where
  opnl : st.opn.length ≤ k
  atoml : st.atom.length ≤ k
  bodyl : st.body.length ≤ k
  clsl : st.clauses.length ≤ k
  varsl : st.vars.length ≤ k
  args : ∀ s ∈ st.atom, s.args ≤ k
  next : st.next ≤ 5
  opn : ∀ n ∈ st.opn, n < st.atom.length
  name : st.next = 3 → 0 < st.atom.length

theorem RI.bd {k : Nat} {st : RS} (h : RI k st) (hk : k ≤ 4000) : RBd st :=
  ⟨Nat.le_trans h.opnl (by omega), Nat.le_trans h.atoml (by omega), Nat.le_trans h.bodyl (by omega), Nat.le_trans h.clsl (by omega), fun s hs => Nat.le_trans (h.args s hs) (by omega)⟩

theorem check_stand {st : RS} {kd len : Nat} (h : checkC st kd len = 0) : standC st kd = true := by
  unfold checkC at h
  split at h
  · omega
  · rename_i hs
    simpa using hs

/-- What a token that can stand tells. -/
theorem stand_facts {st : RS} {kd : Nat} (h : standC st kd = true) (hn : st.next ≤ 5) : 1 ≤ kd ∧ kd ≤ 7 ∧ (kd = 3 → st.next = 3) ∧ (kd = 6 ∨ kd = 7 → st.opn = []) := by
  have fol : followC st kd = true → (kd = 4 ∨ kd = 5 ∨ kd = 6 ∨ kd = 7) ∧ (kd = 6 ∨ kd = 7 → st.opn = []) := by
    unfold followC
    cases ho : st.opn with
    | nil =>
      simp only [List.isEmpty_nil, if_true]
      intro h
      refine ⟨?_, fun _ => trivial⟩
      split at h
      · simp at h; omega
      · simp at h; omega
    | cons n r =>
      simp only [List.isEmpty_cons]
      intro h
      simp at h
      exact ⟨by omega, fun h => by omega⟩
  unfold standC at h
  split at h
  · simp at h; subst h; simp
  · split at h
    · simp at h; rcases h with rfl | rfl <;> simp
    · split at h
      · rename_i h3
        simp only [Bool.or_eq_true, beq_iff_eq] at h
        rcases h with rfl | h
        · exact ⟨by omega, by omega, fun _ => h3, by omega⟩
        · obtain ⟨h1, h2⟩ := fol h
          exact ⟨by omega, by omega, by omega, h2⟩
      · split at h
        · obtain ⟨h1, h2⟩ := fol h
          exact ⟨by omega, by omega, by omega, h2⟩
        · simp at h

theorem RI.takes {k : Nat} {st : RS} {kd : Nat} (h : RI k st) (hk : k ≤ 4000) (hs : standC st kd = true) : TakeOk st kd := by
  obtain ⟨h1, h2, h3, h4⟩ := stand_facts hs h.next
  have := h.varsl
  have := h.bodyl
  exact ⟨h.bd hk, by omega, by omega, h.opn, h1, h2, fun e => h.name (h3 e)⟩

theorem bump_len (st : RS) : (bumpS st).length = st.atom.length := by unfold bumpS; split <;> simp
theorem bump_args {k : Nat} (st : RS) (h : ∀ s ∈ st.atom, s.args ≤ k) : ∀ s ∈ bumpS st, s.args ≤ k + 1 := by
  unfold bumpS
  split
  · exact fun s hs => Nat.le_succ_of_le (h s hs)
  · rename_i n r ho
    intro s hs
    obtain ⟨i, hi⟩ := List.getElem?_of_mem hs
    rw [List.getElem?_modify] at hi
    cases hx : st.atom[i]? with
    | none => rw [hx] at hi; simp at hi
    | some x =>
      rw [hx] at hi
      have := h x (List.mem_of_getElem? hx)
      simp at hi
      split at hi
      · subst hi; simpa using this
      · subst hi; omega

theorem RI.mono {k : Nat} {st : RS} (h : RI k st) : RI (k + 1) st :=
  ⟨Nat.le_succ_of_le h.opnl, Nat.le_succ_of_le h.atoml, Nat.le_succ_of_le h.bodyl, Nat.le_succ_of_le h.clsl, Nat.le_succ_of_le h.varsl, fun s hs => Nat.le_succ_of_le (h.args s hs), h.next, h.opn, h.name⟩
theorem RI.at {k m : Nat} {st : RS} (h : RI k st) (hk : k ≤ m) : RI m st :=
  ⟨Nat.le_trans h.opnl hk, Nat.le_trans h.atoml hk, Nat.le_trans h.bodyl hk, Nat.le_trans h.clsl hk, Nat.le_trans h.varsl hk, fun s hs => Nat.le_trans (h.args s hs) hk, h.next, h.opn, h.name⟩

theorem RI.add {k : Nat} {st : RS} (h : RI k st) (s : Sym) (hs : s.args = 0) (n : Nat) (hn : n ≤ 5) (vars : Names) (hv : vars.length ≤ k + 1) : RI (k + 1) { addS st s with next := n, vars := vars } := by
  have hl := bump_len st
  have h0 := h.atoml
  have h1 := h.opnl
  refine ⟨by simp [addS]; omega, by simp [addS, hl]; omega, Nat.le_succ_of_le h.bodyl, Nat.le_succ_of_le h.clsl, hv, ?_, hn, ?_, ?_⟩
  · intro x hx
    simp only [addS, List.mem_append, List.mem_singleton] at hx
    rcases hx with hx | rfl
    · exact bump_args st h.args x hx
    · omega
  · intro x hx
    have := h.opn x hx
    simp only [addS, List.length_append, hl, List.length_singleton]
    omega
  · intro _
    simp [addS]

theorem RI.ends {k : Nat} {st : RS} (h : RI k st) (ho : st.opn = []) (n : Nat) (hn : n ≤ 5) (h3 : n ≠ 3) (b : Bool) : RI (k + 1) { endAtomS st with next := n, inBody := b } := by
  have h0 := h.bodyl
  have ha : (endAtomS st).atom = [] := by unfold endAtomS; split <;> rfl
  have hb : (endAtomS st).body.length ≤ k + 1 := by unfold endAtomS; split <;> simp <;> omega
  have hc : (endAtomS st).clauses = st.clauses := by unfold endAtomS; split <;> rfl
  have hv : (endAtomS st).vars = st.vars := by unfold endAtomS; split <;> rfl
  have hp : (endAtomS st).opn = [] := by unfold endAtomS; split <;> exact ho
  have := h.clsl
  have := h.varsl
  exact ⟨by simp [hp], by simp [ha], hb, by simp only [hc]; omega, by simp only [hv]; omega, by simp [ha], hn, by simp [hp], fun e => absurd e h3⟩

theorem RI.take {k : Nat} {st : RS} {kd : Nat} (t : List UInt8) (h : RI k st) (hs : standC st kd = true) : RI (k + 1) (takeS st kd t) := by
  obtain ⟨h1, h2, h3, h4⟩ := stand_facts hs h.next
  have hc : kd = 1 ∨ kd = 2 ∨ kd = 3 ∨ kd = 4 ∨ kd = 5 ∨ kd = 6 ∨ kd = 7 := by omega
  have a1 := h.opnl
  have a2 := h.atoml
  have a3 := h.varsl
  rcases hc with rfl | rfl | rfl | rfl | rfl | rfl | rfl
  · exact h.add ⟨t, 0, 0⟩ rfl 3 (by omega) st.vars (by omega)
  · have hv := numberOf_len st.vars t
    exact h.add ⟨[], (numberOf st.vars t).2, 0⟩ rfl 4 (by omega) (numberOf st.vars t).1 (by omega)
  · have hp := h.name (h3 rfl)
    have m := h.mono
    refine ⟨by simp [takeS]; omega, m.atoml, m.bodyl, m.clsl, m.varsl, m.args, by simp [takeS], ?_, by simp [takeS]⟩
    intro n hn
    simp only [takeS, List.mem_cons] at hn
    simp at hn
    show n < st.atom.length
    rcases hn with rfl | hn
    · omega
    · exact h.opn n hn
  · have m := h.mono
    refine ⟨by simp [takeS, closeS]; omega, m.atoml, m.bodyl, m.clsl, m.varsl, m.args, by simp [takeS], ?_, by simp [takeS]⟩
    intro n hn
    simp [takeS, closeS] at hn
    exact h.opn n (List.mem_of_mem_tail hn)
  · show RI (k + 1) (commaS st)
    unfold commaS
    cases ho : st.opn with
    | nil =>
      have := h.ends ho 1 (by omega) (by omega) (endAtomS st).inBody
      simpa using this
    | cons n r =>
      have m := h.mono
      simp only [List.isEmpty_cons, Bool.false_eq_true, if_false]
      have m1 := m.opnl
      have m2 := m.opn
      rw [ho] at m1 m2
      exact ⟨m1, m.atoml, m.bodyl, m.clsl, m.varsl, m.args, by simp, m2, by simp⟩
  · show RI (k + 1) (endClauseS (endAtomS st))
    have hw := h.ends (h4 (by omega)) 0 (by omega) (by omega) false
    have hcl : (endAtomS st).clauses = st.clauses := by unfold endAtomS; split <;> rfl
    have := h.clsl
    refine ⟨hw.opnl, hw.atoml, by simp [endClauseS], by simp [endClauseS, hcl]; omega, by simp [endClauseS], hw.args, ?_, hw.opn, ?_⟩
    · simp only [endClauseS]; split <;> omega
    · simp only [endClauseS]; split <;> omega
  · exact h.ends (h4 (by omega)) 1 (by omega) (by omega) true

/-- The tokens taken one after another: the error and its place, how far it came. The number e is where the text ends. -/
def runT (e : Nat) : List Tok → RS → Nat × Nat × RS
  | [], st => if st.next ≠ 0 ∧ st.next ≠ 5 then (2, e, st) else (0, 0, st)
  | t :: ts, st => if checkC st (kmap t.kind) t.text.length ≠ 0 then (checkC st (kmap t.kind) t.text.length, t.pos, st) else runT e ts (takeS st (kmap t.kind) t.text)

end Go.Proofs.YtlmjilpjmgjjcaaGreatDoor

namespace Go.Proofs.YtlmjilpjmgjjcaaGreatDoor
open Go.RowKit
set_option linter.unusedSimpArgs false
set_option linter.unusedVariables false

/-- A token in its own block; a fault in its own block. -/
def TokAt (w : World) (b : Nat) (t : Nat × Nat × Nat) : Prop := w.heap[b]? = some (.cells #[.int .i64 t.1, .int .i64 t.2.1, .int .i64 t.2.2] 224 (0, 0))
def FaultAt (w : World) (b : Nat) (e p : Nat) : Prop := w.heap[b]? = some (.cells #[.int .i64 e, .int .i64 p] 91 (0, 0))

theorem TokAt.cells {w : World} {b : Nat} {t : Nat × Nat × Nat} (h : TokAt w b t) : b < w.heap.size ∧ w.cell? ⟨b, 0, none⟩ = some (.int .i64 t.1) ∧ w.cell? ⟨b, 1, none⟩ = some (.int .i64 t.2.1) ∧ w.cell? ⟨b, 2, none⟩ = some (.int .i64 t.2.2) ∧ ∀ i, w.frozen? ⟨b, i, none⟩ = false :=
  ⟨lt_of_block h, cell_of_block h 0 _ rfl, cell_of_block h 1 _ rfl, cell_of_block h 2 _ rfl, fun i => thawed_of_block h i⟩
theorem FaultAt.cells {w : World} {b e p : Nat} (h : FaultAt w b e p) : b < w.heap.size ∧ w.cell? ⟨b, 0, none⟩ = some (.int .i64 e) ∧ w.cell? ⟨b, 1, none⟩ = some (.int .i64 p) ∧ ∀ i, w.frozen? ⟨b, i, none⟩ = false :=
  ⟨lt_of_block h, cell_of_block h 0 _ rfl, cell_of_block h 1 _ rfl, fun i => thawed_of_block h i⟩
theorem TokAt.held {w w' : World} {B b : Nat} {t : Nat × Nat × Nat} (h : TokAt w b t) (hk : Held B w w') : TokAt w' b t := (hk.other b _ _ _ h (Or.inl rfl)).trans h
theorem FaultAt.held {w w' : World} {B b e p : Nat} (h : FaultAt w b e p) (hk : Held B w w') : FaultAt w' b e p := (hk.other b _ _ _ h (Or.inr rfl)).trans h
theorem TokAt.kept {S : Nat → Prop} {w w' : World} {b : Nat} {t : Nat × Nat × Nat} (h : TokAt w b t) (hk : Kept S w w') (hs : ¬ S b) : TokAt w' b t := (hk.block b (lt_of_block h) hs).trans h
theorem FaultAt.kept {S : Nat → Prop} {w w' : World} {b e p : Nat} (h : FaultAt w b e p) (hk : Kept S w w') (hs : ¬ S b) : FaultAt w' b e p := (hk.block b (lt_of_block h) hs).trans h
theorem Kept.untouched {w w' : World} (h : Below w.heap.size w w') : Kept noBlock w w' := ⟨h.os, h.tape, h.output, h.size, fun k hk _ => h.block k hk⟩
theorem IsRx.fresh {w w' : World} {B rb : Nat} {st : RS} (h : IsRx w B rb st) (hk : Kept noBlock w w') : IsRx w' B rb st := by
  obtain ⟨V, Sa, Sb, vs, xs, h⟩ := h
  exact ⟨V, Sa, Sb, vs, xs, h.fresh hk⟩
/-- A token or a fault is written: the reader does not see it. -/
theorem IsRx.aside {w w' : World} {B rb k : Nat} {st : RS} {cs : Array Value} {T : TypeId} {fr : Nat × Nat} (h : IsRx w B rb st) (hb : w.heap[k]? = some (.cells cs T fr)) (hT : T = 224 ∨ T = 91) (hk : Kept (only k) w w') : IsRx w' B rb st := by
  obtain ⟨V, Sa, Sb, vs, xs, h⟩ := h
  have hr : rb ≠ k := fun e => by
    have e1 := h.blk
    rw [e, hb] at e1
    simp only [Option.some.injEq, Obj.cells.injEq] at e1
    rcases hT with h1 | h1 <;> exact absurd (e1.2.1.symm.trans h1) (by decide)
  have hX : ∀ {Br : Nat} {e : TypeId} {s n : Nat} {v : Value} {ys : List Value}, w.ownsRow Br e s v n ys → e ≠ 224 → e ≠ 91 → w'.ownsRow Br e s v n ys := fun ho h1 h2 =>
    hk.owns ho (fun i hi e => by
      have e : i = k := e
      subst e
      rcases hT with rfl | rfl
      · exact owns_apart ho h1 hb hi
      · exact owns_apart ho h2 hb hi)
  have hS : ∀ {v : Value} {l : List Sym}, SymRow w B Sa v l → SymRow w' B Sa v l := fun hs => ⟨hX hs.1 (by decide) (by decide), hs.2⟩
  have hBd : ∀ {v : Value} {ls : List (List Sym)} {us : List Value}, BodyRow w B Sa v ls us → BodyRow w' B Sa v ls us := fun hs => ⟨hX hs.1 (by decide) (by decide), fun i l hl => by
    obtain ⟨x, h1, h2⟩ := hs.2 i l hl
    exact ⟨x, h1, hS h2⟩⟩
  have r := h.rest
  exact ⟨V, Sa, Sb, vs, xs, (hk.block rb (lt_of_block h.blk) hr).trans h.blk, ⟨hX r.atom (by decide) (by decide), hX r.opn (by decide) (by decide), hX r.vars (by decide) (by decide), hS r.head, hBd r.body,
    ⟨hX r.cls.1 (by decide) (by decide), r.cls.2.1, r.cls.2.2.1, fun i c hc => by
      obtain ⟨hv, bv, vv, us, e1, e2, e3, e4⟩ := r.cls.2.2.2 i c hc
      exact ⟨hv, bv, vv, us, e1, hS e2, hBd e3, e4.1, hX e4.2.1 (by decide) (by decide), e4.2.2⟩⟩, r.ta, r.tb, r.tv, Nat.le_trans r.la hk.size, Nat.le_trans r.lb hk.size⟩, h.le⟩

theorem IsRx.le {w : World} {B rb : Nat} {st : RS} (h : IsRx w B rb st) : B ≤ w.heap.size := by
  obtain ⟨V, Sa, Sb, vs, xs, h⟩ := h
  have := h.le
  have := lt_of_block h.blk
  omega
theorem IsRx.look {w : World} {B rb : Nat} {st : RS} (h : IsRx w B rb st) : ∃ V, ROpen w B rb st V := by
  obtain ⟨V, Sa, Sb, vs, xs, h⟩ := h
  exact ⟨V, h.opens⟩

theorem fault_done {w wr : World} {B rb b e0 p0 : Nat} {st : RS} (hr : IsRx wr B rb st) (hf : FaultAt wr b e0 p0) (hB : B ≤ b) (hbw : Below B w wr) (x y : Value) :
    IsRx ((wr.setCell ⟨b, 0, none⟩ x).setCell ⟨b, 1, none⟩ y) B rb st ∧ Below B w ((wr.setCell ⟨b, 0, none⟩ x).setCell ⟨b, 1, none⟩ y) :=
  ⟨hr.aside hf (Or.inr rfl) (((Kept.refl (only b) wr).put 0 x).put 1 y), (hbw.setCell (p := ⟨b, 0, none⟩) hB x).setCell (p := ⟨b, 1, none⟩) hB y⟩

set_option maxRecDepth 10000 in
set_option maxHeartbeats 2000000 in
theorem readAll_any (w : World) (B rb : Nat) (st : RS) (s : ByteArray) (h : IsRx w B rb st) (hi : RI 0 st) (hs : s.size ≤ 4000) :
    Calls Tryz.prog 98 #[.pointer (some ⟨rb, 0, none⟩), .string s] w fun e w' =>
      e = .returned (.agg #[.int .i64 (runT s.size (toks s.data.toList 0) st).1, .int .i64 (runT s.size (toks s.data.toList 0) st).2.1]) ∧ IsRx w' B rb (runT s.size (toks s.data.toList 0) st).2.2 ∧ Below B w w' := by
  obtain ⟨R, hR⟩ : ∃ R, R = runT s.size (toks s.data.toList 0) st := ⟨_, rfl⟩
  rw [← hR]
  have hBw := h.le
  have HR := hide' hR
  have H := hide' h
  have Hi := hide' hi
  clear h hi hR
  go_enter Tryz.func98, Tryz.ntmps98
  go_wp2_with fail
  refine (next_any s 0 _ (by omega) (Nat.zero_le _)).mono ?_
  rintro e w1 ⟨rfl, hb1⟩
  have hF0 : FaultAt (w.alloc (.cells #[.int .i64 0, .int .i64 0] 91)) w.heap.size 0 0 := heap_alloc_new w _
  have hk1 : Kept noBlock w w1 := ((Kept.refl _ w).alloc _).trans (Kept.untouched hb1)
  have HF1 := hide' (hF0.kept (Kept.untouched hb1) (fun h => h))
  have H1 := hide' (H.out.fresh hk1)
  have HB1 := hide' (hk1.below hBw (fun _ h => h.elim))
  have hlt : w.heap.size < w1.heap.size := lt_of_block HF1.out
  clear hF0 hk1 hb1
  go_wp2
  go_loopg [] (s.size + 1) (fun gk wr => ∃ (n : Nat) (st' : RS), n ≤ s.size ∧ s.size - n < gk ∧ TokAt wr w1.heap.size (nextC s n) ∧ FaultAt wr w.heap.size 0 0 ∧ IsRx wr B rb st' ∧ RI n st' ∧ runT s.size (toks (s.data.toList.drop n) n) st' = R ∧ Below B w wr)
  case atStart =>
    refine ⟨0, st, Nat.zero_le _, by omega, heap_alloc_new w1 _, HF1.out.kept ((Kept.refl noBlock w1).alloc _) (fun h => h), H1.out.fresh ((Kept.refl _ w1).alloc _), Hi.out, ?_, HB1.out.alloc (Nat.le_trans hBw HB1.out.size) _⟩
    rw [HR.out]; rfl
  case round =>
    obtain ⟨n, st', hn, hgk, htok, hflt, hr, hri, hrun, hbw⟩ := hrel
    obtain ⟨hrb, c0, c1, c2, _, cf⟩ := hr.cells
    obtain ⟨hT4, f0, f1, ff⟩ := hflt.cells
    have hn5 := hri.next
    have h45 : ¬ w.heap.size = w1.heap.size := by omega
    have hr4 : ¬ rb = w.heap.size := fun e => by
      obtain ⟨V, Sa, Sb, vs, xs, h⟩ := hr
      have e1 := h.blk
      rw [e, hflt] at e1
      simp at e1
    rcases next_toks s n hn with ⟨hnx, htk⟩ | ⟨t, q, hnx, htk, hkd, hnp, hpq, hqs, htx, htl⟩
    · rw [hnx] at htok
      rw [htk, runT] at hrun
      obtain ⟨hT5, t0, t1, t2, tf⟩ := htok.cells
      simp only at t0 t1 t2
      have Hr := hide' hr
      have Hflt := hide' hflt
      have Hbw := hide' hbw
      clear htok hflt hr hri htk hnx hbw
      by_cases h0 : st'.next = 0
      · rw [if_neg (by omega)] at hrun
        rw [h0] at c1
        have Hrun := hide' hrun
        clear hrun h0
        go_wp2
        refine bodyPost_ret (v := .agg #[.int .i64 0, .int .i64 0]) (by simp [results, Tryz.results98, go_sem, f0, f1, ff, hT4]) rfl ?_
        rw [← Hrun.out]
        exact ⟨rfl, fault_done Hr.out Hflt.out (by omega) Hbw.out _ _⟩
      · by_cases h5 : st'.next = 5
        · rw [if_neg (by omega)] at hrun
          rw [h5] at c1
          have Hrun := hide' hrun
          clear hrun h0 h5
          go_wp2
          refine bodyPost_ret (v := .agg #[.int .i64 0, .int .i64 0]) (by simp [results, Tryz.results98, go_sem, f0, f1, ff, hT4]) rfl ?_
          rw [← Hrun.out]
          exact ⟨rfl, fault_done Hr.out Hflt.out (by omega) Hbw.out _ _⟩
        · rw [if_pos ⟨h0, h5⟩] at hrun
          have b0 : ((st'.next : Int) != 0) = true := by rw [bne_iff_ne]; omega
          have b5 : ((st'.next : Int) != 5) = true := by rw [bne_iff_ne]; omega
          have Hrun := hide' hrun
          clear hrun h0 h5
          go_wp2
          refine bodyPost_ret (v := .agg #[.int .i64 2, .int .i64 s.size]) (by simp [results, Tryz.results98, go_sem, f0, f1, ff, hT4]) rfl ?_
          rw [← Hrun.out]
          exact ⟨rfl, fault_done Hr.out Hflt.out (by omega) Hbw.out _ _⟩
    · rw [hnx] at htok
      rw [htk, runT, htl] at hrun
      obtain ⟨hT5, t0, t1, t2, tf⟩ := htok.cells
      simp only at t0 t1 t2
      obtain ⟨kd, hkm⟩ : ∃ kd, kd = kmap t.kind := ⟨_, rfl⟩
      rw [← hkm] at htok t0 hrun
      have hkd1 : 1 ≤ kd := by
        rw [hkm]
        rcases hkd with h | h | h | h | h | h | h | h <;> rw [h] <;> decide
      have bk : ((kd : Int) != 0) = true := by rw [bne_iff_ne]; omega
      obtain ⟨V, hlook⟩ := hr.look
      have HC := hide' (check_any wr B rb st' V kd t.pos q hlook (hri.bd (by omega)) hn5 (by omega) (by omega))
      have Hr := hide' hr
      have Hflt := hide' hflt
      have Htok := hide' htok
      have Hbw := hide' hbw
      have Hri := hide' hri
      have Htx := hide' htx
      clear htok hflt hr hri htk hnx hbw hlook htx hkd hkm htl
      by_cases hc : checkC st' kd (q - t.pos) = 0
      · rw [if_neg (by simp [hc])] at hrun
        have hstand := check_stand hc
        have Hrun := hide' hrun
        have HT := hide' (Hri.out.takes (by omega) hstand)
        have Hri' := hide' ((Hri.out.take t.text hstand).at (m := q) (by omega))
        rw [hc] at HC
        clear hrun hc hstand
        go_wp2_with fail
        refine HC.out.mono ?_
        rintro e w2 ⟨rfl, hk2⟩
        have Hr2 := hide' (Hr.out.fresh hk2)
        have Hflt2 := hide' (Hflt.out.kept hk2 (fun h => h))
        have Htok2 := hide' (Htok.out.kept hk2 (fun h => h))
        have Hbw2 := hide' (Hbw.out.trans (hk2.below (by omega) (fun _ h => h.elim)))
        obtain ⟨x5, x0, x1, x2, xf⟩ := Htok2.out.cells
        simp only at x0 x1 x2
        have hsz2 := hk2.size
        clear hk2 t0 t1 t2 tf c0 c1 c2 cf f0 f1 ff
        go_wp2_with fail
        go_region_with (first
          | (go_at_call 133; refine (textOf_any s kd t.pos q _ ?_ ?_ ?_).mono ?_; (· omega); (· omega); (· omega); rintro e w3 ⟨rfl, hk3⟩; rw [Htx.out]; have Hr3 := hide' (Hr2.out.fresh (((Kept.refl noBlock w2).drewN 1).trans hk3)); have Hflt3 := hide' (Hflt2.out.kept (((Kept.refl noBlock w2).drewN 1).trans hk3) (fun h => h)); have Htok3 := hide' (Htok2.out.kept (((Kept.refl noBlock w2).drewN 1).trans hk3) (fun h => h)); obtain ⟨y5, y0, y1, y2, yf⟩ := Htok3.out.cells; simp only at y0 y1 y2; have Hk3 := hide' hk3; clear hk3)
          | (go_at_call 132; refine (take_any _ B rb st' kd t.text Hr3.out HT.out).mono ?_; rintro e w4 ⟨rfl, hr4', hh4⟩; have Hr4 := hide' hr4'; have Hh4 := hide' hh4; clear hr4' hh4))
        all_goals
          have hbw4 : Below B w w4 := (Hbw2.out.trans (Kept.below (((Kept.refl noBlock w2).drewN 1).trans Hk3.out) (by omega) (fun _ h => h.elim))).trans Hh4.out.below
          have Hflt4 := hide' (Hflt3.out.held Hh4.out)
          have Htok4 := hide' (Htok3.out.held Hh4.out)
          obtain ⟨z5, z0, z1, z2, zf⟩ := Htok4.out.cells
          simp only at z0 z1 z2
          have Hbw4 := hide' hbw4
          clear hbw4 x0 x1 x2 xf y0 y1 y2 yf
          go_wp2_with fail
          refine (next_any s q _ (by omega) hqs).mono ?_
          rintro e w5 ⟨rfl, hb5⟩
          have hk5 := Kept.untouched hb5
          have Htok5 := hide' (Htok4.out.kept hk5 (fun h => h))
          have Hflt5 := hide' (Hflt4.out.kept hk5 (fun h => h))
          have Hr5 := hide' (Hr4.out.fresh hk5)
          have Hbw5 := hide' (Hbw4.out.trans (hk5.below Hr4.out.le (fun _ h => h.elim)))
          obtain ⟨v5, v0, v1, v2, vf⟩ := Htok5.out.cells
          simp only at v0 v1 v2
          clear hk5 hb5 z0 z1 z2 zf
          go_wp2
          go_roundg (s.size - q + 1)
          case measure => omega
          case rel =>
            have hB5 : B ≤ w1.heap.size := by omega
            refine ⟨q, takeS st' kd t.text, hqs, by omega, ?_, ?_, ?_, Hri'.out, Hrun.out, ?_⟩
            · unfold TokAt
              rw [block_set (block_set (block_set Htok5.out 0 _) 1 _) 2 _]
              rfl
            · exact Hflt5.out.kept ((((Kept.refl (only w1.heap.size) w5).put 0 _).put 1 _).put 2 _) (fun e => h45 e)
            · exact Hr5.out.aside Htok5.out (Or.inl rfl) ((((Kept.refl (only w1.heap.size) w5).put 0 _).put 1 _).put 2 _)
            · exact ((Hbw5.out.setCell (p := ⟨w1.heap.size, 0, none⟩) hB5 _).setCell (p := ⟨w1.heap.size, 1, none⟩) hB5 _).setCell (p := ⟨w1.heap.size, 2, none⟩) hB5 _
      · rw [if_pos hc] at hrun
        have bc : ((checkC st' kd (q - t.pos) : Int) != 0) = true := by rw [bne_iff_ne]; omega
        have Hrun := hide' hrun
        clear hrun hc
        go_wp2_with fail
        refine HC.out.mono ?_
        rintro e w2 ⟨rfl, hk2⟩
        have Hr2 := hide' (Hr.out.fresh hk2)
        have Hflt2 := hide' (Hflt.out.kept hk2 (fun h => h))
        have Htok2 := hide' (Htok.out.kept hk2 (fun h => h))
        have Hbw2 := hide' (Hbw.out.trans (hk2.below (by omega) (fun _ h => h.elim)))
        obtain ⟨x5, x0, x1, x2, xf⟩ := Htok2.out.cells
        simp only at x0 x1 x2
        obtain ⟨g4, g0, g1, gf⟩ := Hflt2.out.cells
        clear hk2 t0 t1 t2 tf c0 c1 c2 cf f0 f1 ff
        go_wp2
        refine bodyPost_ret (v := .agg #[.int .i64 (checkC st' kd (q - t.pos)), .int .i64 t.pos]) (by simp [results, Tryz.results98, go_sem, g0, g1, gf, g4]) rfl ?_
        rw [← Hrun.out]
        exact ⟨rfl, fault_done Hr2.out Hflt2.out (by omega) Hbw2.out _ _⟩

end Go.Proofs.YtlmjilpjmgjjcaaGreatDoor

namespace Go.Proofs.YtlmjilpjmgjjcaaGreatDoor
open Go.RowKit
set_option linter.unusedSimpArgs false
set_option linter.unusedVariables false

/-- What a term that ends writes: of each open bracket how many of its terms are not yet whole, the innermost first. -/
def closes : List Nat → List UInt8 × List Nat
  | [] => ([], [])
  | n :: r => if 1 < n then ([44], (n - 1) :: r) else (41 :: (closes r).1, (closes r).2)
/-- How the program writes an atom. -/
def atomC : List Sym → List Nat → List UInt8
  | [], _ => []
  | s :: r, miss => if 0 < s.args then symC s ++ 40 :: atomC r (s.args :: miss) else symC s ++ ((closes miss).1 ++ atomC r (closes miss).2)

theorem cat_len {a b c : List UInt8} (h : a ++ b = c) : a.length + b.length = c.length := by rw [← h]; simp

set_option maxRecDepth 10000 in
set_option maxHeartbeats 2000000 in
theorem atomText_any (w : World) (B : Nat) (v : Value) (l : List Sym) (ho : w.ownsRow B 133 3 v l.length (symsCells l)) (hl : l.length ≤ 4000) (hn : ∀ s ∈ l, s.num < 2600 ∧ s.args ≤ 4096) (hL : (atomC l []).length ≤ 100000000) :
    Calls Tryz.prog 100 #[v] w fun e w' => e = .returned (.string ⟨(atomC l []).toArray⟩) ∧ Below w.heap.size w w' := by
  obtain ⟨F, hF⟩ : ∃ F, F = atomC l [] := ⟨_, rfl⟩
  rw [← hF] at hL ⊢
  obtain ⟨va, vcap, rfl⟩ := owns_slice ho
  have Ho := hide' ho
  have HF := hide' hF
  have Hn := hide' hn
  clear ho hF hn
  go_enter Tryz.func100, Tryz.ntmps100
  go_wp2
  go_loopg [3, 4, 10] (l.length + 1) (fun gk tx mv i wr => ∃ (k : Nat) (acc : List UInt8) (miss : List Nat), i = .int .i64 k ∧ k ≤ l.length ∧ l.length - k < gk ∧ tx = .string ⟨acc.toArray⟩ ∧ acc ++ atomC (l.drop k) miss = F ∧
      wr.ownsRow w.heap.size 3 1 mv miss.length (ints miss.reverse) ∧ Below w.heap.size w wr ∧ miss.length ≤ k ∧ ∀ m ∈ miss, 1 ≤ m ∧ m ≤ 4096)
  case atStart => exact ⟨0, [], [], rfl, Nat.zero_le _, by omega, rfl, by rw [HF.out]; rfl, World.ownsRow_nil _ _ _ _, Below.refl _ _, Nat.zero_le _, by simp⟩
  case round =>
    obtain ⟨k, acc, miss, rfl, hk, hgk, rfl, hacc, hmo, hbw, hmk, hmm⟩ := hrel
    obtain ⟨ma, mcap, rfl⟩ := owns_slice hmo
    have hsz := hbw.size
    by_cases hlt : k < l.length
    · obtain ⟨s, hs⟩ : ∃ s, l[k]? = some s := ⟨_, List.getElem?_eq_getElem hlt⟩
      have hd : l.drop k = s :: l.drop (k + 1) := by
        rw [List.drop_eq_getElem_cons hlt]
        rw [List.getElem?_eq_getElem hlt] at hs
        simp at hs
        rw [hs]
      rw [hd, atomC] at hacc
      obtain ⟨hsn, hsa⟩ := Hn.out s (List.mem_of_getElem? hs)
      have ho := (Kept.untouched hbw).owns Ho.out (fun _ _ h => h)
      obtain ⟨g, cap', cur, he, hBg, hg, hcp⟩ := owns_some ho (by omega)
      simp only [Value.slice.injEq] at he
      obtain ⟨rfl, _, rfl⟩ := he
      have hgl : g < w.heap.size := (Ho.out.lt g rfl).2
      have e0 : wr.cell? ⟨g, k * 3, none⟩ = some (.string ⟨s.name.toArray⟩) := owns_cell ho _ _ (by have := symsCells_at l k s hs 0 (by omega); rw [Nat.add_zero] at this; rw [this]; rfl)
      have e1 : wr.cell? ⟨g, k * 3 + 1, none⟩ = some (.int .i64 s.num) := owns_cell ho _ _ (by rw [symsCells_at l k s hs 1 (by omega)]; rfl)
      have e2 : wr.cell? ⟨g, k * 3 + 2, none⟩ = some (.int .i64 s.args) := owns_cell ho _ _ (by rw [symsCells_at l k s hs 2 (by omega)]; rfl)
      have Hacc := hide' hacc
      have Hmo := hide' hmo
      have Hbw := hide' hbw
      have Hmm := hide' hmm
      have Hd := hide' hd
      clear hacc hmo hbw hmm hd hs ho hg
      go_wp2_with fail
      refine (symbolText_any s _ hsn).mono ?_
      rintro e w1 ⟨rfl, hb1⟩
      have hk1 : Kept noBlock wr w1 := ((Kept.refl _ wr).alloc _).trans (Kept.untouched hb1)
      have hbox : w1.heap[wr.heap.size]? = some (.cells #[.string ⟨s.name.toArray⟩, .int .i64 s.num, .int .i64 s.args] 133 (0, 0)) := (hb1.block _ (by simp)).trans (heap_alloc_new wr _)
      have b2 : w1.cell? ⟨wr.heap.size, 2, none⟩ = some (.int .i64 s.args) := cell_of_block hbox 2 _ rfl
      have bl := lt_of_block hbox
      have Hmo1 := hide' (hk1.owns Hmo.out (fun _ _ h => h))
      have Hbw1 := hide' (Hbw.out.trans (hk1.below hsz (fun _ h => h.elim)))
      have hlen := cat_len Hacc.out
      clear hk1 hbox hb1 e0 e1 e2
      by_cases ha : 0 < s.args
      · have Hacc2 : Hid (acc ++ symC s ++ [40] ++ atomC (l.drop (k + 1)) (s.args :: miss) = F) := by show _ = _; rw [← Hacc.out, if_pos ha]; simp
        rw [if_pos ha] at hlen
        simp only [List.length_append, List.length_cons] at hlen
        go_wp2_with (at_builtin; refine wpList_append1 _ rfl (.tmp 23) (.tmp 26) 25 rfl w.heap.size 3 Tryz.infoInt Tryz.underlying25 rfl (by decide) _ miss.length (ints miss.reverse) rfl Hmo1.out _ rfl (by simp) rfl (int_one _) ?_ ?_ ?_)
        · omega
        · omega
        intro v' w2 hap
        have Hap := hide' hap
        clear hap
        go_wp2
        go_roundg (l.length - k)
        case measure => omega
        case rel =>
          have hrow := Hap.out.owns
          refine ⟨k + 1, acc ++ symC s ++ [40], s.args :: miss, by go_num, by omega, by omega, ?_, Hacc2.out, ?_, ?_, by simp; omega, ?_⟩
          · show Value.string (_ ++ _ ++ (⟨[40].toArray⟩ : ByteArray)) = _
            rw [str_cat, str_cat]
          · simpa [ints] using hrow
          · refine Hbw1.out.trans (Hap.out.kept.below (by omega) (fun k hk => (Hmo1.out.lt k hk).1))
          · intro m hm
            simp only [List.mem_cons] at hm
            rcases hm with rfl | hm
            · exact ⟨ha, hsa⟩
            · exact Hmm.out m hm
      · have Hacc2 : Hid (acc ++ symC s ++ ((closes miss).1 ++ atomC (l.drop (k + 1)) (closes miss).2) = F) := by show _ = _; rw [← Hacc.out, if_neg ha]; simp
        rw [if_neg ha] at hlen
        simp only [List.length_append] at hlen
        go_wp2
        go_loopg [3, 4] (miss.length + 1) (fun gj ty mw wi => ∃ (acc' : List UInt8) (miss' : List Nat), miss'.length < gj ∧ ty = .string ⟨acc'.toArray⟩ ∧ acc' ++ ((closes miss').1 ++ atomC (l.drop (k + 1)) (closes miss').2) = F ∧
          wi.ownsRow w.heap.size 3 1 mw miss'.length (ints miss'.reverse) ∧ Below w.heap.size w wi ∧ miss'.length ≤ k ∧ ∀ m ∈ miss', 1 ≤ m ∧ m ≤ 4096)
        case atStart =>
          exact ⟨acc ++ symC s, miss, by omega, congrArg Value.string (str_cat _ _), Hacc2.out, Hmo1.out, Hbw1.out, hmk, Hmm.out⟩
        case round =>
          obtain ⟨acc', miss', hgj, rfl, hacc', hmo', hbw', hmk', hmm'⟩ := hrel
          obtain ⟨ma', mcap', rfl⟩ := owns_slice hmo'
          have hszi := hbw'.size
          have hlen' := cat_len hacc'
          simp only [List.length_append] at hlen'
          cases hm : miss' with
          | nil =>
            have Hacc' := hide' hacc'
            have Hmo' := hide' hmo'
            have Hbw' := hide' hbw'
            have Hm := hide' hm
            have hml : miss'.length = 0 := by rw [hm]; rfl
            clear hacc' hmo' hbw' hm
            go_wp2
            go_roundg (l.length - k)
            case measure => omega
            case rel =>
              refine ⟨k + 1, acc', [], by go_num, by omega, by omega, rfl, ?_, ?_, Hbw'.out, by simp, by simp⟩
              · have h := Hacc'.out
                rw [Hm.out] at h
                simpa [closes] using h
              · have h := Hmo'.out
                rw [Hm.out] at h
                exact h
          | cons n r =>
            subst hm
            obtain ⟨hn1, hn2⟩ := hmm' n (by simp)
            obtain ⟨g', gcap', gcur', he', hBg', hg', hcap'⟩ := owns_some hmo' (by simp)
            simp only [Value.slice.injEq] at he'
            obtain ⟨rfl, _, rfl⟩ := he'
            simp only [List.length_cons] at hcap' hmo' hgj hmk'
            have cg : wr.cell? ⟨g', r.length, none⟩ = some (.int .i64 n) := owns_cell hmo' r.length _ (by simp [ints])
            have fg := thawed_of_block hg' r.length
            have hgl' := lt_of_block hg'
            have Hset := hide' (owns_setg hmo' r.length (.int .i64 ((n : Int) - 1)))
            have Hacc' := hide' hacc'
            have Hbw' := hide' hbw'
            have Hmm' := hide' hmm'
            have Hbs := hide' (hbw'.setCell (p := ⟨g', r.length, none⟩) hBg' (.int .i64 ((n : Int) - 1)))
            clear hacc' hbw' hmm' hmo' hg'
            by_cases h1 : 1 < n
            · have Hcl : Hid (acc' ++ [44] ++ atomC (l.drop (k + 1)) ((n - 1) :: r) = F) := by show _ = _; rw [← Hacc'.out]; simp [closes, h1]
              have hl1 : (closes (n :: r)).1.length = 1 := by simp [closes, h1]
              rw [hl1] at hlen'
              have hd0 : (0 : Int) < (n : Int) - 1 := by omega
              go_wp2
              go_roundg (l.length - k)
              case measure => omega
              case rel =>
                have hcast : (n : Int) - 1 = ((n - 1 : Nat) : Int) := by omega
                refine ⟨k + 1, acc' ++ [44], (n - 1) :: r, by go_num, by omega, by omega, ?_, Hcl.out, ?_, Hbs.out, by simp; omega, ?_⟩
                · show Value.string (_ ++ (⟨[44].toArray⟩ : ByteArray)) = _
                  rw [str_cat]
                · have h := Hset.out
                  rw [hcast] at h ⊢
                  simpa [ints] using h
                · intro m hm
                  simp only [List.mem_cons] at hm
                  rcases hm with rfl | hm
                  · omega
                  · exact Hmm'.out m (by simp [hm])
            · have Hcl : Hid (acc' ++ [41] ++ ((closes r).1 ++ atomC (l.drop (k + 1)) (closes r).2) = F) := by show _ = _; rw [← Hacc'.out]; simp [closes, h1]
              have hl1 : (closes (n :: r)).1.length = (closes r).1.length + 1 := by simp [closes, h1]
              rw [hl1] at hlen'
              have hd0 : ¬ (0 : Int) < (n : Int) - 1 := by omega
              have Hpop := hide' (owns_pop (n := r.length) Hset.out)
              go_wp2
              go_roundg (r.length + 1)
              case measure => omega
              case rel =>
                refine ⟨acc' ++ [41], r, by omega, ?_, Hcl.out, ?_, Hbs.out, by omega, fun m hm => Hmm'.out m (by simp [hm])⟩
                · show Value.string (_ ++ (⟨[41].toArray⟩ : ByteArray)) = _
                  rw [str_cat]
                · have h := Hpop.out
                  have e : ((ints (n :: r).reverse).set r.length (.int .i64 ((n : Int) - 1))).take r.length = ints r.reverse := by
                    simp [ints, List.take_set]
                  rw [e] at h
                  exact h
    · have hke : k = l.length := by omega
      have Hacc : Hid (acc = F) := by
        show _ = _
        rw [hke, List.drop_eq_nil_of_le (Nat.le_refl _)] at hacc
        simpa [atomC] using hacc
      have Hbw := hide' hbw
      clear hacc hbw hmo
      go_wp2
      go_ret
      rw [← Hacc.out]
      exact ⟨rfl, Hbw.out⟩

end Go.Proofs.YtlmjilpjmgjjcaaGreatDoor

namespace Go.Proofs.YtlmjilpjmgjjcaaGreatDoor
open Go.RowKit
set_option linter.unusedSimpArgs false
set_option linter.unusedVariables false

/-- Where a reading begins. -/
def st0 (q : Bool) : RS := ⟨q, if q then 1 else 0, q, [], [], [], [], [], []⟩
theorem st0_inv (q : Bool) : RI 0 (st0 q) := by
  refine ⟨by simp [st0], by simp [st0], by simp [st0], by simp [st0], by simp [st0], by simp [st0], ?_, by simp [st0], ?_⟩
  · cases q <;> simp [st0]
  · cases q <;> simp [st0]
def nilV : RV := ⟨.slice none 0 0, .slice none 0 0, .slice none 0 0, .slice none 0 0, .slice none 0 0, .slice none 0 0⟩
theorem st0_is (w : World) (q : Bool) : IsRx (w.alloc (.cells (rsCells (st0 q) nilV) 169)) w.heap.size w.heap.size (st0 q) := by
  refine ⟨nilV, 0, 0, [], [], heap_alloc_new w _, ⟨World.ownsRow_nil _ _ _ _, World.ownsRow_nil _ _ _ _, World.ownsRow_nil _ _ _ _, ⟨World.ownsRow_nil _ _ _ _, fun k e => by simp [nilV, Value.ownBlock] at e⟩, ⟨World.ownsRow_nil _ _ _ _, fun i l hl => by simp [st0] at hl⟩,
    ⟨World.ownsRow_nil _ _ _ _, rfl, fun x hx => by simp at hx, fun i c hc => by simp [st0] at hc⟩, fun k e => by simp [nilV, Value.ownBlock] at e, fun k e => by simp [nilV, Value.ownBlock] at e, fun k e => by simp [nilV, Value.ownBlock] at e, Nat.zero_le _, Nat.zero_le _⟩, Nat.le_refl _⟩

/-- A text, read. -/
def runs (s : ByteArray) (q : Bool) : Nat × Nat × RS := runT s.size (toks s.data.toList 0) (st0 q)

theorem cls_kept {S : Nat → Prop} {w w' : World} {B Sa Sb : Nat} {v : Value} {cs : List CC} {xs : List (List Value)} (h : CCRow w B Sa Sb v cs xs) (hk : Kept S w w') (hs : ∀ k cur T fr, S k → w.heap[k]? = some (.cells cur T fr) → T ≠ 133 ∧ T ≠ 105 ∧ T ≠ 107 ∧ T ≠ 9) : CCRow w' B Sa Sb v cs xs := by
  have hX : ∀ {Br : Nat} {e : TypeId} {s n : Nat} {v : Value} {ys : List Value}, w.ownsRow Br e s v n ys → (e = 133 ∨ e = 105 ∨ e = 107 ∨ e = 9) → w'.ownsRow Br e s v n ys := fun ho he =>
    hk.owns ho (fun i hi hS => by
      obtain ⟨cur, hc⟩ := owns_terms ho i hi
      obtain ⟨h1, h2, h3, h4⟩ := hs i _ _ _ hS hc
      rcases he with he | he | he | he
      · exact h1 he
      · exact h2 he
      · exact h3 he
      · exact h4 he)
  have hS : ∀ {v : Value} {l : List Sym}, SymRow w B Sa v l → SymRow w' B Sa v l := fun hs => ⟨hX hs.1 (Or.inl rfl), hs.2⟩
  refine ⟨hX h.1 (Or.inr (Or.inr (Or.inl rfl))), h.2.1, h.2.2.1, fun i c hc => ?_⟩
  obtain ⟨hv, bv, vv, us, e1, e2, e3, e4⟩ := h.2.2.2 i c hc
  exact ⟨hv, bv, vv, us, e1, hS e2, ⟨hX e3.1 (Or.inr (Or.inl rfl)), fun i l hl => by
    obtain ⟨x, h1, h2⟩ := e3.2 i l hl
    exact ⟨x, h1, hS h2⟩⟩, e4.1, hX e4.2.1 (Or.inr (Or.inr (Or.inr rfl))), e4.2.2⟩

theorem body_base {S : Nat → Prop} {w w' : World} {B Sa : Nat} {v : Value} {ls : List (List Sym)} {us : List Value} (h : BodyRow w B Sa v ls us) (hk : Kept S w w') (hs : ∀ k, S k → k < B) : BodyRow w' B Sa v ls us := by
  have hX : ∀ {e : TypeId} {s n : Nat} {v : Value} {ys : List Value}, w.ownsRow B e s v n ys → w'.ownsRow B e s v n ys := fun ho =>
    hk.owns ho (fun i hi hS => by
      have h1 := (ho.lt i hi).1
      have h2 := hs i hS
      omega)
  exact ⟨hX h.1, fun i l hl => by
    obtain ⟨x, h1, h2⟩ := h.2 i l hl
    exact ⟨x, h1, hX h2.1, h2.2⟩⟩

set_option maxRecDepth 10000 in
set_option maxHeartbeats 1000000 in
theorem rprogram_long (s : ByteArray) (w : World) (hm : s.size ≤ maxLen) (hl : 800 < s.size) :
    Calls Tryz.prog 72 #[.string s] w fun e w' => e = .returned (.tuple #[.slice none 0 0, .agg #[.int .i64 1, .int .i64 0]]) ∧ Below w.heap.size w w' := by
  go_enter Tryz.func72, Tryz.ntmps72
  go_wp2
  refine bodyPost_ret (v := .tuple #[.slice none 0 0, .agg #[.int .i64 1, .int .i64 0]]) (by simp [results, Tryz.results72, go_sem]) rfl ⟨rfl, (Below.refl _ _).alloc (Nat.le_refl _) _⟩

set_option maxRecDepth 10000 in
set_option maxHeartbeats 1000000 in
theorem rprogram_any (s : ByteArray) (w : World) (hl : s.size ≤ 800) :
    Calls Tryz.prog 72 #[.string s] w fun e w' => Below w.heap.size w w' ∧ (((runs s false).1 ≠ 0 ∧ e = .returned (.tuple #[.slice none 0 0, .agg #[.int .i64 (runs s false).1, .int .i64 (runs s false).2.1]])) ∨
      ((runs s false).1 = 0 ∧ ∃ v B Sa Sb xs, e = .returned (.tuple #[v, .agg #[.int .i64 0, .int .i64 0]]) ∧ CCRow w' B Sa Sb v (runs s false).2.2.clauses xs)) := by
  obtain ⟨R, hR⟩ : ∃ R, R = runs s false := ⟨_, rfl⟩
  have hA := readAll_any ((w.alloc (.cells #[.int .i64 0, .int .i64 0] 91)).alloc (.cells (rsCells (st0 false) nilV) 169)) _ _ (st0 false) s (st0_is (w.alloc (.cells #[.int .i64 0, .int .i64 0] 91)) false) (st0_inv false) (by omega)
  rw [show runT s.size (toks s.data.toList 0) (st0 false) = R from hR.symm] at hA
  rw [show (w.alloc (.cells #[.int .i64 0, .int .i64 0] 91)).heap.size = w.heap.size + 1 from by simp] at hA
  have HA := hide' hA
  rw [← hR]
  clear hR hA
  go_enter Tryz.func72, Tryz.ntmps72
  go_wp2_with fail
  refine HA.out.mono ?_
  rintro e w2 ⟨rfl, hr, hb⟩
  have hF : FaultAt w2 w.heap.size 0 0 := (hb.block w.heap.size (by omega)).trans (block_alloc (heap_alloc_new w _) _)
  have hB : Below w.heap.size w w2 := ((Below.refl _ w).alloc (Nat.le_refl _) _).trans ((((Below.refl _ _).alloc (by simp) _)).trans (hb.mono (by omega)))
  obtain ⟨V, Sa, Sb, vs, xs, h⟩ := hr
  have hrb := lt_of_block h.blk
  obtain ⟨c0, c1, c2, c3, c4, c5, c6, c7, c8⟩ := h.opens.facts
  have cf := fun i => thawed_of_block h.blk i
  obtain ⟨ca, ccap, hvc⟩ := owns_slice h.rest.cls.1
  rw [hvc] at c8
  obtain ⟨hT4, f0, f1, ff⟩ := hF.cells
  have HF := hide' hF
  have HB := hide' hB
  have HC := hide' h.rest.cls
  have Hvc := hide' hvc
  clear hF hB h hvc hb c0 c1 c2 c3 c4 c5 c6 c7
  by_cases hc : R.1 = 0
  · have b0 : ((R.1 : Int) != 0) = false := by rw [hc]; rfl
    have Hc := hide' hc
    clear hc
    go_wp2
    refine bodyPost_ret (v := .tuple #[.slice ca R.2.2.clauses.length ccap, .agg #[.int .i64 0, .int .i64 0]]) (by simp [results, Tryz.results72, go_sem, f0, f1, ff, hT4]) rfl ?_
    refine ⟨?_, Or.inr ⟨Hc.out, _, w.heap.size + 1, Sa, Sb, xs, rfl, ?_⟩⟩
    · exact ((HB.out.setCell (p := ⟨w.heap.size, 0, none⟩) (Nat.le_refl _) _).setCell (p := ⟨w.heap.size, 1, none⟩) (Nat.le_refl _) _).alloc (by simp; omega) _
    · rw [← Hvc.out]
      exact cls_kept HC.out ((((Kept.refl (only w.heap.size) w2).put 0 _).put 1 _).alloc _) (fun k cur T fr hk hb => by
        have hk : k = w.heap.size := hk
        rw [hk, HF.out] at hb
        simp only [Option.some.injEq, Obj.cells.injEq] at hb
        rw [← hb.2.1]
        decide)
  · have b0 : ((R.1 : Int) != 0) = true := by rw [bne_iff_ne]; omega
    have Hc := hide' hc
    clear hc
    go_wp2_with fail
    go_region
    all_goals
      go_wp2
      refine bodyPost_ret (v := .tuple #[.slice none 0 0, .agg #[.int .i64 R.1, .int .i64 R.2.1]]) (by simp [results, Tryz.results72, go_sem, f0, f1, ff, hT4]) rfl ?_
      refine ⟨?_, Or.inl ⟨Hc.out, rfl⟩⟩
      exact (((HB.out.setCell (p := ⟨w.heap.size, 0, none⟩) (Nat.le_refl _) _).setCell (p := ⟨w.heap.size, 1, none⟩) (Nat.le_refl _) _).alloc (by simp; omega) _).drew

set_option maxRecDepth 10000 in
set_option maxHeartbeats 1000000 in
theorem rquery_long (s : ByteArray) (w : World) (hm : s.size ≤ maxLen) (hl : 120 < s.size) :
    Calls Tryz.prog 73 #[.string s] w fun e w' => e = .returned (.tuple #[.agg #[.slice none 0 0, .slice none 0 0, .slice none 0 0], .agg #[.int .i64 1, .int .i64 0]]) ∧ Below w.heap.size w w' := by
  go_enter Tryz.func73, Tryz.ntmps73
  go_wp2
  refine bodyPost_ret (v := .tuple #[.agg #[.slice none 0 0, .slice none 0 0, .slice none 0 0], .agg #[.int .i64 1, .int .i64 0]]) (by simp [results, Tryz.results73, go_sem]) rfl ⟨rfl, ((Below.refl _ _).alloc (Nat.le_refl _) _).alloc (by simp) _⟩

set_option maxRecDepth 10000 in
set_option maxHeartbeats 1000000 in
theorem rquery_any (s : ByteArray) (w : World) (hl : s.size ≤ 120) (hcl : (runs s true).1 = 0 → ∃ c cs, (runs s true).2.2.clauses = c :: cs) :
    Calls Tryz.prog 73 #[.string s] w fun e w' => Below w.heap.size w w' ∧ (((runs s true).1 ≠ 0 ∧ e = .returned (.tuple #[.agg #[.slice none 0 0, .slice none 0 0, .slice none 0 0], .agg #[.int .i64 (runs s true).1, .int .i64 (runs s true).2.1]])) ∨
      ((runs s true).1 = 0 ∧ ∃ hv bv vv B Sa vs c cs, e = .returned (.tuple #[.agg #[hv, bv, vv], .agg #[.int .i64 0, .int .i64 0]]) ∧ (runs s true).2.2.clauses = c :: cs ∧ (∃ a n x, hv = .slice a n x) ∧ w'.ownsRow B 9 1 vv c.names.length (strs c.names) ∧ BodyRow w' B Sa bv c.body vs)) := by
  obtain ⟨R, hR⟩ : ∃ R, R = runs s true := ⟨_, rfl⟩
  have hA := readAll_any (((w.alloc (.cells #[.slice none 0 0, .slice none 0 0, .slice none 0 0] 107)).alloc (.cells #[.int .i64 0, .int .i64 0] 91)).alloc (.cells (rsCells (st0 true) nilV) 169)) _ _ (st0 true) s (st0_is ((w.alloc (.cells #[.slice none 0 0, .slice none 0 0, .slice none 0 0] 107)).alloc (.cells #[.int .i64 0, .int .i64 0] 91)) true) (st0_inv true) (by omega)
  rw [show runT s.size (toks s.data.toList 0) (st0 true) = R from hR.symm] at hA
  rw [show ((w.alloc (.cells #[.slice none 0 0, .slice none 0 0, .slice none 0 0] 107)).alloc (.cells #[.int .i64 0, .int .i64 0] 91)).heap.size = w.heap.size + 1 + 1 from by simp] at hA
  have HA := hide' hA
  rw [← hR] at hcl ⊢
  have Hcl := hide' hcl
  clear hR hA hcl
  go_enter Tryz.func73, Tryz.ntmps73
  go_wp2_with fail
  refine HA.out.mono ?_
  rintro e w2 ⟨rfl, hr, hb⟩
  have hF : FaultAt w2 (w.heap.size + 1) 0 0 := (hb.block (w.heap.size + 1) (by omega)).trans (block_alloc (by have := heap_alloc_new (w.alloc (.cells #[.slice none 0 0, .slice none 0 0, .slice none 0 0] 107)) (.cells #[.int .i64 0, .int .i64 0] 91); simpa using this) _)
  have hC : w2.heap[w.heap.size]? = some (.cells #[.slice none 0 0, .slice none 0 0, .slice none 0 0] 107 (0, 0)) := (hb.block w.heap.size (by omega)).trans (block_alloc (block_alloc (heap_alloc_new w _) _) _)
  have hB : Below w.heap.size w w2 := ((Below.refl _ w).alloc (Nat.le_refl _) _).trans (((Below.refl _ _).alloc (by simp) _).trans (((Below.refl _ _).alloc (by simp; omega) _).trans (hb.mono (by omega))))
  obtain ⟨V, Sa, Sb, vs, xs, h⟩ := hr
  have hrb := lt_of_block h.blk
  obtain ⟨c0, c1, c2, c3, c4, c5, c6, c7, c8⟩ := h.opens.facts
  have cf := fun i => thawed_of_block h.blk i
  obtain ⟨ca, ccap, hvc⟩ := owns_slice h.rest.cls.1
  rw [hvc] at c8
  obtain ⟨hT4, f0, f1, ff⟩ := hF.cells
  have q0 : w2.cell? ⟨w.heap.size, 0, none⟩ = some (.slice none 0 0) := cell_of_block hC 0 _ rfl
  have q1 : w2.cell? ⟨w.heap.size, 1, none⟩ = some (.slice none 0 0) := cell_of_block hC 1 _ rfl
  have q2 : w2.cell? ⟨w.heap.size, 2, none⟩ = some (.slice none 0 0) := cell_of_block hC 2 _ rfl
  have qf := fun i => thawed_of_block hC i
  have hT2 := lt_of_block hC
  have HF := hide' hF
  have HQ := hide' hC
  have HB := hide' hB
  have HC := hide' h.rest.cls
  have Hvc := hide' hvc
  clear hF hB h hb c0 c1 c2 c3 c4 c5 c6 c7 hC hvc
  have Hdone : Hid (∀ x0 x1 x2 y0 y1 o, Below w.heap.size w ((((((w2.setCell ⟨w.heap.size, 0, none⟩ x0).setCell ⟨w.heap.size, 1, none⟩ x1).setCell ⟨w.heap.size, 2, none⟩ x2).setCell ⟨w.heap.size + 1, 0, none⟩ y0).setCell ⟨w.heap.size + 1, 1, none⟩ y1).alloc o)) := fun x0 x1 x2 y0 y1 o =>
    (((((HB.out.setCell (p := ⟨w.heap.size, 0, none⟩) (Nat.le_refl _) _).setCell (p := ⟨w.heap.size, 1, none⟩) (Nat.le_refl _) _).setCell (p := ⟨w.heap.size, 2, none⟩) (Nat.le_refl _) _).setCell (p := ⟨w.heap.size + 1, 0, none⟩) (Nat.le_succ _) _).setCell (p := ⟨w.heap.size + 1, 1, none⟩) (Nat.le_succ _) _).alloc (by simp; omega) _
  by_cases hc : R.1 = 0
  · have b0 : ((R.1 : Int) != 0) = false := by rw [hc]; rfl
    obtain ⟨c, cs, hcs⟩ := Hcl.out hc
    obtain ⟨hv, bv, vv, us, e1, e2, e3, e4, e5, e6⟩ := HC.out.2.2.2 0 c (by rw [hcs]; rfl)
    obtain ⟨va, vcap, rfl⟩ := owns_slice e5
    obtain ⟨ha, hcap, rfl⟩ := owns_slice e2.1
    obtain ⟨ba, bcap, rfl⟩ := owns_slice e3.1
    have hcl : 0 < R.2.2.clauses.length := by rw [hcs]; simp
    have hcr := HC.out.1
    rw [Hvc.out] at hcr
    obtain ⟨g, gcap, gcur, he, hBg, hg, hcp⟩ := owns_some hcr (by omega)
    simp only [Value.slice.injEq] at he
    obtain ⟨rfl, _, rfl⟩ := he
    obtain ⟨xr, hxs⟩ : ∃ xr, xs = [.slice ha c.head.length hcap, .slice ba c.body.length bcap, .slice va c.names.length vcap] :: xr := by
      cases xs with
      | nil => simp at e1
      | cons x xr => simp at e1; exact ⟨xr, by rw [e1]⟩
    have k0 : w2.cell? ⟨g, 0, none⟩ = some (.slice ha c.head.length hcap) := owns_cell hcr 0 _ (by rw [hxs]; rfl)
    have k1 : w2.cell? ⟨g, 1, none⟩ = some (.slice ba c.body.length bcap) := owns_cell hcr 1 _ (by rw [hxs]; rfl)
    have k2 : w2.cell? ⟨g, 2, none⟩ = some (.slice va c.names.length vcap) := owns_cell hcr 2 _ (by rw [hxs]; rfl)
    have hgl := lt_of_block hg
    have bl0 : (((R.2.2.clauses.length : Nat) : Int) == 0) = false := by rw [beq_eq_false_iff_ne]; omega
    have Hc := hide' hc
    have Hcs := hide' hcs
    have He3 := hide' e3
    have He5 := hide' e5
    clear hc hcs e1 e2 e3 e4 e5 e6 hcr hg hxs
    go_wp2
    refine bodyPost_ret (v := .tuple #[.agg #[.slice ha c.head.length hcap, .slice ba c.body.length bcap, .slice va c.names.length vcap], .agg #[.int .i64 0, .int .i64 0]]) (by simp [results, Tryz.results73, go_sem, f0, f1, ff, hT4, q0, q1, q2, qf, hT2]) rfl ?_
    refine ⟨Hdone.out _ _ _ _ _ _, Or.inr ⟨Hc.out, _, _, _, w.heap.size + 1 + 1, Sa, us, c, cs, rfl, Hcs.out, ⟨_, _, _, rfl⟩, ?_, ?_⟩⟩
    rotate_left
    refine body_base He3.out (S := fun k => k = w.heap.size ∨ k = w.heap.size + 1) ?_ (fun k hk => by omega)
    rotate_left
    refine Kept.owns (S := fun k => k = w.heap.size ∨ k = w.heap.size + 1) ?_ He5.out (fun k hk e => by have := (He5.out.lt k hk).1; omega)
    all_goals exact ((((((Kept.refl _ w2).setCell (p := ⟨w.heap.size, 0, none⟩) (fun _ => Or.inl rfl) _).setCell (p := ⟨w.heap.size, 1, none⟩) (fun _ => Or.inl rfl) _).setCell (p := ⟨w.heap.size, 2, none⟩) (fun _ => Or.inl rfl) _).setCell (p := ⟨w.heap.size + 1, 0, none⟩) (fun _ => Or.inr rfl) _).setCell (p := ⟨w.heap.size + 1, 1, none⟩) (fun _ => Or.inr rfl) _).alloc _
  · have b0 : ((R.1 : Int) != 0) = true := by rw [bne_iff_ne]; omega
    have Hc := hide' hc
    clear hc
    go_wp2_with fail
    go_region
    all_goals
      go_wp2
      refine bodyPost_ret (v := .tuple #[.agg #[.slice none 0 0, .slice none 0 0, .slice none 0 0], .agg #[.int .i64 R.1, .int .i64 R.2.1]]) (by simp [results, Tryz.results73, go_sem, f0, f1, ff, hT4, q0, q1, q2, qf, hT2]) rfl ?_
      refine ⟨?_, Or.inl ⟨Hc.out, rfl⟩⟩
      exact (Hdone.out _ _ _ _ _ _).drew

end Go.Proofs.YtlmjilpjmgjjcaaGreatDoor
