/-
  PROVED HERE: what the writing methods 'endAtom', 'takeComma', 'endClause' of the program's reader leave (the conditions stand in each statement).
-/
import Derived.Test.YtcbckkenifmchaaGreatDoorCodeAdd
namespace Go.Proofs.YtcbckkenifmchaaGreatDoor
open Go.RowKit
set_option linter.unusedSimpArgs false
set_option linter.unusedVariables false

def endAtomS (st : RS) : RS := if st.inBody then { st with body := st.body ++ [st.atom], atom := [] } else { st with head := st.atom, atom := [] }

theorem slice_one (a : Option Addr) (n c : Nat) : ∀ u ∈ (#[Value.slice a n c] : Array Value).toList, u.oneCell' = true := by
  intro u hu
  simp at hu
  subst hu
  rfl

set_option maxRecDepth 10000 in
set_option maxHeartbeats 1000000 in
theorem endAtom_any (w : World) (B rb : Nat) (st : RS) (h : IsRx w B rb st) (hb : RBd st) :
    Calls Tryz.prog 111 #[.pointer (some ⟨rb, 0, none⟩)] w fun e w' => e = .returned (.tuple #[]) ∧ IsRx w' B rb (endAtomS st) ∧ Held B w w' := by
  obtain ⟨V, Sa, Sb, vs, xs, h⟩ := h
  have hrb := lt_of_block h.blk
  have hBw : B ≤ w.heap.size := by have := h.le; omega
  obtain ⟨c0, c1, c2, c3, c4, c5, c6, c7, c8⟩ := h.opens.facts
  have hf := fun i => thawed_of_block h.blk i
  obtain ⟨aa, acap, hva⟩ := owns_slice h.rest.atom
  obtain ⟨ba, bcap, hvb⟩ := owns_slice h.rest.body.1
  have hlb := hb.body
  have hbr := h.rest.body.1
  rw [hvb] at hbr c6
  rw [hva] at c3
  obtain ⟨ha, hac, hvh⟩ := owns_slice h.rest.head.1
  rw [hvh] at c5
  have H := hide' h
  have Hbr := hide' hbr
  have Hva := hide' hva
  have Hvb := hide' hvb
  cases hin : st.inBody
  · rw [hin] at c2
    have He : Hid (endAtomS st = { st with head := st.atom, atom := [] }) := by show _ = _; simp [endAtomS, hin]
    clear h hva hvb hbr hvh hin
    go_enter Tryz.func111, Tryz.ntmps111
    go_wp2
    go_end0
    have hk : Kept (touch rb (.slice none 0 0)) w ((w.setCell ⟨rb, 5, none⟩ (.slice aa st.atom.length acap)).setCell ⟨rb, 3, none⟩ (.slice none 0 0)) := touch_more (touch_more (Kept.refl _ w) 5 _) 3 _
    have hblk : ((w.setCell ⟨rb, 5, none⟩ (.slice aa st.atom.length acap)).setCell ⟨rb, 3, none⟩ (.slice none 0 0)).heap[rb]? = some (.cells (rsCells { st with head := st.atom, atom := [] } { V with h := V.a, a := .slice none 0 0 }) 114 (0, 0)) := by
      rw [block_set (block_set H.out.blk 5 _) 3 _]
      simp [rsCells, Hva.out]
    rw [He.out]
    exact ⟨rfl, ⟨_, _, _, _, _, H.out.headed hk hblk⟩, H.out.below hk (World.ownsRow_nil w B 114 1) (by decide)⟩
  · rw [hin] at c2
    have He : Hid (endAtomS st = { st with body := st.body ++ [st.atom], atom := [] }) := by show _ = _; simp [endAtomS, hin]
    clear h hva hvb hbr hvh hin
    go_enter Tryz.func111, Tryz.ntmps111
    go_wp2_with fail
    go_region_law (refine step_append1 (w.drewN 1) rfl (.tmp 11) (.tmp 16) 79 rfl B 78 Tryz.infoSyms Tryz.underlying79 rfl (by decide) (.slice ba st.body.length bcap) st.body.length vs rfl Hbr.out #[.slice aa st.atom.length acap] rfl (by simp) rfl (slice_one _ _ _) (by omega) (by simp; omega) rfl ?_; intro v' w2 hap; obtain ⟨b1, b1cap, rfl⟩ := owns_slice hap.owns; have hblk1 := blk_after0 hap.kept H.out.blk (owns_apart Hbr.out (by decide) H.out.blk); have d3 : w2.cell? ⟨rb, 3, none⟩ = some V.a := cell_of_block hblk1 3 _ rfl; have d6 : w2.cell? ⟨rb, 6, none⟩ = some V.b := cell_of_block hblk1 6 _ rfl; have df := fun i => thawed_of_block hblk1 i; have Hap := hide' hap; have Hblk1 := hide' hblk1; clear hap hblk1)
    all_goals
      rw [Hva.out] at d3
      rw [Hvb.out] at d6
      go_wp2
      go_end0
      have hk : Kept (touch rb V.b) w ((w2.setCell ⟨rb, 6, none⟩ (.slice b1 (st.body.length + 1) b1cap)).setCell ⟨rb, 3, none⟩ (.slice none 0 0)) := by
        rw [Hvb.out]
        exact touch_more (touch_put (((Kept.refl _ w).drewN _).trans Hap.out.kept) 6 _) 3 _
      have hblk : ((w2.setCell ⟨rb, 6, none⟩ (.slice b1 (st.body.length + 1) b1cap)).setCell ⟨rb, 3, none⟩ (.slice none 0 0)).heap[rb]? = some (.cells (rsCells { st with body := st.body ++ [st.atom], atom := [] } { V with b := .slice b1 (st.body.length + 1) b1cap, a := .slice none 0 0 }) 114 (0, 0)) := by
        rw [block_set (block_set Hblk1.out 6 _) 3 _]
        simp [rsCells]
      have hrow : ((w2.setCell ⟨rb, 6, none⟩ (.slice b1 (st.body.length + 1) b1cap)).setCell ⟨rb, 3, none⟩ (.slice none 0 0)).ownsRow B 78 1 (.slice b1 (st.body.length + 1) b1cap) (st.body.length + 1) (vs ++ [V.a]) := by
        have h2 := Hap.out.owns
        have h3 := (((Kept.refl (only rb) w2).put 6 (.slice b1 (st.body.length + 1) b1cap)).put 3 (.slice none 0 0)).owns h2 (fun k hko e => by
          have e : k = rb := e
          rw [e] at hko
          exact owns_apart h2 (by decide) Hblk1.out hko)
        rw [Hva.out]
        simpa using h3
      have htb : ∀ k, (Value.slice b1 (st.body.length + 1) b1cap).ownBlock = some k → Sb ≤ k := by
        intro k hk
        rcases Hap.out.where_ with hw | ⟨g, hw, hg⟩
        · exact H.out.rest.tb k (by rw [Hvb.out, ← hw]; exact hk)
        · rw [hk] at hw
          simp at hw
          have := H.out.rest.lb
          have hg' : w.heap.size ≤ g := by simpa using hg
          omega
      rw [He.out]
      exact ⟨rfl, ⟨_, _, _, _, _, H.out.bodied hk _ hblk hrow htb⟩, H.out.below hk H.out.rest.body.1 (by decide)⟩

end Go.Proofs.YtcbckkenifmchaaGreatDoor

/-
  PROVED HERE: what the writing methods 'takeComma', 'endClause' of the program's reader leave (the conditions stand in each statement).
-/
namespace Go.Proofs.YtcbckkenifmchaaGreatDoor
open Go.RowKit
set_option linter.unusedSimpArgs false
set_option linter.unusedVariables false

theorem IsRx.next {w : World} {B rb : Nat} {st : RS} (h : IsRx w B rb st) (n : Nat) : IsRx (w.setCell ⟨rb, 1, none⟩ (.int .i64 n)) B rb { st with next := n } ∧ Held B w (w.setCell ⟨rb, 1, none⟩ (.int .i64 n)) := by
  obtain ⟨V, Sa, Sb, vs, xs, h⟩ := h
  have hk : Kept (touch rb (.slice none 0 0)) w (w.setCell ⟨rb, 1, none⟩ (.int .i64 n)) := touch_more (Kept.refl _ w) 1 _
  exact ⟨⟨V, Sa, Sb, vs, xs, h.only hk { st with next := n } (block_set h.blk 1 _) rfl rfl rfl rfl rfl rfl⟩, h.below hk (World.ownsRow_nil w B 114 1) (by decide)⟩
theorem IsRx.inb {w : World} {B rb : Nat} {st : RS} (h : IsRx w B rb st) (b : Bool) : IsRx (w.setCell ⟨rb, 2, none⟩ (.bool b)) B rb { st with inBody := b } ∧ Held B w (w.setCell ⟨rb, 2, none⟩ (.bool b)) := by
  obtain ⟨V, Sa, Sb, vs, xs, h⟩ := h
  have hk : Kept (touch rb (.slice none 0 0)) w (w.setCell ⟨rb, 2, none⟩ (.bool b)) := touch_more (Kept.refl _ w) 2 _
  exact ⟨⟨V, Sa, Sb, vs, xs, h.only hk { st with inBody := b } (block_set h.blk 2 _) rfl rfl rfl rfl rfl rfl⟩, h.below hk (World.ownsRow_nil w B 114 1) (by decide)⟩
theorem IsRx.cells {w : World} {B rb : Nat} {st : RS} (h : IsRx w B rb st) : rb < w.heap.size ∧ w.cell? ⟨rb, 0, none⟩ = some (.bool st.query) ∧ w.cell? ⟨rb, 1, none⟩ = some (.int .i64 st.next) ∧ w.cell? ⟨rb, 2, none⟩ = some (.bool st.inBody) ∧
    (∃ oa oc, w.cell? ⟨rb, 4, none⟩ = some (.slice oa st.opn.length oc)) ∧ ∀ i, w.frozen? ⟨rb, i, none⟩ = false := by
  obtain ⟨V, Sa, Sb, vs, xs, h⟩ := h
  obtain ⟨c0, c1, c2, c3, c4, c5, c6, c7, c8⟩ := h.opens.facts
  obtain ⟨oa, oc, hvo⟩ := owns_slice h.rest.opn
  rw [hvo] at c4
  exact ⟨lt_of_block h.blk, c0, c1, c2, ⟨oa, oc, c4⟩, fun i => thawed_of_block h.blk i⟩

def commaS (st : RS) : RS := if st.opn.isEmpty then { endAtomS st with next := 1 } else { st with next := 2 }

set_option maxRecDepth 10000 in
set_option maxHeartbeats 1000000 in
theorem comma_any (w : World) (B rb : Nat) (st : RS) (h : IsRx w B rb st) (hb : RBd st) :
    Calls Tryz.prog 110 #[.pointer (some ⟨rb, 0, none⟩)] w fun e w' => e = .returned (.tuple #[]) ∧ IsRx w' B rb (commaS st) ∧ Held B w w' := by
  obtain ⟨hrb, c0, c1, c2, ⟨oa, oc, c4⟩, hf⟩ := h.cells
  have hl := hb.opn
  have H := hide' h
  have HE := hide' (endAtom_any w B rb st h hb)
  cases hst : st.opn with
  | nil =>
    simp only [hst, List.length_nil] at c4
    have Hc : Hid (commaS st = { endAtomS st with next := 1 }) := by show _ = _; simp [commaS, hst]
    clear h hst
    go_enter Tryz.func110, Tryz.ntmps110
    go_wp2_with fail
    refine HE.out.mono ?_
    rintro e w1 ⟨rfl, h1, hB1⟩
    obtain ⟨hrb1, d0, d1, d2, _, df⟩ := h1.cells
    have H1 := hide' h1
    have HB1 := hide' hB1
    clear h1 hB1 c0 c1 c2 c4 hf
    go_wp2
    go_end0
    obtain ⟨hR, hB⟩ := H1.out.next 1
    rw [Hc.out]
    exact ⟨rfl, hR, HB1.out.trans hB⟩
  | cons n r =>
    have hrl : r.length + 1 ≤ 4096 := by rw [hst] at hl; simpa using hl
    simp only [hst, List.length_cons] at c4
    have Hc : Hid (commaS st = { st with next := 2 }) := by show _ = _; simp [commaS, hst]
    clear h hst
    go_enter Tryz.func110, Tryz.ntmps110
    go_wp2
    refine bodyPost_ret (results_none rfl _ _ _) rfl ?_
    obtain ⟨hR, hB⟩ := H.out.next 2
    rw [Hc.out]
    exact ⟨rfl, hR, hB⟩

def endClauseS (st : RS) : RS := { st with clauses := st.clauses ++ [⟨st.head, st.body⟩], head := [], body := [], vars := [], inBody := false, next := if st.query then 5 else 0 }

theorem cls3_one (a b c : Option Addr) (n m k x y z : Nat) : ∀ u ∈ (#[Value.slice a n x, .slice b m y, .slice c k z] : Array Value).toList, u.oneCell' = true := by
  intro u hu
  simp at hu
  rcases hu with rfl | rfl | rfl <;> rfl

/-- The struct behind a whole clause. -/
def clausW (w : World) (rb : Nat) (c : Value) : World := (((((w.setCell ⟨rb, 8, none⟩ c).setCell ⟨rb, 5, none⟩ (.slice none 0 0)).setCell ⟨rb, 6, none⟩ (.slice none 0 0)).setCell ⟨rb, 7, none⟩ (.slice none 0 0)).setCell ⟨rb, 2, none⟩ (.bool false)).setCell ⟨rb, 1, none⟩ (.int .i64 0)
theorem clause_done {w w2 : World} {B rb nd : Nat} {st : RS} {V : RV} {Sa Sb : Nat} {vs : List Value} {xs : List (List Value)} {a1 : Option Addr} {a1cap : Nat} (H : IsR w B rb st V Sa Sb vs xs)
    (hap : Appended (w.drewN nd) B 81 3 V.c (st.clauses.length + 1) (xs.flatten ++ [V.h, V.b, V.v]) (.slice a1 (st.clauses.length + 1) a1cap) w2) :
    IsRx (clausW w2 rb (.slice a1 (st.clauses.length + 1) a1cap)) B rb { endClauseS st with next := 0 } ∧ Held B w (clausW w2 rb (.slice a1 (st.clauses.length + 1) a1cap)) := by
  have hblk1 := blk_after0 hap.kept H.blk (owns_apart H.rest.cls.1 (by decide) H.blk)
  have hk : Kept (touch rb V.c) w (clausW w2 rb (.slice a1 (st.clauses.length + 1) a1cap)) :=
    touch_more (touch_more (touch_more (touch_more (touch_more (touch_put (((Kept.refl _ w).drewN _).trans hap.kept) 8 _) 5 _) 6 _) 7 _) 2 _) 1 _
  have hblk : (clausW w2 rb (.slice a1 (st.clauses.length + 1) a1cap)).heap[rb]? = some (.cells (rsCells { endClauseS st with next := 0 } { V with c := .slice a1 (st.clauses.length + 1) a1cap, h := .slice none 0 0, b := .slice none 0 0, v := .slice none 0 0 }) 114 (0, 0)) := by
    unfold clausW
    rw [block_set (block_set (block_set (block_set (block_set (block_set hblk1 8 _) 5 _) 6 _) 7 _) 2 _) 1 _]
    simp [rsCells, endClauseS]
  have hrow : (clausW w2 rb (.slice a1 (st.clauses.length + 1) a1cap)).ownsRow B 81 3 (.slice a1 (st.clauses.length + 1) a1cap) (st.clauses.length + 1) (xs.flatten ++ [V.h, V.b, V.v]) := by
    have h2 := hap.owns
    exact ((((((((Kept.refl (only rb) w2).put 8 _).put 5 _).put 6 _).put 7 _).put 2 _).put 1 _)).owns h2 (fun k hko e => by
      have e : k = rb := e
      rw [e] at hko
      exact owns_apart h2 (by decide) hblk1 hko)
  exact ⟨⟨_, _, _, _, _, H.clausd hk _ { endClauseS st with next := 0 } hblk hrow rfl rfl rfl rfl rfl rfl⟩, H.below hk H.rest.cls.1 (by decide)⟩

set_option maxRecDepth 10000 in
set_option maxHeartbeats 2000000 in
theorem endClause_any (w : World) (B rb : Nat) (st : RS) (h : IsRx w B rb st) (hb : RBd st) :
    Calls Tryz.prog 112 #[.pointer (some ⟨rb, 0, none⟩)] w fun e w' => e = .returned (.tuple #[]) ∧ IsRx w' B rb (endClauseS st) ∧ Held B w w' := by
  obtain ⟨V, Sa, Sb, vs, xs, h⟩ := h
  have hrb := lt_of_block h.blk
  have hBw : B ≤ w.heap.size := by have := h.le; omega
  obtain ⟨c0, c1, c2, c3, c4, c5, c6, c7, c8⟩ := h.opens.facts
  have hf := fun i => thawed_of_block h.blk i
  obtain ⟨ca, ccap, hvc⟩ := owns_slice h.rest.cls.1
  obtain ⟨ha, hac, hvh⟩ := owns_slice h.rest.head.1
  obtain ⟨ba, bcap, hvb⟩ := owns_slice h.rest.body.1
  obtain ⟨va, vcap, hvv⟩ := owns_slice h.rest.vars
  have hlc := hb.cls
  have hcr := h.rest.cls.1
  rw [hvc] at hcr c8
  rw [hvh] at c5
  rw [hvb] at c6
  rw [hvv] at c7
  have H := hide' h
  have Hcr := hide' hcr
  have Hvh := hide' hvh
  have Hvb := hide' hvb
  have Hvc := hide' hvc
  have Hvv := hide' hvv
  cases hq : st.query
  all_goals
    rw [hq] at c0
    have Hq := hide' hq
    clear h hvc hvh hvb hvv hcr hq
    go_enter Tryz.func112, Tryz.ntmps112
    go_wp2_with fail
    go_region_law (refine step_append1 (w.drewN 1) rfl (.tmp 6) (.tmp 11) 63 rfl B 81 Tryz.infoCls Tryz.underlying63 rfl (by decide) (.slice ca st.clauses.length ccap) st.clauses.length xs.flatten rfl Hcr.out #[.slice ha st.head.length hac, .slice ba st.body.length bcap, .slice va st.vars.length vcap] rfl (by simp) rfl (cls3_one _ _ _ _ _ _ _ _ _) (by omega) (by simp; omega) rfl ?_; intro v' w2 hap; obtain ⟨c1', c1cap, rfl⟩ := owns_slice hap.owns; have hblk1 := blk_after0 hap.kept H.out.blk (owns_apart Hcr.out (by decide) H.out.blk); have d0 : w2.cell? ⟨rb, 0, none⟩ = some (.bool st.query) := cell_of_block hblk1 0 _ rfl; have d1 : w2.cell? ⟨rb, 1, none⟩ = some (.int .i64 st.next) := cell_of_block hblk1 1 _ rfl; have d2 : w2.cell? ⟨rb, 2, none⟩ = some (.bool st.inBody) := cell_of_block hblk1 2 _ rfl; have d5 : w2.cell? ⟨rb, 5, none⟩ = some V.h := cell_of_block hblk1 5 _ rfl; have d6 : w2.cell? ⟨rb, 6, none⟩ = some V.b := cell_of_block hblk1 6 _ rfl; have d7 : w2.cell? ⟨rb, 7, none⟩ = some V.v := cell_of_block hblk1 7 _ rfl; have d8 : w2.cell? ⟨rb, 8, none⟩ = some V.c := cell_of_block hblk1 8 _ rfl; have df := fun i => thawed_of_block hblk1 i; have Hap := hide' hap; have Hblk1 := hide' hblk1; clear hap hblk1)

  all_goals
    rw [Hvh.out] at d5; rw [Hvb.out] at d6; rw [Hvv.out] at d7; rw [Hvc.out] at d8; rw [Hq.out] at d0
    go_wp2
    go_end0
    have hap := Hap.out
    rw [← Hvh.out, ← Hvb.out, ← Hvv.out, ← Hvc.out] at hap
    obtain ⟨hR, hB⟩ := clause_done H.out hap
    first
    | (have He : endClauseS st = { endClauseS st with next := 0 } := by simp [endClauseS, Hq.out]
       rw [He]
       exact ⟨rfl, hR, hB⟩)
    | (have He : endClauseS st = { { endClauseS st with next := 0 } with next := 5 } := by simp [endClauseS, Hq.out]
       obtain ⟨hR5, hB5⟩ := hR.next 5
       rw [He]
       exact ⟨rfl, hR5, hB.trans hB5⟩)

end Go.Proofs.YtcbckkenifmchaaGreatDoor
