/-
  PROVED HERE: what the reference's 'ReadProgram' answers (the conditions stand in each statement). what the reference's 'Program' answers, under the one condition that a program that is let by can be read (which is shown elsewhere). a text that the reference's 'over' lets by can be read (plain facts on tokens; the conditions stand in each statement). a query, a program that the reference's 'over' lets by can be read; what the reference's 'Query' and 'Program' answer at every text (the one condition: a string is no longer than a string may be). the laws 'Programs' and 'Queries' return true wherever the program's own Program and Query answer as the document does (a condition of each theorem here, shown elsewhere). a script that can be read as data lies in memory step by step (no conditions). what the program's 'clause.VariableName' and 'clause.symbolText' answer (the conditions stand in each statement).
-/
import Derived.Test.YtlmjilpjmgjjcaaGreatDoorT4
import Derived.Test.YtlmjilpjmgjjcaaGreatDoorCards
import Derived.Test.YtlmjilpjmgjjcaaGreatDoorTie
import Derived.ProofKit
import Derived.LaidMore
import Derived.OpenShut
import Derived.Stop.Joined
import Derived.SevenTiedAt
import Derived.Deep.Slices
import Derived.Carry
namespace Go.Proofs.YtlmjilpjmgjjcaaGreatDoor
open Go.RowKit
set_option linter.unusedSimpArgs false
set_option linter.unusedVariables false

theorem terms_int (f gn : Nat) (w : World) (ts : List Tok) (k : Nat) (ki : Int) (tv : Value) (Bt B : Nat) (names : Names) (nv : Value) (q : List (List Sym) × List Tok × Names) (hki : ki = (k : Int))
    (hq : pterms f gn (ts.drop k) names [] = some q) (hts : w.ownsRow Bt 243 3 tv ts.length (toksCells ts)) (hnv : w.ownsRow B 9 1 nv names.length (strs names)) (hB : B ≤ w.heap.size)
    (hl : ts.length ≤ 1000) (hn : names.length + (ts.length - k) ≤ 1000) (htx : ∀ t ∈ ts, t.text.length ≤ 4096) (htn : ∀ i t, ts[i]? = some t → i + 1 < ts.length → t.text ≠ []) :
    Calls Tryz.prog 144 #[tv, .int .i64 ki, nv] w fun e w' => ∃ lv nv' j xs, e = .returned (.tuple #[lv, .int .i64 (j : Nat), nv']) ∧ q.2.1 = ts.drop j ∧ k < j ∧ j ≤ ts.length ∧
      Kids f w' w.heap.size lv q.1 xs ∧ Appended w B 9 1 nv q.2.2.length (strs q.2.2) nv' w' := by
  subst hki
  exact terms_any f gn w ts k tv Bt B names nv q hq hts hnv hB hl hn htx htn

set_option maxRecDepth 10000 in
set_option maxHeartbeats 1000000 in
theorem readProgram_long (s : ByteArray) (w : World) (hm : s.size ≤ maxLen) (hs : 800 < s.size) :
    Calls Tryz.prog 106 #[.string s] w fun e w' => e = .returned (.tuple #[.slice none 0 0, .int .i64 1, .int .i64 0]) ∧ Below w.heap.size w w' := by
  unfold maxLen at hm
  go_enter Tryz.func106, Tryz.ntmps106
  go_wp2
  go_ret3
  exact ⟨rfl, Below.refl _ _⟩

set_option maxRecDepth 10000 in
set_option maxHeartbeats 1000000 in
theorem readProgram_err (s : ByteArray) (w : World) (hs : s.size ≤ 800) (he : (lover (alltoks s) (lstart0 false)).1 ≠ 0) :
    Calls Tryz.prog 106 #[.string s] w fun e w' => e = .returned (.tuple #[.slice none 0 0, .int .i64 (lover (alltoks s) (lstart0 false)).1, .int .i64 (lover (alltoks s) (lstart0 false)).2]) ∧ Below w.heap.size w w' := by
  have he' : (((lover (alltoks s) (lstart0 false)).1 : Int) != 0) = true := by rw [bne_iff_ne]; omega
  go_enter Tryz.func106, Tryz.ntmps106
  go_wp2_with fail
  refine (tokens_row s _ (by omega)).mono ?_
  rintro e w1 ⟨v, rfl, hb1, hts⟩
  have Hts := hide' hts
  have Hb1 := hide' hb1
  clear hts hb1
  go_wp2_with fail
  refine (over_program w1 _ s v (by omega) Hts.out).mono ?_
  rintro e w2 ⟨rfl, hb2⟩
  have Hb2 := hide' hb2
  clear hb2
  go_wp2
  go_ret3
  exact ⟨rfl, Hb1.out.trans (Hb2.out.mono Hb1.out.size)⟩

set_option maxRecDepth 10000 in
set_option maxHeartbeats 1000000 in
theorem readProgram_ok (s : ByteArray) (w : World) (cs : List Cls) (hs : s.size ≤ 800) (he : (lover (alltoks s) (lstart0 false)).1 = 0) (hq : pprog 1000 (alltoks s) [] = some cs) :
    Calls Tryz.prog 106 #[.string s] w fun e w' => ∃ lv xs, e = .returned (.tuple #[lv, .int .i64 0, .int .i64 0]) ∧ ClsRow w' w.heap.size lv cs xs ∧ Below w.heap.size w w' := by
  have he' : (((lover (alltoks s) (lstart0 false)).1 : Int) != 0) = false := by rw [he]; rfl
  have hal := alltoks_len s
  have Hq := hide' hq
  have Htx : Hid (∀ t ∈ alltoks s, t.text.length ≤ 4096) := fun t ht => by have := alltoks_text s t ht; omega
  have Htn := hide' (alltoks_some s)
  clear hq
  go_enter Tryz.func106, Tryz.ntmps106
  go_wp2_with fail
  refine (tokens_row s _ (by omega)).mono ?_
  rintro e w1 ⟨v, rfl, hb1, hts⟩
  have Hts := hide' hts
  have Hb1 := hide' hb1
  clear hts hb1
  go_wp2_with fail
  refine (over_program w1 _ s v (by omega) Hts.out).mono ?_
  rintro e w2 ⟨rfl, hb2⟩
  have Hb12 := hide' (Hb1.out.trans (hb2.mono Hb1.out.size))
  have Hts2 := hide' (below_owns hb2 Hts.out (Nat.le_refl _))
  have hsz2 := Hb12.out.size
  obtain ⟨ta, tcap, rfl⟩ := owns_slice Hts2.out
  clear hb2 Hts Hb1
  generalize alltoks s = ts at *
  go_wp2
  go_loopg [8, 9] 1000 (fun gk lv i wr => ∃ (j : Nat) (acc : List Cls) (xs : List (List Value)), i = .int .i64 (j : Nat) ∧ j ≤ ts.length ∧ acc.length ≤ j ∧ pprog gk (ts.drop j) acc = some cs ∧
      ClsRow wr w.heap.size lv acc xs ∧ Below w.heap.size w wr ∧ wr.ownsRow w.heap.size 243 3 (.slice ta ts.length tcap) ts.length (toksCells ts))
  case atStart => exact ⟨0, [], [], rfl, by omega, by simp, Hq.out, ClsRow.nil _ _, Hb12.out, Hts2.out⟩
  case round =>
    obtain ⟨j, acc, xs, rfl, hj, haj, hpr, hrow, hbel, htsr⟩ := hrel
    obtain ⟨la, lcap, rfl⟩ := owns_slice hrow.owns
    cases hdj : ts.drop j with
    | nil => rw [hdj] at hpr; cases gk <;> simp [pprog] at hpr
    | cons x xr =>
      obtain ⟨hx, hxr, hxl⟩ := drop_at hdj
      obtain ⟨g, tcap', he2, hg2, x0, _, _⟩ := tok_at htsr hx
      simp only [Value.slice.injEq] at he2
      obtain ⟨rfl, _, rfl⟩ := he2
      cases gk with
      | zero => simp [pprog] at hpr
      | succ gk =>
        rw [hdj, pprog] at hpr
        by_cases h4 : x.kind = 4
        · rw [if_pos h4] at hpr
          simp only [Option.some.injEq] at hpr
          have k4 : ((x.kind : Int) != 4) = false := by rw [h4]; rfl
          have Hrow := hide' hrow
          have Hpr := hide' hpr
          clear hrow hpr hdj hx hxr htsr
          go_wp2
          go_ret3
          rw [← Hpr.out]
          exact ⟨_, xs, rfl, Hrow.out, hbel⟩
        · rw [if_neg h4] at hpr
          have k4 : ((x.kind : Int) != 4) = true := by rw [bne_iff_ne]; omega
          cases hpc : pclause (x :: xr) with
          | none => rw [hpc] at hpr; simp at hpr
          | some cr =>
            rw [hpc] at hpr
            simp only at hpr
            rw [← hdj, pclause] at hpc
            cases hpt : pterm 1000 (ts.drop j) [] with
            | none => rw [hpt] at hpc; simp at hpc
            | some r =>
              rw [hpt] at hpc
              simp only at hpc
              obtain ⟨nb, hb1, hb2, hb3, hb4⟩ := pterm_behind 1000 _ [] r hpt
              simp only [List.length_drop, List.length_nil] at hb2 hb4
              have hszr := hbel.size
              have HI := hide' (term_any 1000 wr ts j (.slice (some ⟨g, 0, none⟩) ts.length tcap) w.heap.size wr.heap.size [] (.slice none 0 0) r hpt htsr (World.ownsRow_nil _ _ _ _) (Nat.le_refl _) (by omega) (by simp; omega) Htx.out Htn.out)
              have Hrow := hide' hrow
              have Hpr := hide' hpr
              have Hpc := hide' hpc
              have Htsr := hide' htsr
              have Hb3 := hide' hb3
              clear hrow hpr hpc htsr hdj hx hxr hpt hb3
              go_wp2_with fail
              refine HI.out.mono ?_
              rintro e w3 ⟨a, b, c, nv, j', rfl, hrest, hj1, hj2, hrep, hap⟩
              obtain ⟨sa, bn, ca, cl, cc, rfl, rfl, rfl⟩ := hrep.shape
              obtain ⟨na, ncap, rfl⟩ := owns_slice hap.owns
              have hkb : Kept noBlock wr w3 := hap.kept.mono (fun k _ h => by simp [ownOf, Value.ownBlock] at h)
              have hsz3 := hkb.size
              have hts3 := hkb.owns Htsr.out (fun _ _ h => h)
              have Hts3 := hide' hts3
              have Hkb := hide' hkb
              have Hrep := hide' hrep
              have Hap := hide' hap
              have Hrest := hide' hrest
              have hpc2 := Hpc.out
              rw [hrest] at hpc2
              cases hdj2 : ts.drop j' with
              | nil => rw [hdj2] at hpc2; simp at hpc2
              | cons y yr =>
                rw [hdj2] at hpc2
                simp only at hpc2
                obtain ⟨hy, hyr, hyl⟩ := drop_at hdj2
                obtain ⟨g', tcap', he2, hg3, y0, _, _⟩ := tok_at hts3 hy
                simp only [Value.slice.injEq, Option.some.injEq, Addr.mk.injEq] at he2
                obtain ⟨⟨rfl, _⟩, _, rfl⟩ := he2
                have Hyr := hide' hyr
                clear hkb hts3 hrep hap hrest hdj2 hy hyr x0
                by_cases h3 : y.kind = 3
                · rw [if_pos h3] at hpc2
                  rw [Option.map_eq_some_iff] at hpc2
                  obtain ⟨q, hq1, rfl⟩ := hpc2
                  rw [h3] at y0
                  have Hq1 := hide' hq1
                  clear hq1
                  have Hnv : Hid (w3.ownsRow wr.heap.size 9 1 (.slice na r.2.2.length ncap) r.2.2.length (strs r.2.2)) := Hap.out.owns
                  have hnb : r.2.2.length ≤ nb := by omega
                  have hj3 : j' = j + nb := by
                    have h1 := congrArg List.length Hrest.out
                    rw [Hb3.out] at h1
                    simp only [List.length_drop] at h1
                    omega
                  have hnn : r.2.2.length + (ts.length - (j' + 1)) ≤ 1000 := by omega
                  clear hj3
                  go_wp2_with fail
                  refine (terms_int 1000 1000 _ ts (j' + 1) _ (.slice (some ⟨g, 0, none⟩) ts.length tcap) w.heap.size wr.heap.size r.2.2 (.slice na r.2.2.length ncap) q (by omega) (by rw [Hyr.out]; exact Hq1.out) ((Hts3.out.alloc _).alloc _) ((Hnv.out.alloc _).alloc _) (by simp; omega) (by omega) hnn Htx.out Htn.out).mono ?_
                  rintro e w5 ⟨bv, nv2, j2, ys, rfl, hrest2, hj5, hj6, hkids, hap5⟩
                  obtain ⟨ba, bcap, rfl⟩ := owns_slice hkids.owns
                  obtain ⟨n2a, n2cap, rfl⟩ := owns_slice hap5.owns
                  have hN : ∀ o o', ((w3.alloc o).alloc o').heap[w3.heap.size + 1]? = some o' := fun o o' => by
                    have := heap_alloc_new (w3.alloc o) o'
                    simpa using this
                  have hN' := hN (.cells #[.string sa, .int .i64 bn, .slice ca cl cc] 183) (.cells #[.string sa, .int .i64 bn, .slice ca cl cc, .slice none 0 0, .int .i64 0] 185)
                  have hsz5 := hap5.kept.size
                  simp only [World.alloc, Array.size_push] at hsz5
                  have hblk5 : w5.heap[w3.heap.size + 1]? = some (.cells #[.string sa, .int .i64 bn, .slice ca cl cc, .slice none 0 0, .int .i64 0] 185 (0, 0)) :=
                    (hap5.kept.block (w3.heap.size + 1) (by simp) (owns_apart ((Hnv.out.alloc _).alloc _) (by decide) hN')).trans hN'
                  have z3 : w5.cell? ⟨w3.heap.size + 1, 3, none⟩ = some (.slice none 0 0) := cell_of_block hblk5 3 _ rfl
                  have z4 : w5.cell? ⟨w3.heap.size + 1, 4, none⟩ = some (.int .i64 0) := cell_of_block hblk5 4 _ rfl
                  have z0 : w5.cell? ⟨w3.heap.size + 1, 0, none⟩ = some (.string sa) := cell_of_block hblk5 0 _ rfl
                  have z1 : w5.cell? ⟨w3.heap.size + 1, 1, none⟩ = some (.int .i64 bn) := cell_of_block hblk5 1 _ rfl
                  have z2 : w5.cell? ⟨w3.heap.size + 1, 2, none⟩ = some (.slice ca cl cc) := cell_of_block hblk5 2 _ rfl
                  have zf := fun i => thawed_of_block hblk5 i
                  have zs : w3.heap.size + 1 < w5.heap.size := lt_of_block hblk5
                  have k35 : Kept (ownOf (.slice na r.2.2.length ncap)) w3 w5 := (((Kept.refl _ w3).alloc _).alloc _).trans hap5.kept
                  have hrow3 : w3.ownsRow w.heap.size 185 5 (.slice la acc.length lcap) acc.length xs.flatten := Hkb.out.owns Hrow.out.owns (fun _ _ h => h)
                  have hrow5 : w5.ownsRow w.heap.size 185 5 (.slice la acc.length lcap) acc.length xs.flatten := k35.owns hrow3 (fun k hk => by
                    obtain ⟨cur, hc⟩ := owns_terms hrow3 k hk
                    exact owns_apart Hnv.out (by decide) hc)
                  have hts5 := k35.owns Hts3.out (fun k hk => by
                    obtain ⟨cur, hc⟩ := owns_terms Hts3.out k hk
                    exact owns_apart Hnv.out (by decide) hc)
                  have hnot : ∀ k, (Value.slice la acc.length lcap).ownBlock = some k → ¬ only (w3.heap.size + 1) k := fun k hk e => by
                    have e : k = w3.heap.size + 1 := e
                    have := (hrow3.lt k hk).2
                    omega
                  have hkt1 : KeepT wr w3 := KeepT.of_kept Hkb.out (fun _ _ h => h)
                  have hkt2 : KeepT w3 w5 := KeepT.of_apart k35 Hnv.out (by decide)
                  have hk56 : ∀ v3 v4 : Value, Kept (only (w3.heap.size + 1)) w5 ((w5.setCell ⟨w3.heap.size + 1, 3, none⟩ v3).setCell ⟨w3.heap.size + 1, 4, none⟩ v4) := fun v3 v4 => ((Kept.refl _ w5).put 3 v3).put 4 v4
                  have hkt3 : ∀ v3 v4 : Value, KeepT w5 ((w5.setCell ⟨w3.heap.size + 1, 3, none⟩ v3).setCell ⟨w3.heap.size + 1, 4, none⟩ v4) := fun v3 v4 => KeepT.of_kept (hk56 v3 v4) (fun k hk e => by
                    have e : k = w3.heap.size + 1 := e
                    subst e
                    obtain ⟨cur, hc⟩ := hk
                    rw [hblk5] at hc
                    simp at hc)
                  have Hcls := hide' (show ClsAt w5 [.string sa, .int .i64 bn, .slice ca cl cc, .slice ba q.1.length bcap, .int .i64 (q.2.2.length : Nat)] ⟨r.1, q.1, q.2.2⟩ from ⟨sa, bn, ca, cl, cc, _, _, _, _, ys, rfl, Hrep.out.keep hkt2, hkids⟩)
                  have Hrow56 := hide' (fun v3 v4 : Value => (hk56 v3 v4).owns hrow5 hnot)
                  have Hk56 := hide' hk56
                  have Hkt3 := hide' hkt3
                  have Hkt := hide' (hkt1.trans hkt2)
                  have Hts5 := hide' hts5
                  have Hrest2 := hide' hrest2
                  have H35 := hide' k35
                  have Hblk5 := hide' hblk5
                  have Hrow5 := hide' hrow5
                  clear hN hN' hblk5 k35 hrow3 hrow5 hts5 hnot hkt1 hkt2 hk56 hkt3 hkids hap5 hrest2 y0
                  go_wp2_with (at_builtin; refine wpList_append1 _ rfl (.tmp 69) (.tmp 71) 145 rfl w.heap.size 185 Tryz.infoClause Tryz.underlying145 rfl (by decide) _ acc.length xs.flatten rfl (Hrow56.out _ _) _ rfl (by simp) rfl cls_one ?_ ?_ ?_)
                  · omega
                  · simp; omega
                  intro lv' w6 hap6
                  have Hap6 := hide' hap6
                  clear hap6
                  go_wp2
                  go_roundg gk
                  case measure => omega
                  case rel =>
                    have hr56 := Hrow56.out (.slice ba q.1.length bcap) (.int .i64 (q.2.2.length : Nat))
                    have hk56 := Hk56.out (.slice ba q.1.length bcap) (.int .i64 (q.2.2.length : Nat))
                    have hkt3 := Hkt3.out (.slice ba q.1.length bcap) (.int .i64 (q.2.2.length : Nat))
                    have hktB : KeepT _ w6 := KeepT.of_apart Hap6.out.kept hr56 (by decide)
                    have hrowW := Hrow.out.keep (Hkt.out.trans hkt3) hr56
                    have hts56 := hk56.owns Hts5.out (fun k hk e => by
                      have e : k = w3.heap.size + 1 := e
                      subst e
                      exact owns_apart Hts5.out (by decide) Hblk5.out hk)
                    refine ⟨j2, acc ++ [⟨r.1, q.1, q.2.2⟩], _, rfl, by omega, by simp; omega, by rw [← Hrest2.out]; exact Hpr.out, hrowW.add (Hcls.out.keep hkt3) rfl hktB Hap6.out.owns, ?_, ?_⟩
                    · have hz5 := H35.out.size
                      have hz6 := hk56.size
                      refine hbel.trans ((Hkb.out.below hszr (fun _ h => h.elim)).trans ((H35.out.below (by omega) (fun k h => ?_)).trans ((hk56.below (by omega) (fun k h => ?_)).trans (Hap6.out.kept.below (by omega) (fun k h => (hr56.lt k h).1)))))
                      · have := (Hnv.out.lt k h).1; omega
                      · have h : k = w3.heap.size + 1 := h
                        omega
                    · exact Hap6.out.kept.owns hts56 (fun k hk => by
                        obtain ⟨cur, hc⟩ := owns_terms hts56 k hk
                        exact owns_apart hr56 (by decide) hc)
                · rw [if_neg h3] at hpc2
                  simp only [Option.some.injEq] at hpc2
                  have k3 : ((y.kind : Int) == 3) = false := by rw [beq_eq_false_iff_ne]; omega
                  subst hpc2
                  go_wp2_with (at_builtin; refine wpList_append1 _ rfl (.tmp 69) (.tmp 71) 145 rfl w.heap.size 185 Tryz.infoClause Tryz.underlying145 rfl (by decide) _ acc.length xs.flatten rfl (((Hkb.out.owns Hrow.out.owns (fun _ _ h => h)).alloc _).alloc _) _ rfl (by simp) rfl cls_one ?_ ?_ ?_)
                  · omega
                  · simp; omega
                  intro lv' w6 hap6
                  have Hap6 := hide' hap6
                  clear hap6
                  go_wp2
                  go_roundg gk
                  case measure => omega
                  case rel =>
                    have hrow3 : w3.ownsRow w.heap.size 185 5 (.slice la acc.length lcap) acc.length xs.flatten := Hkb.out.owns Hrow.out.owns (fun _ _ h => h)
                    have k36 : Kept (ownOf (.slice la acc.length lcap)) w3 w6 := (((Kept.refl _ w3).alloc _).alloc _).trans Hap6.out.kept
                    have hkt1 : KeepT wr w3 := KeepT.of_kept Hkb.out (fun _ _ h => h)
                    have hkt2 : KeepT w3 w6 := KeepT.of_apart k36 hrow3 (by decide)
                    have hcls : ClsAt w3 [.string sa, .int .i64 bn, .slice ca cl cc, .slice none 0 0, .int .i64 (r.2.2.length : Nat)] ⟨r.1, [], r.2.2⟩ := ⟨sa, bn, ca, cl, cc, _, _, _, 0, [], rfl, Hrep.out, Kids.nil _ _ _⟩
                    have hrow3' := Hrow.out.keep hkt1 hrow3
                    refine ⟨j' + 1, acc ++ [⟨r.1, [], r.2.2⟩], _, by go_num, by omega, by simp; omega, by rw [Hyr.out]; exact Hpr.out, hrow3'.add hcls rfl hkt2 Hap6.out.owns, ?_, ?_⟩
                    · refine hbel.trans ((Hkb.out.below hszr (fun _ h => h.elim)).trans (k36.below (by omega) (fun k h => (hrow3.lt k h).1)))
                    · exact k36.owns Hts3.out (fun k hk => by
                        obtain ⟨cur, hc⟩ := owns_terms Hts3.out k hk
                        exact owns_apart hrow3 (by decide) hc)

end Go.Proofs.YtlmjilpjmgjjcaaGreatDoor

namespace Go.Proofs.YtlmjilpjmgjjcaaGreatDoor
open Go.RowKit
set_option linter.unusedSimpArgs false
set_option linter.unusedVariables false

/-- A clause, written in order. -/
def wclause (c : Cls) : List UInt8 :=
  if c.body = [] then (wterm 1000 c.head []).1 ++ [46, 10]
  else (wterm 1000 c.head []).1 ++ [32, 58, 45, 32] ++ (wlisted 1000 [] c.body (wterm 1000 c.head []).2.1 ++ [46]) ++ [10]
/-- How many names and variables stand in a clause. -/
def csize (c : Cls) : Nat := c.head.length + c.body.flatten.length

theorem wclause_len (c : Cls) (h1 : IsT 1000 c.head) (h2 : ∀ l ∈ c.body, IsT 1000 l) (h3 : ∀ s ∈ c.head, s.name.length ≤ 4096) (h4 : ∀ s ∈ c.body.flatten, s.name.length ≤ 4096) (h5 : csize c ≤ 900) :
    (wclause c).length ≤ 4110 * csize c := by
  unfold csize at *
  have a1 := wterm_len 1000 c.head h1 h3 [] (by simp only [List.length_nil]; omega)
  have a2 := wlisted_len 1000 c.body h2 h4 [] (wterm 1000 c.head []).2.1 (by simp) (by simp only [List.length_nil] at a1; omega)
  have a3 := isT_pos 1000 c.head h1
  unfold wclause
  split
  · simp only [List.length_append, List.length_cons, List.length_nil]; omega
  · simp only [List.length_append, List.length_cons, List.length_nil]; omega

theorem ClsRow.cell {w : World} {lo g cap : Nat} {cs : List Cls} {xs : List (List Value)} (h : ClsRow w lo (.slice (some ⟨g, 0, none⟩) cs.length cap) cs xs) {i : Nat} {x : List Value} (hx : xs[i]? = some x) (j : Nat) (hj : j < 5) (v : Value) (hv : x[j]? = some v) :
    w.cell? ⟨g, i * 5 + j, none⟩ = some v := by
  refine owns_cell h.owns (i * 5 + j) v ?_
  have five := h.five
  clear h
  induction xs generalizing i with
  | nil => simp at hx
  | cons y ys ih =>
    have hy := five y (by simp)
    cases i with
    | zero =>
      simp at hx; subst hx
      rw [List.flatten_cons, List.getElem?_append_left (by omega)]
      simpa using hv
    | succ i =>
      rw [List.flatten_cons, List.getElem?_append_right (by omega)]
      rw [← ih (i := i) (by simpa using hx) (fun z hz => five z (by simp [hz]))]
      congr 1
      omega

theorem sum_take (f : Cls → Nat) (cs : List Cls) (k : Nat) (c : Cls) (h : cs[k]? = some c) : ((cs.take (k + 1)).map f).sum = ((cs.take k).map f).sum + f c := by
  have hk : k < cs.length := (List.getElem?_eq_some_iff.1 h).1
  rw [List.take_succ_eq_append_getElem hk, (List.getElem?_eq_some_iff.1 h).2]
  simp
theorem sum_take_le (f : Cls → Nat) (cs : List Cls) (k : Nat) : ((cs.take k).map f).sum ≤ (cs.map f).sum := by
  induction cs generalizing k with
  | nil => simp
  | cons c cs ih =>
    cases k with
    | zero => simp
    | succ k =>
      have := ih k
      simp only [List.take_succ_cons, List.map_cons, List.sum_cons]
      omega
theorem text_take (cs : List Cls) (k : Nat) (c : Cls) (h : cs[k]? = some c) : (cs.take (k + 1)).flatMap wclause = (cs.take k).flatMap wclause ++ wclause c := by
  have hk : k < cs.length := (List.getElem?_eq_some_iff.1 h).1
  rw [List.take_succ_eq_append_getElem hk, (List.getElem?_eq_some_iff.1 h).2]
  simp

set_option maxRecDepth 10000 in
set_option maxHeartbeats 1000000 in
theorem program_text (s : ByteArray) (w : World) (cs : List Cls) (hs : s.size ≤ 800) (he : (lover (alltoks s) (lstart0 false)).1 = 0) (hq : pprog 1000 (alltoks s) [] = some cs)
    (hsum : (cs.map csize).sum ≤ 900) (hcl : cs.length ≤ 900) (hnm : ∀ c ∈ cs, (∀ s ∈ c.head, s.name.length ≤ 4096) ∧ ∀ s ∈ c.body.flatten, s.name.length ≤ 4096) :
    Calls Tryz.prog 84 #[.string s] w fun e w' => e = .returned (.tuple #[.string ⟨(cs.flatMap wclause).toArray⟩, .int .i64 0, .int .i64 0]) ∧ Below w.heap.size w w' := by
  have Hw := hide' (written_any 1000)
  go_enter Tryz.func84, Tryz.ntmps84
  go_wp2_with fail
  refine (readProgram_ok s _ cs hs he hq).mono ?_
  rintro e w1 ⟨lv, xs, rfl, hrow, hb1⟩
  obtain ⟨la, lcap, rfl⟩ := owns_slice hrow.owns
  have Hrow := hide' hrow
  have Hb1 := hide' hb1
  have Hnm := hide' hnm
  have hsz1 := hb1.size
  clear hrow hb1 hnm hq he
  go_wp2
  go_loopw [8, 9] (fun tx i wr => ∃ (k : Nat), k ≤ cs.length ∧ i = .int .i64 k ∧ tx = .string ⟨((cs.take k).flatMap wclause).toArray⟩ ∧ ((cs.take k).flatMap wclause).length ≤ 4110 * ((cs.take k).map csize).sum ∧ Kept noBlock w1 wr) (fun _ i _ => cs.length - (intOf i).toNat)
  case atStart => exact ⟨0, Nat.zero_le _, rfl, by simp, by simp, Kept.refl _ _⟩
  case round =>
    obtain ⟨k, hk, rfl, rfl, hlen, hkept⟩ := hrel
    have hsk := sum_take_le csize cs k
    by_cases hlt : k < cs.length
    · obtain ⟨c, hc⟩ : ∃ c, cs[k]? = some c := ⟨_, List.getElem?_eq_getElem hlt⟩
      have hmem : c ∈ cs := List.mem_of_getElem? hc
      have hsk1 := sum_take csize cs k c hc
      have hsk2 := sum_take_le csize cs (k + 1)
      have htx := text_take cs k c hc
      have hktr : KeepT w1 wr := KeepT.of_kept hkept (fun _ _ h => h)
      have hrowr := Hrow.out.keep hktr (hkept.owns Hrow.out.owns (fun _ _ h => h))
      obtain ⟨g, lcap', lcur, he2, hBg, hg, hcp⟩ := owns_some hrowr.owns (by omega)
      simp only [Value.slice.injEq] at he2
      obtain ⟨rfl, _, rfl⟩ := he2
      obtain ⟨x, hx, hat⟩ := hrowr.all k c hc
      obtain ⟨sa, bn, ca, cl, cc, bv, lo, hi, lo', ys, rfl, hrep, hkids⟩ := hat
      obtain ⟨ba, bcap, rfl⟩ := owns_slice hkids.owns
      have y0 : wr.cell? ⟨g, k * 5, none⟩ = some (.string sa) := hrowr.cell hx 0 (by omega) _ rfl
      have y1 : wr.cell? ⟨g, k * 5 + 1, none⟩ = some (.int .i64 bn) := hrowr.cell hx 1 (by omega) _ rfl
      have y2 : wr.cell? ⟨g, k * 5 + 2, none⟩ = some (.slice ca cl cc) := hrowr.cell hx 2 (by omega) _ rfl
      have y3 : wr.cell? ⟨g, k * 5 + 3, none⟩ = some (.slice ba c.body.length bcap) := hrowr.cell hx 3 (by omega) _ rfl
      have hcs : csize c ≤ 900 := by omega
      have hcs' := hcs
      unfold csize at hcs'
      obtain ⟨hn1, hn2⟩ := Hnm.out c hmem
      have hwcl := wclause_len c (hrep.isT 1000) hkids.isT hn1 hn2 hcs
      have hwt := wterm_len 1000 c.head (hrep.isT 1000) hn1 [] (by simp only [List.length_nil]; omega)
      simp only [List.length_nil] at hwt
      have hwl := wlisted_len 1000 c.body hkids.isT hn2 [] (wterm 1000 c.head []).2.1 (by simp) (by omega)
      have hl1 : (wterm 1000 c.head []).1.length ≤ 5000000 := by omega
      have hl2 : (wlisted 1000 [] c.body (wterm 1000 c.head []).2.1).length ≤ 5000000 := by omega
      have hl3 : ((cs.take k).flatMap wclause).length ≤ 5000000 := by omega
      have Hn2 := hide' hn2
      have HI := hide' (Hw.out wr lo hi _ _ _ c.head 0 [] (.slice none 0 0) hrep (World.ownsRow_nil _ _ _ _) (by omega) hn1 (by simp only [List.length_nil]; omega))
      have Hkids := hide' hkids
      have Hkept := hide' hkept
      have Htx := hide' htx
      have Hlen : Hid (((cs.take (k + 1)).flatMap wclause).length ≤ 4110 * ((cs.take (k + 1)).map csize).sum) := by
        show _ ≤ _
        rw [htx, List.length_append, hsk1]; omega
      clear hlen hkept hktr hrowr hrep hkids htx hn1 hn2 hx hg hwcl hc
      generalize hdt : (cs.take k).flatMap wclause = dt at *
      have Hdt := hide' hdt
      clear hdt
      go_wp2_with fail
      refine HI.out.mono ?_
      rintro e w2 ⟨sv, rfl, hap⟩
      obtain ⟨sva, svcap, rfl⟩ := owns_slice hap.owns
      have hk2 : Kept noBlock wr w2 := hap.kept.mono (fun k _ h => by simp [ownOf, Value.ownBlock] at h)
      have y3' : w2.cell? ⟨g, k * 5 + 3, none⟩ = some (.slice ba c.body.length bcap) := hk2.cell y3 (fun h => h)
      have Hk2 := hide' hk2
      have Hap := hide' hap
      have Hkids2 := hide' (Hkids.out.keep (KeepT.of_kept hk2 (fun _ _ h => h)))
      have hsz2 := hk2.size
      clear hap hk2 y0 y1 y2 y3
      by_cases hbd : c.body = []
      · have hb0 : (((c.body.length : Nat) : Int) == 0) = true := by rw [hbd]; rfl
        have Hstr : Hid ((⟨dt.toArray⟩ : ByteArray) ++ ⟨(wterm 1000 c.head []).1.toArray⟩ ++ ⟨[46, 10].toArray⟩ = ⟨((cs.take (k + 1)).flatMap wclause).toArray⟩) := by
          show _ = _
          rw [str_cat, str_cat, Htx.out, wclause, if_pos hbd]
          simp
        have Hbd := hide' hbd
        clear hbd
        go_wp2
        go_roundw
        case rel => exact ⟨k + 1, by omega, by go_num, by rw [← Hstr.out], Hlen.out, Hkept.out.trans Hk2.out⟩
        case measure => simp [intOf]; omega
      · have hb0 : (((c.body.length : Nat) : Int) == 0) = false := by
          rw [beq_eq_false_iff_ne]
          intro h
          apply hbd
          apply List.eq_nil_of_length_eq_zero
          omega
        have Hstr : Hid ((⟨dt.toArray⟩ : ByteArray) ++ ⟨(wterm 1000 c.head []).1.toArray⟩ ++ ⟨[32, 58, 45, 32].toArray⟩ ++ ⟨(wlisted 1000 [] c.body (wterm 1000 c.head []).2.1 ++ [46]).toArray⟩ ++ ⟨[10].toArray⟩ = ⟨((cs.take (k + 1)).flatMap wclause).toArray⟩) := by
          show _ = _
          rw [str_cat, str_cat, str_cat, str_cat, Htx.out, wclause, if_neg hbd]
          simp
        clear hbd
        go_wp2_with fail
        refine (listed_any 1000 w2 _ 0 (wterm 1000 c.head []).2.1 (.slice sva (wterm 1000 c.head []).2.1.length svcap) lo' ys c.body Hkids2.out Hap.out.owns (by omega) Hn2.out (by omega)).mono ?_
        rintro e w3 ⟨rfl, hk3⟩
        have Hk3 : Hid (Kept noBlock wr w3) := Hk2.out.then hk3 (fun i hi h => by
          rcases Hap.out.where_ with h' | ⟨g', h', hg'⟩
          · have := h'.symm.trans h; simp [Value.ownBlock] at this
          · have := h'.symm.trans h; simp at this; omega)
        clear hk3
        go_wp2
        go_roundw
        case rel => exact ⟨k + 1, by omega, by go_num, by rw [← Hstr.out], Hlen.out, Hkept.out.trans Hk3.out⟩
        case measure => simp [intOf]; omega
    · have Hend : Hid ((cs.take k).flatMap wclause = cs.flatMap wclause) := by show _ = _; rw [List.take_of_length_le (by omega)]
      have Hkept := hide' hkept
      clear hkept
      go_wp2
      go_ret3
      rw [Hend.out]
      exact ⟨rfl, Hb1.out.trans (Hkept.out.below hsz1 (fun _ h => h.elim))⟩

end Go.Proofs.YtlmjilpjmgjjcaaGreatDoor

namespace Go.Proofs.YtlmjilpjmgjjcaaGreatDoor
set_option linter.unusedSimpArgs false
set_option linter.unusedVariables false

/-- Let by. -/
def okk (ts : List Tok) (L : LookS) : Prop := (lover ts L).1 = 0
/-- There is an End. -/
def fin : List Tok → Prop
  | [] => False
  | t :: ts => t.kind = 4 ∨ fin ts

theorem okk_cons {t : Tok} {ts : List Tok} {L : LookS} (h : okk (t :: ts) L) (hn : ¬ (t.kind = 4 ∧ (L.want = 5 ∨ L.want = 0))) : (lstep L t.kind t.text.length).err = 0 ∧ okk ts (lstep L t.kind t.text.length) := by
  unfold okk at h
  rw [lover, if_neg hn] at h
  by_cases he : (lstep L t.kind t.text.length).err = 0
  · rw [if_neg (by simp [he])] at h
    exact ⟨he, h⟩
  · rw [if_pos he] at h
    exact absurd h he

/-- What holds behind a term. -/
structure Aft (rest : List Tok) (L L' : LookS) (stk : List Nat) : Prop where
  ok : okk rest L'
  fin : fin rest
  want : L'.want = 4 ∨ (L'.want = 3 ∧ ∀ y ys, rest = y :: ys → y.kind ≠ 40)
  stk : L'.stk = stk
  err : L'.err = 0
  query : L'.query = L.query
  body : L'.body = (if L.want = 0 then false else L.body)

theorem lbegins_err {L : LookS} {kd tn : Nat} (he : L.err = 0) (h : (lbegins L kd tn).err = 0) : kd = 1 ∨ (kd = 2 ∧ L.want = 2) := by
  unfold lbegins at h
  split at h
  · simp at h
  · omega
theorem lbegins_keeps {L : LookS} {kd tn : Nat} (h : (lbegins L kd tn).err = 0) (hk : kd = 1 ∨ (kd = 2 ∧ L.want = 2)) :
    (lbegins L kd tn).want = (if kd = 1 then 3 else 4) ∧ (lbegins L kd tn).stk = (lstart L).stk ∧ (lbegins L kd tn).query = L.query ∧ (lbegins L kd tn).body = (if L.want = 0 then false else L.body) := by
  have hn : ¬ (kd ≠ 1 ∧ (kd ≠ 2 ∨ L.want ≠ 2)) := by omega
  unfold lbegins
  rw [if_neg hn]
  refine ⟨rfl, rfl, ?_, ?_⟩
  · show (lstart L).query = _
    unfold lstart
    split
    · rfl
    · split
      · rfl
      · split <;> rfl
  · show (lstart L).body = _
    unfold lstart
    split
    · rfl
    · split
      · rfl
      · split <;> rfl

/-- Behind a term inside brackets: a comma or a closing bracket. -/
theorem aft_in {y : Tok} {ys : List Tok} {L L' : LookS} {n : Nat} {r : List Nat} (h : Aft (y :: ys) L L' (n :: r)) :
    (y.kind = 44 ∧ okk ys (lfollows L' 44) ∧ fin ys ∧ (lfollows L' 44) = { L' with want := 2 }) ∨ (y.kind = 41 ∧ okk ys (lfollows L' 41) ∧ fin ys ∧ (lfollows L' 41) = { L' with stk := r, want := 4 }) := by
  have hw : ¬ L'.want ≤ 2 ∧ L'.want ≠ 5 ∧ L'.want ≠ 0 := by rcases h.want with hw | ⟨hw, _⟩ <;> omega
  have h4 : ¬ (y.kind = 4 ∧ (L'.want = 5 ∨ L'.want = 0)) := by omega
  obtain ⟨he, ho⟩ := okk_cons h.ok h4
  unfold lstep at he ho
  rw [if_neg hw.1, if_neg hw.2.1] at he ho
  have hst := h.stk
  have h40 : ¬ (y.kind = 40 ∧ L'.want = 3) := by
    rintro ⟨h1, h2⟩
    rcases h.want with hw | ⟨_, hw⟩
    · omega
    · exact hw y ys rfl h1
  have hfin : y.kind ≠ 4 → fin ys := fun hy => by
    rcases h.fin with h | h
    · exact absurd h hy
    · exact h
  by_cases h44 : y.kind = 44
  · left
    rw [h44] at ho
    exact ⟨h44, ho, hfin (by omega), by simp [lfollows, hst]⟩
  · by_cases h41 : y.kind = 41
    · right
      rw [h41] at ho
      exact ⟨h41, ho, hfin (by omega), by simp [lfollows, hst]⟩
    · exfalso
      simp [lfollows, hst, h44, h41] at he
      split at he
      · rename_i hc; exact h40 hc
      · simp at he

def TermOk (n : Nat) : Prop := ∀ (ts : List Tok) (L : LookS) (f : Nat) (names : Names), ts.length ≤ n → ts.length ≤ f → okk ts L → fin ts → L.want ≤ 2 → L.err = 0 → (L.want = 2 → L.stk ≠ []) → (∀ t r, ts = t :: r → t.kind ≠ 4) →
  ∃ r L', pterm f ts names = some r ∧ Aft r.2.1 L L' (lstart L).stk ∧ r.2.1.length < ts.length

theorem args_ok (n f : Nat) (IH : TermOk n) : ∀ (g : Nat) (x : Tok) (xs : List Tok) (L : LookS) (m : Nat) (r : List Nat) (names : Names) (acc : List (List Sym)), xs.length ≤ n → xs.length ≤ f → xs.length + 1 ≤ g → x.kind ≠ 41 →
    okk xs L → fin xs → L.want = 2 → L.stk = m :: r → L.err = 0 →
    ∃ q L', pargs (pterm f) g (x :: xs) names acc = some q ∧ Aft q.2.1 L L' r ∧ q.2.1.length < xs.length := by
  intro g
  induction g with
  | zero => intro x xs L m r names acc h1 h1' h2; omega
  | succ g ih =>
    intro x xs L m r names acc h1 h1' h2 h41 hok hfin hw hst he
    have hx4 : ∀ t r, xs = t :: r → t.kind ≠ 4 := by
      rintro t r rfl h4
      have := (okk_cons hok (by omega)).1
      unfold lstep at this
      rw [if_pos (by omega)] at this
      rcases lbegins_err he this with h | h <;> omega
    obtain ⟨r1, L1, hp, ha, hl⟩ := IH xs L f names h1 (by omega) hok hfin (by omega) he (by rw [hst]; simp) hx4
    have hls : (lstart L).stk = (m + 1) :: r := by simp [lstart, hw, hst]
    rw [hls] at ha
    rw [pargs, if_neg h41, hp]
    simp only
    cases hr : r1.2.1 with
    | nil => rw [hr] at ha; exact ha.fin.elim
    | cons y ys =>
      rw [hr] at ha hl
      simp only [List.length_cons] at hl
      rcases aft_in ha with ⟨hy, ho, hf, hE⟩ | ⟨hy, ho, hf, hE⟩
      · obtain ⟨q, L2, h5, h6, h7⟩ := ih y ys (lfollows L1 44) (m + 1) r r1.2.2 (acc ++ [r1.1]) (by omega) (by omega) (by omega) (by omega) ho hf (by rw [hE]) (by rw [hE]; exact ha.stk) (by rw [hE]; exact ha.err)
        refine ⟨q, L2, h5, ⟨h6.ok, h6.fin, h6.want, h6.stk, h6.err, ?_, ?_⟩, by omega⟩
        · rw [h6.query, hE]; exact ha.query
        · rw [h6.body, hE]
          have := ha.body
          simp [hw] at this ⊢
          exact this
      · refine ⟨(acc ++ [r1.1], ys, r1.2.2), lfollows L1 41, ?_, ⟨ho, hf, Or.inl (by rw [hE]), by rw [hE], by rw [hE]; exact ha.err, by rw [hE]; exact ha.query, by rw [hE]; exact ha.body⟩, by simp; omega⟩
        cases g with
        | zero => omega
        | succ g => rw [pargs, if_pos hy]

theorem term_ok : ∀ n, TermOk n := by
  intro n
  induction n with
  | zero =>
    intro ts L f names h1 h2 hok hfin
    cases ts with
    | nil => exact hfin.elim
    | cons t ts => simp at h1
  | succ n IH =>
    intro ts L f names h1 h2 hok hfin hw he hst hne
    cases ts with
    | nil => exact hfin.elim
    | cons t ts =>
      have h4 := hne t ts rfl
      simp only [List.length_cons] at h1 h2
      cases f with
      | zero => omega
      | succ f =>
        obtain ⟨he1, ho1⟩ := okk_cons hok (by omega)
        unfold lstep at he1 ho1
        rw [if_pos hw] at he1 ho1
        have hk := lbegins_err he he1
        obtain ⟨k1, k2, k3, k4⟩ := lbegins_keeps he1 hk
        have hfin1 : fin ts := by
          rcases hfin with h | h
          · exact absurd h h4
          · exact h
        by_cases hv : t.kind = 2
        · rw [pterm, if_pos hv]
          exact ⟨_, lbegins L t.kind t.text.length, rfl, ⟨ho1, hfin1, Or.inl (by rw [k1, hv]; rfl), k2, he1, k3, k4⟩, by simp⟩
        · have hk1 : t.kind = 1 := by omega
          rw [pterm, if_neg hv]
          cases ts with
          | nil => exact hfin1.elim
          | cons u us =>
            rw [pname]
            simp only [List.length_cons] at h1 h2
            rw [if_pos hk1] at k1
            by_cases hu : u.kind = 40
            · rw [if_neg (by simp [hu])]
              obtain ⟨he2, ho2⟩ := okk_cons ho1 (by omega)
              unfold lstep at he2 ho2
              rw [if_neg (by omega), if_neg (by omega), hu] at he2 ho2
              have hE : lfollows (lbegins L t.kind t.text.length) 40 = { lbegins L t.kind t.text.length with stk := 0 :: (lbegins L t.kind t.text.length).stk, want := 2 } := by
                simp [lfollows, k1]
              have hfin2 : fin us := by
                rcases hfin1 with h | h
                · omega
                · exact h
              obtain ⟨q, L2, h5, h6, h7⟩ := args_ok n f IH (us.length + 1) u us _ 0 (lstart L).stk names [] (by omega) (by omega) (by omega) (by omega) ho2 hfin2 (by rw [hE]) (by rw [hE, ← k2]) (by rw [hE]; exact he1)
              rw [h5]
              refine ⟨_, L2, rfl, ⟨h6.ok, h6.fin, h6.want, h6.stk, h6.err, ?_, ?_⟩, by simp; omega⟩
              · rw [h6.query, hE]; exact k3
              · rw [h6.body, hE]
                simpa using k4
            · rw [if_pos hu]
              refine ⟨_, lbegins L t.kind t.text.length, rfl, ⟨ho1, hfin1, Or.inr ⟨k1, ?_⟩, k2, he1, k3, k4⟩, by simp⟩
              intro y ys hy
              simp at hy
              rw [← hy.1]; exact hu

end Go.Proofs.YtlmjilpjmgjjcaaGreatDoor

namespace Go.Proofs.YtlmjilpjmgjjcaaGreatDoor
open Go.RowKit
set_option linter.unusedSimpArgs false
set_option linter.unusedVariables false

theorem aft_out {y : Tok} {ys : List Tok} {L L' : LookS} (h : Aft (y :: ys) L L' []) :
    (y.kind = 44 ∧ L'.body = true ∧ okk ys (lfollows L' 44) ∧ fin ys ∧ (lfollows L' 44) = { L' with want := 1 }) ∨
    (y.kind = 3 ∧ L'.body = false ∧ okk ys (lfollows L' 3) ∧ fin ys ∧ (lfollows L' 3) = { L' with body := true, goals := 0, want := 1 }) ∨
    (y.kind = 46 ∧ okk ys (lfollows L' 46) ∧ fin ys ∧ (lfollows L' 46) = { L' with want := if L'.query then 5 else 0 }) := by
  have hw : ¬ L'.want ≤ 2 ∧ L'.want ≠ 5 ∧ L'.want ≠ 0 := by rcases h.want with hw | ⟨hw, _⟩ <;> omega
  have h4 : ¬ (y.kind = 4 ∧ (L'.want = 5 ∨ L'.want = 0)) := by omega
  obtain ⟨he, ho⟩ := okk_cons h.ok h4
  unfold lstep at he ho
  rw [if_neg hw.1, if_neg hw.2.1] at he ho
  have hst := h.stk
  have h40 : ¬ (y.kind = 40 ∧ L'.want = 3) := by
    rintro ⟨h1, h2⟩
    rcases h.want with hw | ⟨_, hw⟩
    · omega
    · exact hw y ys rfl h1
  have hfin : y.kind ≠ 4 → fin ys := fun hy => by
    rcases h.fin with h | h
    · exact absurd h hy
    · exact h
  by_cases h44 : y.kind = 44
  · left
    rw [h44] at ho he
    cases hb : L'.body
    · simp [lfollows, hst, hb] at he
    · exact ⟨h44, rfl, ho, hfin (by omega), by simp [lfollows, hst, hb]⟩
  · by_cases h3 : y.kind = 3
    · right; left
      rw [h3] at ho he
      cases hb : L'.body
      · exact ⟨h3, rfl, ho, hfin (by omega), by simp [lfollows, hst, hb]⟩
      · simp [lfollows, hst, hb] at he
    · by_cases h46 : y.kind = 46
      · right; right
        rw [h46] at ho he
        refine ⟨h46, ho, hfin (by omega), ?_⟩
        cases hq : L'.query <;> simp [lfollows, hst, hq]
      · exfalso
        simp [lfollows, hst, h44, h3, h46] at he
        split at he
        · rename_i hc; exact h40 hc
        · simp at he

theorem not_end {ts : List Tok} {L : LookS} (hok : okk ts L) (hw : L.want = 1) (he : L.err = 0) : ∀ t r, ts = t :: r → t.kind ≠ 4 := by
  rintro t r rfl h4
  have := (okk_cons hok (by omega)).1
  unfold lstep at this
  rw [if_pos (by omega)] at this
  rcases lbegins_err he this with h | h <;> omega

theorem terms_ok : ∀ (g : Nat) (ts : List Tok) (L : LookS) (names : Names) (acc : List (List Sym)), ts.length ≤ g → ts.length ≤ 1000 → okk ts L → fin ts → L.want = 1 → L.stk = [] → L.body = true → L.err = 0 →
    ∃ q L', pterms 1000 g ts names acc = some q ∧ okk q.2.1 L' ∧ fin q.2.1 ∧ L'.want = (if L.query then 5 else 0) ∧ L'.stk = [] ∧ L'.err = 0 ∧ L'.query = L.query ∧ q.2.1.length < ts.length := by
  intro g
  induction g with
  | zero =>
    intro ts L names acc h1 h2 hok hfin
    cases ts with
    | nil => exact hfin.elim
    | cons t ts => simp at h1
  | succ g ih =>
    intro ts L names acc h1 h2 hok hfin hw hst hb he
    obtain ⟨r1, L1, hp, ha, hl⟩ := term_ok ts.length ts L 1000 names (Nat.le_refl _) h2 hok hfin (by omega) he (by omega) (not_end hok hw he)
    have hls : (lstart L).stk = [] := by simp [lstart, hw, hst]
    rw [hls] at ha
    have hb1 : L1.body = true := by rw [ha.body, if_neg (by omega)]; exact hb
    rw [pterms, hp]
    simp only
    cases hr : r1.2.1 with
    | nil => rw [hr] at ha; exact ha.fin.elim
    | cons y ys =>
      rw [hr] at ha hl
      simp only [List.length_cons] at hl
      simp only
      rcases aft_out ha with ⟨hy, _, ho, hf, hE⟩ | ⟨hy, hb2, _⟩ | ⟨hy, ho, hf, hE⟩
      · rw [if_neg (by omega)]
        obtain ⟨q, L2, h5, h6, h7, h8, h9, h10, h11, h12⟩ := ih ys (lfollows L1 44) r1.2.2 (acc ++ [r1.1]) (by omega) (by omega) ho hf (by rw [hE]) (by rw [hE]; exact ha.stk) (by rw [hE]; exact hb1) (by rw [hE]; exact ha.err)
        have hq : (lfollows L1 44).query = L.query := by rw [hE]; exact ha.query
        rw [hq] at h8 h11
        exact ⟨q, L2, h5, h6, h7, h8, h9, h10, h11, by omega⟩
      · rw [hb1] at hb2; cases hb2
      · rw [if_pos hy]
        exact ⟨_, _, rfl, ho, hf, by rw [hE, ha.query], by rw [hE]; exact ha.stk, by rw [hE]; exact ha.err, by rw [hE]; exact ha.query, by simp; omega⟩

theorem clause_ok (ts : List Tok) (L : LookS) (h2 : ts.length ≤ 1000) (hok : okk ts L) (hfin : fin ts) (hw : L.want = 0) (hst : L.stk = []) (he : L.err = 0) (hq : L.query = false) (hne : ∀ t r, ts = t :: r → t.kind ≠ 4) :
    ∃ c L', pclause ts = some c ∧ okk c.2 L' ∧ fin c.2 ∧ L'.want = 0 ∧ L'.stk = [] ∧ L'.err = 0 ∧ L'.query = false ∧ c.2.length < ts.length := by
  obtain ⟨r1, L1, hp, ha, hl⟩ := term_ok ts.length ts L 1000 [] (Nat.le_refl _) h2 hok hfin (by omega) he (by omega) hne
  have hls : (lstart L).stk = [] := by simp [lstart, hw, hst]
  rw [hls] at ha
  have hb1 : L1.body = false := by rw [ha.body, if_pos hw]
  rw [pclause, hp]
  simp only
  cases hr : r1.2.1 with
  | nil => rw [hr] at ha; exact ha.fin.elim
  | cons y ys =>
    rw [hr] at ha hl
    simp only [List.length_cons] at hl
    simp only
    rcases aft_out ha with ⟨hy, hb2, _⟩ | ⟨hy, _, ho, hf, hE⟩ | ⟨hy, ho, hf, hE⟩
    · rw [hb1] at hb2; cases hb2
    · rw [if_pos hy]
      obtain ⟨q, L2, h5, h6, h7, h8, h9, h10, h11, h12⟩ := terms_ok 1000 ys (lfollows L1 3) r1.2.2 [] (by omega) (by omega) ho hf (by rw [hE]) (by rw [hE]; exact ha.stk) (by rw [hE]) (by rw [hE]; exact ha.err)
      have hq2 : (lfollows L1 3).query = false := by rw [hE]; exact ha.query.trans hq
      rw [hq2] at h8 h11
      rw [h5]
      exact ⟨_, L2, rfl, h6, h7, by simpa using h8, h9, h10, h11, by simp; omega⟩
    · rw [if_neg (by omega)]
      have hq2 : L1.query = false := ha.query.trans hq
      exact ⟨_, _, rfl, ho, hf, by rw [hE, hq2]; rfl, by rw [hE]; exact ha.stk, by rw [hE]; exact ha.err, by rw [hE]; exact hq2, by simp; omega⟩

theorem prog_ok : ∀ (g : Nat) (ts : List Tok) (L : LookS) (acc : List Cls), ts.length ≤ g → ts.length ≤ 1000 → okk ts L → fin ts → L.want = 0 → L.stk = [] → L.err = 0 → L.query = false → ∃ cs, pprog g ts acc = some cs := by
  intro g
  induction g with
  | zero =>
    intro ts L acc h1 h2 hok hfin
    cases ts with
    | nil => exact hfin.elim
    | cons t ts => simp at h1
  | succ g ih =>
    intro ts L acc h1 h2 hok hfin hw hst he hq
    cases ts with
    | nil => exact hfin.elim
    | cons t ts =>
      rw [pprog]
      by_cases h4 : t.kind = 4
      · rw [if_pos h4]; exact ⟨_, rfl⟩
      · rw [if_neg h4]
        obtain ⟨c, L1, hp, h5, h6, h7, h8, h9, h10, h11⟩ := clause_ok (t :: ts) L h2 hok hfin hw hst he hq (fun t' r' e => by simp at e; rw [← e.1]; exact h4)
        rw [hp]
        simp only
        simp only [List.length_cons] at h1 h2 h11
        exact ih c.2 L1 _ (by omega) (by omega) h5 h6 h7 h8 h9 h10

theorem fin_end (l : List Tok) (p : Nat) : fin (l ++ [⟨4, [], p⟩]) := by
  induction l with
  | nil => exact Or.inl rfl
  | cons t l ih => exact Or.inr ih

theorem pclause_syms {M : Nat} (ts : List Tok) (c : Cls × List Tok) (hM : ∀ t ∈ ts, t.text.length ≤ M) (h : pclause ts = some c) :
    csize c.1 + c.2.length ≤ ts.length ∧ 1 ≤ csize c.1 + 0 * M ∧ (∀ s ∈ c.1.head, s.name.length ≤ M) ∧ (∀ s ∈ c.1.body.flatten, s.name.length ≤ M) ∧ ∀ t ∈ c.2, t.text.length ≤ M := by
  rw [pclause] at h
  cases hp : pterm 1000 ts [] with
  | none => rw [hp] at h; simp at h
  | some r =>
    rw [hp] at h
    simp only at h
    obtain ⟨h1, h2, h3⟩ := pterm_syms 1000 ts [] r hM hp
    have hpos : 1 ≤ r.1.length := by
      cases hts : ts with
      | nil => rw [hts] at hp; simp [pterm] at hp
      | cons t tr =>
        rw [hts, pterm] at hp
        split at hp
        · simp at hp; rw [← hp]; simp
        · cases tr with
          | nil => simp [pname] at hp
          | cons u us =>
            rw [pname] at hp
            split at hp
            · simp at hp; rw [← hp]; simp
            · rw [Option.map_eq_some_iff] at hp
              obtain ⟨q, _, rfl⟩ := hp
              simp
    cases hr : r.2.1 with
    | nil => rw [hr] at h; simp at h
    | cons y ys =>
      rw [hr] at h h1 h3
      simp only [List.length_cons] at h h1
      split at h
      · rw [Option.map_eq_some_iff] at h
        obtain ⟨q, hq, rfl⟩ := h
        obtain ⟨g1, g2, g3⟩ := pterms_syms 1000 ys r.2.2 [] q (fun t ht => h3 t (by simp [ht])) (by simp) hq
        simp only [List.flatten_nil, List.length_nil] at g1
        refine ⟨?_, ?_, h2, g2, g3⟩
        · unfold csize; simp only; omega
        · unfold csize; simp only; omega
      · simp at h
        subst h
        refine ⟨?_, ?_, h2, by simp, fun t ht => h3 t (by simp [ht])⟩
        · unfold csize; simp; omega
        · unfold csize; simp; omega

theorem pprog_syms {M : Nat} : ∀ (g : Nat) (ts : List Tok) (acc cs : List Cls), (∀ t ∈ ts, t.text.length ≤ M) → (∀ c ∈ acc, (∀ s ∈ c.head, s.name.length ≤ M) ∧ ∀ s ∈ c.body.flatten, s.name.length ≤ M) → pprog g ts acc = some cs →
    (cs.map csize).sum ≤ (acc.map csize).sum + ts.length ∧ cs.length + (acc.map csize).sum ≤ acc.length + (cs.map csize).sum ∧ ∀ c ∈ cs, (∀ s ∈ c.head, s.name.length ≤ M) ∧ ∀ s ∈ c.body.flatten, s.name.length ≤ M := by
  intro g
  induction g with
  | zero => intro ts acc cs _ _ h; simp [pprog] at h
  | succ g ih =>
    intro ts acc cs hM hA h
    cases ts with
    | nil => simp [pprog] at h
    | cons t ts =>
      rw [pprog] at h
      split at h
      · simp at h; subst h
        exact ⟨by omega, by omega, hA⟩
      · split at h
        · simp at h
        · rename_i c hc
          obtain ⟨h1, h1', h2, h3, h4⟩ := pclause_syms (t :: ts) c hM hc
          obtain ⟨h5, h6, h7⟩ := ih c.2 (acc ++ [c.1]) cs h4 (fun d hd => by
            simp at hd
            rcases hd with hd | rfl
            · exact hA d hd
            · exact ⟨h2, h3⟩) h
          simp only [List.map_append, List.map_cons, List.map_nil, List.sum_append, List.sum_cons, List.sum_nil, List.length_append, List.length_cons, List.length_nil] at h5 h6
          simp only [List.length_cons] at h1 ⊢
          exact ⟨by omega, by omega, h7⟩

/-- What the reference's 'Program' answers: the text, the error, the place. -/
def refProgram (s : ByteArray) : List UInt8 × Nat × Nat :=
  if 800 < s.size then ([], 1, 0)
  else if (lover (alltoks s) (lstart0 false)).1 ≠ 0 then ([], (lover (alltoks s) (lstart0 false)).1, (lover (alltoks s) (lstart0 false)).2)
  else match pprog 1000 (alltoks s) [] with
    | none => ([], 0, 0)
    | some cs => (cs.flatMap wclause, 0, 0)

theorem query_reads (s : ByteArray) (hs : s.size ≤ 120) (h : (lover (alltoks s) (lstart0 true)).1 = 0) : ∃ q, pterms 1000 1000 (alltoks s) [] [] = some q := by
  have hl := alltoks_len s
  obtain ⟨q, L', h1, _⟩ := terms_ok 1000 (alltoks s) (lstart0 true) [] [] (by omega) (by omega) h (fin_end _ _) rfl rfl rfl rfl
  exact ⟨q, h1⟩
theorem program_reads (s : ByteArray) (hs : s.size ≤ 800) (h : (lover (alltoks s) (lstart0 false)).1 = 0) : ∃ cs, pprog 1000 (alltoks s) [] = some cs := by
  have hl := alltoks_len s
  exact prog_ok 1000 (alltoks s) (lstart0 false) [] (by omega) (by omega) h (fin_end _ _) rfl rfl rfl rfl

theorem query_refs (s : ByteArray) (w : World) (hm : s.size ≤ maxLen) :
    Calls Tryz.prog 86 #[.string s] w fun e w' => e = .returned (.tuple #[.string ⟨(refQuery s).1.toArray⟩, .int .i64 (refQuery s).2.1, .int .i64 (refQuery s).2.2]) ∧ Below w.heap.size w w' :=
  query_ref s w hm (query_reads s)

set_option maxRecDepth 10000 in
set_option maxHeartbeats 1000000 in
theorem program_refs (s : ByteArray) (w : World) (hm : s.size ≤ maxLen) :
    Calls Tryz.prog 84 #[.string s] w fun e w' => e = .returned (.tuple #[.string ⟨(refProgram s).1.toArray⟩, .int .i64 (refProgram s).2.1, .int .i64 (refProgram s).2.2]) ∧ Below w.heap.size w w' := by
  by_cases hs : 800 < s.size
  · have hr : refProgram s = ([], 1, 0) := by rw [refProgram, if_pos hs]
    rw [hr]
    clear hr
    go_enter Tryz.func84, Tryz.ntmps84
    go_wp2_with fail
    refine (readProgram_long s _ hm hs).mono ?_
    rintro e w1 ⟨rfl, hb⟩
    have Hb := hide' hb
    clear hb
    go_wp2
    go_ret3
    exact ⟨rfl, Hb.out⟩
  · by_cases he : (lover (alltoks s) (lstart0 false)).1 ≠ 0
    · have hr : refProgram s = ([], (lover (alltoks s) (lstart0 false)).1, (lover (alltoks s) (lstart0 false)).2) := by rw [refProgram, if_neg hs, if_pos he]
      rw [hr]
      clear hr
      have he' : (((lover (alltoks s) (lstart0 false)).1 : Int) != 0) = true := by rw [bne_iff_ne]; omega
      go_enter Tryz.func84, Tryz.ntmps84
      go_wp2_with fail
      refine (readProgram_err s _ (by omega) he).mono ?_
      rintro e w1 ⟨rfl, hb⟩
      have Hb := hide' hb
      clear hb
      go_wp2
      go_ret3
      exact ⟨rfl, Hb.out⟩
    · have he0 : (lover (alltoks s) (lstart0 false)).1 = 0 := by omega
      obtain ⟨cs, hq⟩ := program_reads s (by omega) he0
      have hr : refProgram s = (cs.flatMap wclause, 0, 0) := by rw [refProgram, if_neg hs, if_neg he, hq]
      rw [hr]
      have hl := alltoks_len s
      obtain ⟨y1, y2, y3⟩ := pprog_syms (M := 4096) 1000 (alltoks s) [] cs (fun t ht => by have := alltoks_text s t ht; omega) (by simp) hq
      simp only [List.map_nil, List.sum_nil, List.length_nil] at y1 y2
      exact program_text s w cs (by omega) he0 hq (by omega) (by omega) y3

end Go.Proofs.YtlmjilpjmgjjcaaGreatDoor

namespace Go.Proofs.YtlmjilpjmgjjcaaGreatDoor
open Go.RowKit
set_option linter.unusedSimpArgs false
set_option linter.unusedVariables false

/-- The steps of a script, as they lie in memory. -/
def StepsAt (w : World) (sv : Value) : Prop := ∃ a len cap, sv = .slice a len cap ∧ len ≤ maxLen ∧ ∀ k, k < len → ∃ (b off : Nat) (kd n m : Int) (p q x : ByteArray), a = some ⟨b, off, none⟩ ∧ b < w.heap.size ∧
  w.cell? ⟨b, off + k * 6, none⟩ = some (.int .i64 kd) ∧ w.cell? ⟨b, off + k * 6 + 1, none⟩ = some (.int .i64 n) ∧ w.cell? ⟨b, off + k * 6 + 2, none⟩ = some (.int .i64 m) ∧
  w.cell? ⟨b, off + k * 6 + 3, none⟩ = some (.string p) ∧ w.cell? ⟨b, off + k * 6 + 4, none⟩ = some (.string q) ∧ w.cell? ⟨b, off + k * 6 + 5, none⟩ = some (.string x) ∧ p.size ≤ maxLen ∧ q.size ≤ maxLen ∧ x.size ≤ maxLen

set_option maxHeartbeats 400000 in
theorem looks_nil (w : World) (b : Nat) (h : w.heap[b]? = some (.cells #[.slice none 0 0, .slice none 0 0, .slice none 0 0] 76 (0, 0))) :
    Calls Tryz.prog 39 #[.pointer (some ⟨b, 0, none⟩)] w fun e w' => e = .returned (.bool true) ∧ w' = w := by
  have c1 : w.cell? ⟨b, 1, none⟩ = some (.slice none 0 0) := cell_of_block h 1 _ rfl
  clear h
  go_enter Tryz.func39, Tryz.ntmps39
  go_wp2
  go_loop [3] (fun i => i = .int .i64 0) (fun i => 0)
  case atStart => rfl
  case round =>
    subst hrel
    go_wp2
    go_ret
    exact ⟨rfl, rfl⟩

/-- The program's own answer is the document's. -/
def ProgramCode : Prop := ∀ (s : ByteArray) (w : World), s.size ≤ maxLen → Calls Tryz.prog 83 #[.string s] w fun e w' => e = .returned (.tuple #[.string ⟨(refProgram s).1.toArray⟩, .int .i64 (refProgram s).2.1, .int .i64 (refProgram s).2.2]) ∧ Below w.heap.size w w'

set_option maxRecDepth 10000 in
set_option maxHeartbeats 1000000 in
theorem texts_program (HC0 : ProgramCode) (n m : Int) (p q x : ByteArray) (w : World) (hs : p.size ≤ maxLen) :
    Calls Tryz.prog 61 #[.agg #[.int .i64 1, .int .i64 n, .int .i64 m, .string p, .string q, .string x]] w fun e w' => e = .returned (.bool true) ∧ Below w.heap.size w w' := by
  have HC := hide' HC0
  have HR := hide' (program_refs p)
  clear HC0
  go_enter Tryz.func61, Tryz.ntmps61
  go_wp2_with fail
  refine (HC.out p _ hs).mono ?_
  rintro e w1 ⟨rfl, hb1⟩
  have hsz1 : w.heap.size + 1 ≤ w1.heap.size := by have := hb1.size; simpa using this
  have hb1' : Below w.heap.size w w1 := ((Below.refl _ w).alloc (Nat.le_refl _) _).trans (hb1.mono (by simp))
  have hc : w1.cell? ⟨w.heap.size, 3, none⟩ = some (.string p) := (hb1.cell (p := ⟨w.heap.size, 3, none⟩) (by simp)).trans (cell_alloc_new w _ _ 3 _ rfl)
  have Hb1 := hide' hb1'
  clear hb1 hb1'
  go_wp2_with fail
  refine (HR.out _ hs).mono ?_
  rintro e w2 ⟨rfl, hb2⟩
  have Hb2 := hide' hb2
  clear hb2
  go_wp2
  go_ret
  exact ⟨rfl, Hb1.out.trans (Hb2.out.mono Hb1.out.size)⟩

set_option maxRecDepth 10000 in
set_option maxHeartbeats 1000000 in
theorem step_program (HC0 : ProgramCode) (n m : Int) (p q x : ByteArray) (b : Value) (w : World) (hs : p.size ≤ maxLen) :
    Calls Tryz.prog 38 #[b, .agg #[.int .i64 1, .int .i64 n, .int .i64 m, .string p, .string q, .string x]] w fun e w' => e = .returned (.bool true) ∧ Below w.heap.size w w' := by
  have HT := hide' (texts_program HC0 n m p q x)
  clear HC0
  go_enter Tryz.func38, Tryz.ntmps38
  go_wp2_with fail
  refine (HT.out _ hs).mono ?_
  rintro e w1 ⟨rfl, hb1⟩
  have Hb1 := hide' hb1
  clear hb1
  go_wp2
  go_ret
  exact ⟨rfl, ((Below.refl _ w).alloc (Nat.le_refl _) _).trans (Hb1.out.mono (by simp))⟩

set_option maxRecDepth 10000 in
set_option maxHeartbeats 1000000 in
theorem upTo_program (HC0 : ProgramCode) (sv : Value) (w : World) (hst : StepsAt w sv) :
    Calls Tryz.prog 13 #[sv, .int .i64 1, .int .i64 1] w fun e w' => e = .returned (.int .i64 (-1)) ∧ Below w.heap.size w w' := by
  obtain ⟨a, len, cap, rfl, hlen, hcells⟩ := hst
  unfold maxLen at hlen
  have HS := hide' (step_program HC0)
  have HL := hide' looks_nil
  have Hcells := hide' hcells
  clear HC0 hcells
  go_enter Tryz.func13, Tryz.ntmps13
  go_wp2
  go_loopw [8] (fun i wr => ∃ k : Nat, k ≤ len ∧ i = .int .i64 k ∧ Below w.heap.size w wr ∧ wr.heap[w.heap.size]? = some (.cells #[.slice none 0 0, .slice none 0 0, .slice none 0 0] 76 (0, 0))) (fun i _ => len - (intOf i).toNat)
  case atStart => exact ⟨0, Nat.zero_le _, rfl, (Below.refl _ _).alloc (Nat.le_refl _) _, heap_alloc_new w _⟩
  case round =>
    obtain ⟨k, hk, rfl, hbel, hblk⟩ := hrel
    have Hblk := hide' hblk
    have hsz := lt_of_block hblk
    clear hblk
    by_cases hlt : k < len
    · obtain ⟨b, off, kd, n, m, p, q, x, rfl, hbl, d0, d1, d2, d3, d4, d5, hp, hq, hx⟩ := Hcells.out k hlt
      have c0 : wr.cell? ⟨b, off + k * 6, none⟩ = some (.int .i64 kd) := (hbel.cell (p := ⟨b, off + k * 6, none⟩) hbl).trans d0
      have c1 : wr.cell? ⟨b, off + k * 6 + 1, none⟩ = some (.int .i64 n) := (hbel.cell (p := ⟨b, off + k * 6 + 1, none⟩) hbl).trans d1
      have c2 : wr.cell? ⟨b, off + k * 6 + 2, none⟩ = some (.int .i64 m) := (hbel.cell (p := ⟨b, off + k * 6 + 2, none⟩) hbl).trans d2
      have c3 : wr.cell? ⟨b, off + k * 6 + 3, none⟩ = some (.string p) := (hbel.cell (p := ⟨b, off + k * 6 + 3, none⟩) hbl).trans d3
      have c4 : wr.cell? ⟨b, off + k * 6 + 4, none⟩ = some (.string q) := (hbel.cell (p := ⟨b, off + k * 6 + 4, none⟩) hbl).trans d4
      have c5 : wr.cell? ⟨b, off + k * 6 + 5, none⟩ = some (.string x) := (hbel.cell (p := ⟨b, off + k * 6 + 5, none⟩) hbl).trans d5
      clear d0 d1 d2 d3 d4 d5
      by_cases hkd : kd = 1
      · subst hkd
        go_wp2_with fail
        refine (HS.out n m p q x _ _ hp).mono ?_
        rintro e w1 ⟨rfl, hb1⟩
        have hs1 : wr.heap.size + 1 ≤ w1.heap.size := by have := hb1.size; simpa using this
        have hbel1 : Below w.heap.size w w1 := (hbel.alloc hbel.size _).trans (hb1.mono (by simp; omega))
        have Hblk1 : Hid (w1.heap[w.heap.size]? = some (.cells #[.slice none 0 0, .slice none 0 0, .slice none 0 0] 76 (0, 0))) := (hb1.block w.heap.size (by simp; omega)).trans (block_alloc Hblk.out _)
        clear hb1 c0 c1 c2 c3 c4 c5
        go_wp2_with fail
        refine (HL.out w1 w.heap.size Hblk1.out).mono ?_
        rintro e w2 ⟨rfl, rfl⟩
        go_wp2
        go_roundw
        case rel => exact ⟨k + 1, by omega, by go_num, hbel1, Hblk1.out⟩
        case measure => simp [intOf]; omega
      · rcases Int.lt_or_gt_of_ne hkd with hlt2 | hlt2
        · have h1 : ¬ (1 : Int) ≤ kd := by omega
          clear hkd hlt2
          go_wp2
          go_roundw
          case rel => exact ⟨k + 1, by omega, by go_num, hbel.alloc hbel.size _, block_alloc Hblk.out _⟩
          case measure => simp [intOf]; omega
        · have h1 : (1 : Int) ≤ kd := by omega
          have h2 : ¬ kd ≤ (1 : Int) := by omega
          clear hkd hlt2
          go_wp2
          go_roundw
          case rel => exact ⟨k + 1, by omega, by go_num, hbel.alloc hbel.size _, block_alloc Hblk.out _⟩
          case measure => simp [intOf]; omega
    · go_wp2
      go_ret
      exact ⟨rfl, hbel⟩

/-- The program's own answer is the document's. -/
def QueryCode : Prop := ∀ (s : ByteArray) (w : World), s.size ≤ maxLen → Calls Tryz.prog 85 #[.string s] w fun e w' => e = .returned (.tuple #[.string ⟨(refQuery s).1.toArray⟩, .int .i64 (refQuery s).2.1, .int .i64 (refQuery s).2.2]) ∧ Below w.heap.size w w'

set_option maxRecDepth 10000 in
set_option maxHeartbeats 1000000 in
theorem texts_query (HC0 : QueryCode) (n m : Int) (p q x : ByteArray) (w : World) (hs : q.size ≤ maxLen) :
    Calls Tryz.prog 61 #[.agg #[.int .i64 2, .int .i64 n, .int .i64 m, .string p, .string q, .string x]] w fun e w' => e = .returned (.bool true) ∧ Below w.heap.size w w' := by
  have HC := hide' HC0
  have HR := hide' (query_refs q)
  clear HC0
  go_enter Tryz.func61, Tryz.ntmps61
  go_wp2_with fail
  refine (HC.out q _ hs).mono ?_
  rintro e w1 ⟨rfl, hb1⟩
  have hsz1 : w.heap.size + 1 ≤ w1.heap.size := by have := hb1.size; simpa using this
  have hb1' : Below w.heap.size w w1 := ((Below.refl _ w).alloc (Nat.le_refl _) _).trans (hb1.mono (by simp))
  have hc : w1.cell? ⟨w.heap.size, 4, none⟩ = some (.string q) := (hb1.cell (p := ⟨w.heap.size, 4, none⟩) (by simp)).trans (cell_alloc_new w _ _ 4 _ rfl)
  have Hb1 := hide' hb1'
  clear hb1 hb1'
  go_wp2_with fail
  refine (HR.out _ hs).mono ?_
  rintro e w2 ⟨rfl, hb2⟩
  have Hb2 := hide' hb2
  clear hb2
  go_wp2
  go_ret
  exact ⟨rfl, Hb1.out.trans (Hb2.out.mono Hb1.out.size)⟩

set_option maxRecDepth 10000 in
set_option maxHeartbeats 1000000 in
theorem step_query (HC0 : QueryCode) (n m : Int) (p q x : ByteArray) (b : Value) (w : World) (hs : q.size ≤ maxLen) :
    Calls Tryz.prog 38 #[b, .agg #[.int .i64 2, .int .i64 n, .int .i64 m, .string p, .string q, .string x]] w fun e w' => e = .returned (.bool true) ∧ Below w.heap.size w w' := by
  have HT := hide' (texts_query HC0 n m p q x)
  clear HC0
  go_enter Tryz.func38, Tryz.ntmps38
  go_wp2_with fail
  refine (HT.out _ hs).mono ?_
  rintro e w1 ⟨rfl, hb1⟩
  have Hb1 := hide' hb1
  clear hb1
  go_wp2
  go_ret
  exact ⟨rfl, ((Below.refl _ w).alloc (Nat.le_refl _) _).trans (Hb1.out.mono (by simp))⟩

set_option maxRecDepth 10000 in
set_option maxHeartbeats 1000000 in
theorem upTo_query (HC0 : QueryCode) (sv : Value) (w : World) (hst : StepsAt w sv) :
    Calls Tryz.prog 13 #[sv, .int .i64 2, .int .i64 2] w fun e w' => e = .returned (.int .i64 (-1)) ∧ Below w.heap.size w w' := by
  obtain ⟨a, len, cap, rfl, hlen, hcells⟩ := hst
  unfold maxLen at hlen
  have HS := hide' (step_query HC0)
  have HL := hide' looks_nil
  have Hcells := hide' hcells
  clear HC0 hcells
  go_enter Tryz.func13, Tryz.ntmps13
  go_wp2
  go_loopw [8] (fun i wr => ∃ k : Nat, k ≤ len ∧ i = .int .i64 k ∧ Below w.heap.size w wr ∧ wr.heap[w.heap.size]? = some (.cells #[.slice none 0 0, .slice none 0 0, .slice none 0 0] 76 (0, 0))) (fun i _ => len - (intOf i).toNat)
  case atStart => exact ⟨0, Nat.zero_le _, rfl, (Below.refl _ _).alloc (Nat.le_refl _) _, heap_alloc_new w _⟩
  case round =>
    obtain ⟨k, hk, rfl, hbel, hblk⟩ := hrel
    have Hblk := hide' hblk
    have hsz := lt_of_block hblk
    clear hblk
    by_cases hlt : k < len
    · obtain ⟨b, off, kd, n, m, p, q, x, rfl, hbl, d0, d1, d2, d3, d4, d5, hp, hq, hx⟩ := Hcells.out k hlt
      have c0 : wr.cell? ⟨b, off + k * 6, none⟩ = some (.int .i64 kd) := (hbel.cell (p := ⟨b, off + k * 6, none⟩) hbl).trans d0
      have c1 : wr.cell? ⟨b, off + k * 6 + 1, none⟩ = some (.int .i64 n) := (hbel.cell (p := ⟨b, off + k * 6 + 1, none⟩) hbl).trans d1
      have c2 : wr.cell? ⟨b, off + k * 6 + 2, none⟩ = some (.int .i64 m) := (hbel.cell (p := ⟨b, off + k * 6 + 2, none⟩) hbl).trans d2
      have c3 : wr.cell? ⟨b, off + k * 6 + 3, none⟩ = some (.string p) := (hbel.cell (p := ⟨b, off + k * 6 + 3, none⟩) hbl).trans d3
      have c4 : wr.cell? ⟨b, off + k * 6 + 4, none⟩ = some (.string q) := (hbel.cell (p := ⟨b, off + k * 6 + 4, none⟩) hbl).trans d4
      have c5 : wr.cell? ⟨b, off + k * 6 + 5, none⟩ = some (.string x) := (hbel.cell (p := ⟨b, off + k * 6 + 5, none⟩) hbl).trans d5
      clear d0 d1 d2 d3 d4 d5
      by_cases hkd : kd = 2
      · subst hkd
        go_wp2_with fail
        refine (HS.out n m p q x _ _ hq).mono ?_
        rintro e w1 ⟨rfl, hb1⟩
        have hs1 : wr.heap.size + 1 ≤ w1.heap.size := by have := hb1.size; simpa using this
        have hbel1 : Below w.heap.size w w1 := (hbel.alloc hbel.size _).trans (hb1.mono (by simp; omega))
        have Hblk1 : Hid (w1.heap[w.heap.size]? = some (.cells #[.slice none 0 0, .slice none 0 0, .slice none 0 0] 76 (0, 0))) := (hb1.block w.heap.size (by simp; omega)).trans (block_alloc Hblk.out _)
        clear hb1 c0 c1 c2 c3 c4 c5
        go_wp2_with fail
        refine (HL.out w1 w.heap.size Hblk1.out).mono ?_
        rintro e w2 ⟨rfl, rfl⟩
        go_wp2
        go_roundw
        case rel => exact ⟨k + 1, by omega, by go_num, hbel1, Hblk1.out⟩
        case measure => simp [intOf]; omega
      · rcases Int.lt_or_gt_of_ne hkd with hlt2 | hlt2
        · have h1 : ¬ (2 : Int) ≤ kd := by omega
          clear hkd hlt2
          go_wp2
          go_roundw
          case rel => exact ⟨k + 1, by omega, by go_num, hbel.alloc hbel.size _, block_alloc Hblk.out _⟩
          case measure => simp [intOf]; omega
        · have h1 : (2 : Int) ≤ kd := by omega
          have h2 : ¬ kd ≤ (2 : Int) := by omega
          clear hkd hlt2
          go_wp2
          go_roundw
          case rel => exact ⟨k + 1, by omega, by go_num, hbel.alloc hbel.size _, block_alloc Hblk.out _⟩
          case measure => simp [intOf]; omega
    · go_wp2
      go_ret
      exact ⟨rfl, hbel⟩

set_option maxHeartbeats 1000000 in
theorem programs_walk (HC0 : ProgramCode) (sv : Value) (w : World) (hst : StepsAt w sv) :
    Calls Tryz.prog 3 #[sv] w fun e w' => e = .returned (.bool true) ∧ Below w.heap.size w w' := by
  have HU := hide' (upTo_program HC0 sv w hst)
  clear HC0 hst
  go_enter Tryz.func3, Tryz.ntmps3
  go_wp2_with fail
  refine HU.out.mono ?_
  rintro e w1 ⟨rfl, hb1⟩
  have Hb1 := hide' hb1
  clear hb1
  go_wp2
  go_ret
  exact ⟨rfl, Hb1.out⟩

set_option maxHeartbeats 1000000 in
theorem queries_walk (HC0 : QueryCode) (sv : Value) (w : World) (hst : StepsAt w sv) :
    Calls Tryz.prog 4 #[sv] w fun e w' => e = .returned (.bool true) ∧ Below w.heap.size w w' := by
  have HU := hide' (upTo_query HC0 sv w hst)
  clear HC0 hst
  go_enter Tryz.func4, Tryz.ntmps4
  go_wp2_with fail
  refine HU.out.mono ?_
  rintro e w1 ⟨rfl, hb1⟩
  have Hb1 := hide' hb1
  clear hb1
  go_wp2
  go_ret
  exact ⟨rfl, Hb1.out⟩

end Go.Proofs.YtlmjilpjmgjjcaaGreatDoor

namespace Go.Proofs.YtlmjilpjmgjjcaaGreatDoor
open Go.ChangeShapes Go.WideShapes Go.ChangeAt Go.WideMaps Go.WideElems Go.RowKit
set_option linter.unusedSimpArgs false
set_option linter.unusedVariables false

theorem own : ownKnob Tryz.prog.godebug = none := by kernel_rfl
theorem laidOut : laidOutB Tryz.prog = true := by kernel_rfl
theorem cellsStep : Tryz.prog.cellsOf 78 = 6 := by kernel_rfl
theorem cellsInt : Tryz.prog.cellsOf 3 = 1 := by kernel_rfl
theorem cellsStr : Tryz.prog.cellsOf 9 = 1 := by kernel_rfl

theorem cell_plain {W : World} {a : Addr} {j : Nat} {v : Value} (h : W.cell? (a.add j) = some v) (hs : a.spot = none) : W.cell? ⟨a.block, a.off + j, none⟩ = some v := by
  have e : a.add j = ⟨a.block, a.off + j, none⟩ := by
    unfold Addr.add
    obtain ⟨b, o, s⟩ := a
    simp only at hs
    subst hs
    split
    · rename_i h0; subst h0; rfl
    · rfl
  rwa [e] at h
theorem spot_none {W : World} {a : Addr} {v : Value} (h : W.cell? a = some v) : a.spot = none := by
  unfold World.cell? at h
  split at h
  · split at h
    · cases h
    · rename_i h1; cases hs : a.spot with
      | none => rfl
      | some _ => rw [hs] at h1; simp at h1
  · cases h
theorem step_str {H : Type} {enc : TypeId × Value → H} {W : World} {base n' : Nat} {spare : Nat → Bool} {held : Bool} {a : Addr} {cs : List Value} {x : DataW H × List MemPlace} {i : Nat} (hcells : ∀ i, i < 6 → W.cell? (a.add i) = cs[i]?) (hlen : cs.length = 6) (hi : i < 6)
    (h : DataW.trod enc Tryz.prog W base spare held n' 9 ((cs.drop i).take (Tryz.prog.cellsOf 9)) = some x) : ∃ s : ByteArray, W.cell? (a.add i) = some (.string s) ∧ s.size ≤ maxLen := by
  obtain ⟨s, h1, _, h3⟩ := DataW.trod_string Tryz.underlying9 h
  rw [cellsStr] at h1
  refine ⟨s, ?_, h3⟩
  rw [hcells i hi]
  have := congrArg (fun l : List Value => l[0]?) h1
  simpa using this
theorem step_int {H : Type} {enc : TypeId × Value → H} {W : World} {base n' : Nat} {spare : Nat → Bool} {held : Bool} {a : Addr} {cs : List Value} {x : DataW H × List MemPlace} {i : Nat} (hcells : ∀ i, i < 6 → W.cell? (a.add i) = cs[i]?) (hlen : cs.length = 6) (hi : i < 6)
    (h : DataW.trod enc Tryz.prog W base spare held n' 3 ((cs.drop i).take (Tryz.prog.cellsOf 3)) = some x) : ∃ k : Int, W.cell? (a.add i) = some (.int .i64 k) := by
  obtain ⟨s, h1, _, h3⟩ := DataW.trod_int Tryz.underlying3 h
  rw [cellsInt] at h1
  refine ⟨s, ?_⟩
  rw [hcells i hi]
  have := congrArg (fun l : List Value => l[0]?) h1
  simpa using this

set_option maxRecDepth 100000 in
theorem steps_of_script {H : Type} {enc : TypeId × Value → H} {W : World} {a0 : Option Addr} {len cap : Nat} {d : DataW H} {ps : List MemPlace}
    (h : DataW.Trod enc Tryz.prog W 0 (fun _ => true) true 22 (.slice a0 len cap) d ps) : StepsAt W (.slice a0 len cap) := by
  obtain ⟨fuel, hf⟩ := h
  rcases Deep.open_slice Tryz.underlying22 hf with ⟨hcs, _⟩ | ⟨a, l, c, m, n, D, Pl, hcs, _, hl, hm, hmm, _, hall⟩
  · simp [Value.cells] at hcs
    obtain ⟨rfl, rfl, rfl⟩ := hcs
    exact ⟨none, 0, 0, rfl, by decide, fun k hk => absurd hk (by omega)⟩
  · simp [Value.cells] at hcs
    obtain ⟨rfl, rfl, rfl⟩ := hcs
    refine ⟨some a, len, cap, rfl, Nat.le_trans hl hm, fun k hk => ?_⟩
    obtain ⟨cs, hcells, htrod⟩ := hall k (by rw [hmm]; simp; omega)
    rw [cellsStep] at hcells
    obtain ⟨hb, hlen, hcell⟩ := World.cells?_some hcells
    obtain ⟨xs, n', _, _, hlen2, hxl, hfld⟩ := DataW.trod_struct Tryz.underlying78 htrod
    have hx : ∀ i, i < 6 → ∃ x, xs[i]? = some x := fun i hi => ⟨_, List.getElem?_eq_getElem (by rw [hxl]; exact hi)⟩
    obtain ⟨x0, e0⟩ := hx 0 (by omega)
    obtain ⟨x1, e1⟩ := hx 1 (by omega)
    obtain ⟨x2, e2⟩ := hx 2 (by omega)
    obtain ⟨x3, e3⟩ := hx 3 (by omega)
    obtain ⟨x4, e4⟩ := hx 4 (by omega)
    obtain ⟨x5, e5⟩ := hx 5 (by omega)
    obtain ⟨k0, q0⟩ := step_int hcell hlen (i := 0) (by omega) ((hfld 0 _ rfl).trans e0)
    obtain ⟨k1, q1⟩ := step_int hcell hlen (i := 1) (by omega) ((hfld 1 _ rfl).trans e1)
    obtain ⟨k2, q2⟩ := step_int hcell hlen (i := 2) (by omega) ((hfld 2 _ rfl).trans e2)
    obtain ⟨s3, q3, z3⟩ := step_str hcell hlen (i := 3) (by omega) ((hfld 3 _ rfl).trans e3)
    obtain ⟨s4, q4, z4⟩ := step_str hcell hlen (i := 4) (by omega) ((hfld 4 _ rfl).trans e4)
    obtain ⟨s5, q5, z5⟩ := step_str hcell hlen (i := 5) (by omega) ((hfld 5 _ rfl).trans e5)
    have hblk : a.block < W.heap.size := by
      have := World.block_lt_of_cell? W _ q1
      rw [Deep.add_add] at this
      simpa [Addr.add] using this
    have hsp : a.spot = none := by
      obtain ⟨cs', hcells', _⟩ := hall 0 (by rw [hmm]; simp; omega)
      rw [cellsStep] at hcells'
      obtain ⟨_, hlen', hcell'⟩ := World.cells?_some hcells'
      have h1 := hcell' 0 (by omega)
      rw [List.getElem?_eq_getElem (by omega)] at h1
      have h2 := spot_none h1
      simpa [Addr.add] using h2
    simp only [Deep.add_add] at q0 q1 q2 q3 q4 q5
    obtain ⟨b, o, sp⟩ := a
    simp only at hsp
    subst hsp
    refine ⟨b, o, k0, k1, k2, s3, s4, s5, rfl, hblk, ?_, ?_, ?_, ?_, ?_, ?_, z3, z4, z5⟩
    · simpa using cell_plain q0 rfl
    · simpa [Nat.add_assoc] using cell_plain q1 rfl
    · simpa [Nat.add_assoc] using cell_plain q2 rfl
    · simpa [Nat.add_assoc] using cell_plain q3 rfl
    · simpa [Nat.add_assoc] using cell_plain q4 rfl
    · simpa [Nat.add_assoc] using cell_plain q5 rfl

end Go.Proofs.YtlmjilpjmgjjcaaGreatDoor

/-
  PROVED HERE: the given cards of the laws 'Programs' and 'Queries', wherever the program's own Program and Query answer as the document does (a condition of each theorem here, shown elsewhere).
-/
namespace Go.Proofs.YtlmjilpjmgjjcaaGreatDoor
open Go.ChangeShapes Go.WideShapes Go.ChangeAt Go.WideMaps Go.WideElems Go.RowKit
set_option linter.unusedSimpArgs false
set_option linter.unusedVariables false

theorem programs_door (os : Os) (args : Array Value) : laidMetH Tryz.prog Rows.programsRow.laid ((World.doorLaid Tryz.prog 400 os).forCall (fun _ _ => 0) ⟨#[], args, []⟩).memory :=
  laidMetH_of_parts3 (fuel := 8) (laidMet_of_run' 8 (by kernel_rfl) (by kernel_rfl)) (by kernel_rfl) (by kernel_rfl)
theorem queries_door (os : Os) (args : Array Value) : laidMetH Tryz.prog Rows.queriesRow.laid ((World.doorLaid Tryz.prog 400 os).forCall (fun _ _ => 0) ⟨#[], args, []⟩).memory :=
  laidMetH_of_parts3 (fuel := 8) (laidMet_of_run' 8 (by kernel_rfl) (by kernel_rfl)) (by kernel_rfl) (by kernel_rfl)
set_option maxRecDepth 100000 in
theorem programs_lifted (HC : ProgramCode) (os : Os) (started : os.Started) (H : Type) (enc : TypeId × Value → H) :
    ReturnsInHanded {} Tryz.checked os 3 .any (fun w args => (Rows.programsSpec.pre enc Tryz.prog Tryz.f3 [] false w args ∧ laidMetH Tryz.prog Rows.programsRow.laid w) ∧ sizedMet enc Tryz.prog Tryz.f3 (OpenSpec.ofChange Rows.programsSpec) false w args)
      (Rows.programsSpec.post enc Tryz.prog Tryz.f3 false true false false) := by
  refine returnsInHanded_of_change_and (C := Tryz.checked) (X := fun w _ => laidMetH Tryz.prog Rows.programsRow.laid w) (fun _ _ _ hh h => h.of_heap hh) own started (by kernel_rfl) Tryz.func3
    (ChangeSpec.witness_shaped (enc := enc) (C := Tryz.checked) (os := os) (X := fun w _ => laidMetH Tryz.prog Rows.programsRow.laid w) false (World.doorLaid Tryz.prog 400 os) #[.slice none 0 0] 8 rfl (World.shaped_of_RefB (by kernel_rfl) (by kernel_rfl)) (by kernel_rfl) (by kernel_rfl) (by kernel_rfl) (programs_door os _)) ?_
  intro W base args ds gs before hval0 hW _ _ hL _
  have hval : ∀ (j : Nat) t v, Tryz.f3.params[j]? = some t → args[j]? = some v → Value.okWide Tryz.prog W .any base t v := hval0
  have hW' := hW
  obtain ⟨p, q, hA0, hV, rfl, hfz, hnd⟩ := hW
  have hA : DataW.TrodAll enc Tryz.prog W 0 (fun _ => true) true Tryz.f3.params.toList args.toList ds p := hA0
  rw [Tryz.params3] at hA hval
  obtain ⟨v0, d0, rfl, rfl, h0⟩ := trodAll_one hA
  obtain ⟨rfl, rfl⟩ := trodVars_none hV
  have lt0 : ∀ x ∈ p, x.block < W.heap.size := by obtain ⟨m, hm⟩ := h0; exact DataW.trod_lt m _ _ _ hm
  obtain ⟨a0, len0, cap0, rfl⟩ := okWide_slice Tryz.underlying22 (hval 0 22 v0 rfl rfl)
  have hst := steps_of_script h0
  clear hA0 hval0
  refine (programs_walk HC _ W hst).mono fun e W' ⟨he, bel⟩ => ?_
  subst he
  exact ⟨_, rfl, _, _, _, [], _, [], hW', trodAll_mk1 (shut_bool Tryz.underlying4 _), trodAll_mk1 (Below.trod laidOut (by kernel_rfl) (of_decide_eq_true (by kernel_rfl)) h0 bel lt0), rfl, bel.frame _, fun h => by cases h⟩

theorem programs_row (HC : ProgramCode) : Rows.ProgramsSaid :=
  OpenClaim.holds_of_wide 3 Tryz.f3 rfl rfl rfl rfl rfl rfl rfl ⟨rfl, rfl, rfl, rfl, rfl⟩ rfl rfl rfl rfl rfl (by kernel_rfl) Tryz.func3 (by kernel_rfl)
    (of_decide_eq_true (by kernel_rfl)) (by unfold Func.isWrapper; first | (rw [if_pos (by decide +kernel)]; kernel_rfl) | (rw [if_neg (by decide +kernel)]; exact ⟨rfl, rfl⟩))
    (fun os started H enc _ => programs_lifted HC os started H enc)

theorem programs_card (HC : ProgramCode) : Rows.ProgramsCardSaid :=
  Claim7.holds_tied_plain_at .later [] [.data, .data, .data] true Rows.programsCard.stood.harness false
    (programs_row HC) (fun _ h => by cases h) (by kernel_rfl) (fun _ h => by cases h) programs_row_tie rfl ⟨rfl, rfl⟩ (by kernel_rfl) rfl
    (fun f fn hf hfn => by
      obtain rfl : f = 3 := Option.some.inj ((show Tryz.prog.funcNamed Tryz.f3.name = some 3 by kernel_rfl).symm.trans hf) |>.symm
      obtain rfl : fn = Tryz.f3 := (Option.some.inj (Tryz.func3.symm.trans hfn)).symm
      exact ⟨by kernel_rfl, fun j t ht => by
        rw [Tryz.params3] at ht
        have hm : t ∈ [22] := by simpa using Array.mem_of_getElem? ht
        have hall : ([22].all fun u => !Tryz.prog.wantsStandIn u) = true := by kernel_rfl
        exact (show Tryz.prog.wantsStandIn t = false by simpa using List.all_eq_true.1 hall t hm)⟩)
    (by kernel_rfl)

set_option maxRecDepth 100000 in
theorem queries_lifted (HC : QueryCode) (os : Os) (started : os.Started) (H : Type) (enc : TypeId × Value → H) :
    ReturnsInHanded {} Tryz.checked os 4 .any (fun w args => (Rows.queriesSpec.pre enc Tryz.prog Tryz.f4 [] false w args ∧ laidMetH Tryz.prog Rows.queriesRow.laid w) ∧ sizedMet enc Tryz.prog Tryz.f4 (OpenSpec.ofChange Rows.queriesSpec) false w args)
      (Rows.queriesSpec.post enc Tryz.prog Tryz.f4 false true false false) := by
  refine returnsInHanded_of_change_and (C := Tryz.checked) (X := fun w _ => laidMetH Tryz.prog Rows.queriesRow.laid w) (fun _ _ _ hh h => h.of_heap hh) own started (by kernel_rfl) Tryz.func4
    (ChangeSpec.witness_shaped (enc := enc) (C := Tryz.checked) (os := os) (X := fun w _ => laidMetH Tryz.prog Rows.queriesRow.laid w) false (World.doorLaid Tryz.prog 400 os) #[.slice none 0 0] 8 rfl (World.shaped_of_RefB (by kernel_rfl) (by kernel_rfl)) (by kernel_rfl) (by kernel_rfl) (by kernel_rfl) (queries_door os _)) ?_
  intro W base args ds gs before hval0 hW _ _ hL _
  have hval : ∀ (j : Nat) t v, Tryz.f4.params[j]? = some t → args[j]? = some v → Value.okWide Tryz.prog W .any base t v := hval0
  have hW' := hW
  obtain ⟨p, q, hA0, hV, rfl, hfz, hnd⟩ := hW
  have hA : DataW.TrodAll enc Tryz.prog W 0 (fun _ => true) true Tryz.f4.params.toList args.toList ds p := hA0
  rw [Tryz.params4] at hA hval
  obtain ⟨v0, d0, rfl, rfl, h0⟩ := trodAll_one hA
  obtain ⟨rfl, rfl⟩ := trodVars_none hV
  have lt0 : ∀ x ∈ p, x.block < W.heap.size := by obtain ⟨m, hm⟩ := h0; exact DataW.trod_lt m _ _ _ hm
  obtain ⟨a0, len0, cap0, rfl⟩ := okWide_slice Tryz.underlying22 (hval 0 22 v0 rfl rfl)
  have hst := steps_of_script h0
  clear hA0 hval0
  refine (queries_walk HC _ W hst).mono fun e W' ⟨he, bel⟩ => ?_
  subst he
  exact ⟨_, rfl, _, _, _, [], _, [], hW', trodAll_mk1 (shut_bool Tryz.underlying4 _), trodAll_mk1 (Below.trod laidOut (by kernel_rfl) (of_decide_eq_true (by kernel_rfl)) h0 bel lt0), rfl, bel.frame _, fun h => by cases h⟩

theorem queries_row (HC : QueryCode) : Rows.QueriesSaid :=
  OpenClaim.holds_of_wide 4 Tryz.f4 rfl rfl rfl rfl rfl rfl rfl ⟨rfl, rfl, rfl, rfl, rfl⟩ rfl rfl rfl rfl rfl (by kernel_rfl) Tryz.func4 (by kernel_rfl)
    (of_decide_eq_true (by kernel_rfl)) (by unfold Func.isWrapper; first | (rw [if_pos (by decide +kernel)]; kernel_rfl) | (rw [if_neg (by decide +kernel)]; exact ⟨rfl, rfl⟩))
    (fun os started H enc _ => queries_lifted HC os started H enc)

theorem queries_card (HC : QueryCode) : Rows.QueriesCardSaid :=
  Claim7.holds_tied_plain_at .later [] [.data, .data, .data] true Rows.queriesCard.stood.harness false
    (queries_row HC) (fun _ h => by cases h) (by kernel_rfl) (fun _ h => by cases h) queries_row_tie rfl ⟨rfl, rfl⟩ (by kernel_rfl) rfl
    (fun f fn hf hfn => by
      obtain rfl : f = 4 := Option.some.inj ((show Tryz.prog.funcNamed Tryz.f4.name = some 4 by kernel_rfl).symm.trans hf) |>.symm
      obtain rfl : fn = Tryz.f4 := (Option.some.inj (Tryz.func4.symm.trans hfn)).symm
      exact ⟨by kernel_rfl, fun j t ht => by
        rw [Tryz.params4] at ht
        have hm : t ∈ [22] := by simpa using Array.mem_of_getElem? ht
        have hall : ([22].all fun u => !Tryz.prog.wantsStandIn u) = true := by kernel_rfl
        exact (show Tryz.prog.wantsStandIn t = false by simpa using List.all_eq_true.1 hall t hm)⟩)
    (by kernel_rfl)

end Go.Proofs.YtlmjilpjmgjjcaaGreatDoor

namespace Go.Proofs.YtlmjilpjmgjjcaaGreatDoor
open Go.RowKit
set_option linter.unusedSimpArgs false
set_option linter.unusedVariables false

theorem digits_cut (n : Nat) (h : n < 10) : (⟨#[48, 49, 50, 51, 52, 53, 54, 55, 56, 57, 97, 98, 99, 100, 101, 102, 103, 104, 105, 106, 107, 108, 109, 110, 111, 112, 113, 114, 115, 116, 117, 118, 119, 120, 121, 122]⟩ : ByteArray).extract n (n + 1) = ⟨(Lib.decDigits n).toArray⟩ := by
  have : ∀ n, n < 10 → ((⟨#[48, 49, 50, 51, 52, 53, 54, 55, 56, 57, 97, 98, 99, 100, 101, 102, 103, 104, 105, 106, 107, 108, 109, 110, 111, 112, 113, 114, 115, 116, 117, 118, 119, 120, 121, 122]⟩ : ByteArray).extract n (n + 1)).data.toList = [UInt8.ofNat (48 + n)] := by decide +kernel
  apply ByteArray.ext
  apply Array.ext'
  rw [this n h, Lib.decDigits, dif_pos h]
set_option maxRecDepth 20000 in
theorem smalls_cut (n : Nat) (h : n < 100) (h10 : ¬ n < 10) : (⟨#[48, 48, 48, 49, 48, 50, 48, 51, 48, 52, 48, 53, 48, 54, 48, 55, 48, 56, 48, 57, 49, 48, 49, 49, 49, 50, 49, 51, 49, 52, 49, 53, 49, 54, 49, 55, 49, 56, 49, 57, 50, 48, 50, 49, 50, 50, 50, 51, 50, 52, 50, 53, 50, 54, 50, 55, 50, 56, 50, 57, 51, 48, 51, 49, 51, 50, 51, 51, 51, 52, 51, 53, 51, 54, 51, 55, 51, 56, 51, 57, 52, 48, 52, 49, 52, 50, 52, 51, 52, 52, 52, 53, 52, 54, 52, 55, 52, 56, 52, 57, 53, 48, 53, 49, 53, 50, 53, 51, 53, 52, 53, 53, 53, 54, 53, 55, 53, 56, 53, 57, 54, 48, 54, 49, 54, 50, 54, 51, 54, 52, 54, 53, 54, 54, 54, 55, 54, 56, 54, 57, 55, 48, 55, 49, 55, 50, 55, 51, 55, 52, 55, 53, 55, 54, 55, 55, 55, 56, 55, 57, 56, 48, 56, 49, 56, 50, 56, 51, 56, 52, 56, 53, 56, 54, 56, 55, 56, 56, 56, 57, 57, 48, 57, 49, 57, 50, 57, 51, 57, 52, 57, 53, 57, 54, 57, 55, 57, 56, 57, 57]⟩ : ByteArray).extract (n * 2) (n * 2 + 2) = ⟨(Lib.decDigits n).toArray⟩ := by
  have : ∀ n, n < 100 → ((⟨#[48, 48, 48, 49, 48, 50, 48, 51, 48, 52, 48, 53, 48, 54, 48, 55, 48, 56, 48, 57, 49, 48, 49, 49, 49, 50, 49, 51, 49, 52, 49, 53, 49, 54, 49, 55, 49, 56, 49, 57, 50, 48, 50, 49, 50, 50, 50, 51, 50, 52, 50, 53, 50, 54, 50, 55, 50, 56, 50, 57, 51, 48, 51, 49, 51, 50, 51, 51, 51, 52, 51, 53, 51, 54, 51, 55, 51, 56, 51, 57, 52, 48, 52, 49, 52, 50, 52, 51, 52, 52, 52, 53, 52, 54, 52, 55, 52, 56, 52, 57, 53, 48, 53, 49, 53, 50, 53, 51, 53, 52, 53, 53, 53, 54, 53, 55, 53, 56, 53, 57, 54, 48, 54, 49, 54, 50, 54, 51, 54, 52, 54, 53, 54, 54, 54, 55, 54, 56, 54, 57, 55, 48, 55, 49, 55, 50, 55, 51, 55, 52, 55, 53, 55, 54, 55, 55, 55, 56, 55, 57, 56, 48, 56, 49, 56, 50, 56, 51, 56, 52, 56, 53, 56, 54, 56, 55, 56, 56, 56, 57, 57, 48, 57, 49, 57, 50, 57, 51, 57, 52, 57, 53, 57, 54, 57, 55, 57, 56, 57, 57]⟩ : ByteArray).extract (n * 2) (n * 2 + 2)).data.toList = [UInt8.ofNat (48 + n / 10), UInt8.ofNat (48 + n % 10)] := by decide +kernel
  apply ByteArray.ext
  apply Array.ext'
  rw [this n h, Lib.decDigits, dif_neg h10, Lib.decDigits, dif_pos (by omega)]
  rfl
theorem letter_enc (n : Nat) : Utf8.encode (65 + (n : Int) % 26) = ⟨[UInt8.ofNat (65 + n % 26)].toArray⟩ := by
  have : ∀ m : Nat, m < 26 → (Utf8.encode (65 + (m : Int))).data.toList = [UInt8.ofNat (65 + m)] := by decide +kernel
  rw [show (n : Int) % 26 = ((n % 26 : Nat) : Int) from by omega]
  apply ByteArray.ext
  apply Array.ext'
  rw [this (n % 26) (by omega)]

set_option maxRecDepth 20000 in
set_option maxHeartbeats 1000000 in
theorem small_any (n : Nat) (w : World) (h : n < 100) : Calls Tryz.prog 122 #[.int .i64 n] w fun e w' => e = .returned (.string ⟨(Lib.decDigits n).toArray⟩) ∧ w' = w := by
  by_cases h10 : n < 10
  · go_enter Tryz.func122, Tryz.ntmps122
    go_wp2
    go_ret
    exact ⟨ret_str (digits_cut n h10), rfl⟩
  · go_enter Tryz.func122, Tryz.ntmps122
    go_wp2
    go_ret
    exact ⟨ret_str (smalls_cut n h h10), rfl⟩

set_option maxHeartbeats 1000000 in
theorem format_any (n : Nat) (w : World) (h : n < 100) : Calls Tryz.prog 95 #[.int .i64 n, .int .i64 10] w fun e w' => e = .returned (.string ⟨(Lib.decDigits n).toArray⟩) ∧ w' = w := by
  go_enter Tryz.func95, Tryz.ntmps95
  go_wp2_with fail
  refine (small_any n _ h).mono ?_
  rintro e w' ⟨rfl, rfl⟩
  go_wp2
  go_ret
  exact ⟨rfl, rfl⟩
theorem itoai_any (n : Nat) (w : World) (h : n < 100) : Calls Tryz.prog 66 #[.int .i64 n] w fun e w' => e = .returned (.string ⟨(Lib.decDigits n).toArray⟩) ∧ w' = w := by
  go_enter Tryz.func66, Tryz.ntmps66
  go_wp2_with fail
  refine (format_any n _ h).mono ?_
  rintro e w' ⟨rfl, rfl⟩
  go_wp2
  go_ret
  exact ⟨rfl, rfl⟩
theorem itoa_any (n : Nat) (w : World) (h : n < 100) : Calls Tryz.prog 41 #[.int .i64 n] w fun e w' => e = .returned (.string ⟨(Lib.decDigits n).toArray⟩) ∧ w' = w := by
  go_enter Tryz.func41, Tryz.ntmps41
  go_wp2_with fail
  refine (itoai_any n _ h).mono ?_
  rintro e w' ⟨rfl, rfl⟩
  go_wp2
  go_ret
  exact ⟨rfl, rfl⟩

set_option maxRecDepth 10000 in
set_option maxHeartbeats 1000000 in
theorem varName_any (n : Nat) (w : World) (h : n < 2600) : Calls Tryz.prog 174 #[.int .i64 n] w fun e w' => e = .returned (.string ⟨(calledL n).toArray⟩) ∧ w' = w := by
  by_cases h26 : n < 26
  · have hd : (n : Int) / 26 = 0 := by omega
    go_enter Tryz.func174, Tryz.ntmps174
    go_wp2
    go_ret
    refine ⟨ret_str ((letter_enc n).trans ?_), rfl⟩
    rw [calledL, if_pos h26, Nat.mod_eq_of_lt h26]
  · have hd : ((n : Int) / 26 == 0) = false := by rw [beq_eq_false_iff_ne]; omega
    go_enter Tryz.func174, Tryz.ntmps174
    go_wp2_with fail
    refine (itoa_any (n / 26) _ (by omega)).mono ?_
    rintro e w' ⟨rfl, rfl⟩
    have hlen := dec_len (n / 26)
    have henc := letter_enc n
    have Henc := hide' henc
    have hsz : (Utf8.encode (65 + (n : Int) % 26)).size = 1 := by rw [henc]; rfl
    clear henc
    go_wp2
    go_ret
    refine ⟨ret_str ?_, rfl⟩
    show Utf8.encode (65 + (n : Int) % 26) ++ _ = _
    rw [Henc.out, str_cat, calledL, if_neg h26]
    rfl

/-- How the program writes a symbol. -/
def symC (s : Sym) : List UInt8 := if s.name = [] then calledL s.num else s.name

set_option maxRecDepth 10000 in
set_option maxHeartbeats 1000000 in
theorem symbolText_any (s : Sym) (w : World) (h : s.num < 2600) : Calls Tryz.prog 135 #[.agg #[.string ⟨s.name.toArray⟩, .int .i64 s.num, .int .i64 s.args]] w fun e w' => e = .returned (.string ⟨(symC s).toArray⟩) ∧ Below w.heap.size w w' := by
  cases hn : s.name with
  | nil =>
    have Hc : Hid (symC s = calledL s.num) := by show _ = _; simp [symC, hn]
    clear hn
    go_enter Tryz.func135, Tryz.ntmps135
    go_wp2_with fail
    refine (varName_any s.num _ h).mono ?_
    rintro e w' ⟨rfl, rfl⟩
    go_wp2
    go_ret
    rw [Hc.out]
    exact ⟨rfl, (Below.refl _ _).alloc (Nat.le_refl _) _⟩
  | cons c r =>
    have Hc : Hid (symC s = c :: r) := by show _ = _; simp [symC, hn]
    clear hn
    go_enter Tryz.func135, Tryz.ntmps135
    go_wp2
    go_ret
    rw [Hc.out]
    exact ⟨rfl, (Below.refl _ _).alloc (Nat.le_refl _) _⟩

end Go.Proofs.YtlmjilpjmgjjcaaGreatDoor
