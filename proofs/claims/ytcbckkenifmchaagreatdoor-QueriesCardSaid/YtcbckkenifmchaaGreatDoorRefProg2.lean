/-
  PROVED HERE: what the reference's 'ReadProgram' answers (the conditions stand in each statement).
-/
import Derived.Test.YtcbckkenifmchaaGreatDoorRefProg
namespace Go.Proofs.YtcbckkenifmchaaGreatDoor
open Go.RowKit
set_option linter.unusedSimpArgs false
set_option linter.unusedVariables false

theorem terms_int (f gn : Nat) (w : World) (ts : List Tok) (k : Nat) (ki : Int) (tv : Value) (Bt B : Nat) (names : Names) (nv : Value) (q : List (List Sym) × List Tok × Names) (hki : ki = (k : Int))
    (hq : pterms f gn (ts.drop k) names [] = some q) (hts : w.ownsRow Bt 121 3 tv ts.length (toksCells ts)) (hnv : w.ownsRow B 9 1 nv names.length (strs names)) (hB : B ≤ w.heap.size)
    (hl : ts.length ≤ 1000) (hn : names.length + (ts.length - k) ≤ 1000) (htx : ∀ t ∈ ts, t.text.length ≤ 4096) (htn : ∀ i t, ts[i]? = some t → i + 1 < ts.length → t.text ≠ []) :
    Calls Tryz.prog 63 #[tv, .int .i64 ki, nv] w fun e w' => ∃ lv nv' j xs, e = .returned (.tuple #[lv, .int .i64 (j : Nat), nv']) ∧ q.2.1 = ts.drop j ∧ k < j ∧ j ≤ ts.length ∧
      Kids f w' w.heap.size lv q.1 xs ∧ Appended w B 9 1 nv q.2.2.length (strs q.2.2) nv' w' := by
  subst hki
  exact terms_any f gn w ts k tv Bt B names nv q hq hts hnv hB hl hn htx htn

set_option maxRecDepth 10000 in
set_option maxHeartbeats 1000000 in
theorem readProgram_long (s : ByteArray) (w : World) (hm : s.size ≤ maxLen) (hs : 800 < s.size) :
    Calls Tryz.prog 33 #[.string s] w fun e w' => e = .returned (.tuple #[.slice none 0 0, .int .i64 1, .int .i64 0]) ∧ Below w.heap.size w w' := by
  unfold maxLen at hm
  go_enter Tryz.func33, Tryz.ntmps33
  go_wp2
  go_ret3
  exact ⟨rfl, Below.refl _ _⟩

set_option maxRecDepth 10000 in
set_option maxHeartbeats 1000000 in
theorem readProgram_err (s : ByteArray) (w : World) (hs : s.size ≤ 800) (he : (lover (alltoks s) (lstart0 false)).1 ≠ 0) :
    Calls Tryz.prog 33 #[.string s] w fun e w' => e = .returned (.tuple #[.slice none 0 0, .int .i64 (lover (alltoks s) (lstart0 false)).1, .int .i64 (lover (alltoks s) (lstart0 false)).2]) ∧ Below w.heap.size w w' := by
  have he' : (((lover (alltoks s) (lstart0 false)).1 : Int) != 0) = true := by rw [bne_iff_ne]; omega
  go_enter Tryz.func33, Tryz.ntmps33
  go_wp2_with fail
  refine (tokens_row s _ (by omega)).mono ?_
  rintro e w1 ⟨v, rfl, hb1, hts⟩
  have Hts := hide' hts
  have Hb1 := hide' hb1
  clear hts hb1
  go_wp2_with fail
  refine (over_program w1 _ s v (by omega) Hts.out).mono ?_
  rintro e w2 ⟨rfl, hb2⟩
  have Hb2 := hide' hb2
  clear hb2
  go_wp2
  go_ret3
  exact ⟨rfl, Hb1.out.trans (Hb2.out.mono Hb1.out.size)⟩

set_option maxRecDepth 10000 in
set_option maxHeartbeats 1000000 in
theorem readProgram_ok (s : ByteArray) (w : World) (cs : List Cls) (hs : s.size ≤ 800) (he : (lover (alltoks s) (lstart0 false)).1 = 0) (hq : pprog 1000 (alltoks s) [] = some cs) :
    Calls Tryz.prog 33 #[.string s] w fun e w' => ∃ lv xs, e = .returned (.tuple #[lv, .int .i64 0, .int .i64 0]) ∧ ClsRow w' w.heap.size lv cs xs ∧ Below w.heap.size w w' := by
  have he' : (((lover (alltoks s) (lstart0 false)).1 : Int) != 0) = false := by rw [he]; rfl
  have hal := alltoks_len s
  have Hq := hide' hq
  have Htx : Hid (∀ t ∈ alltoks s, t.text.length ≤ 4096) := fun t ht => by have := alltoks_text s t ht; omega
  have Htn := hide' (alltoks_some s)
  clear hq
  go_enter Tryz.func33, Tryz.ntmps33
  go_wp2_with fail
  refine (tokens_row s _ (by omega)).mono ?_
  rintro e w1 ⟨v, rfl, hb1, hts⟩
  have Hts := hide' hts
  have Hb1 := hide' hb1
  clear hts hb1
  go_wp2_with fail
  refine (over_program w1 _ s v (by omega) Hts.out).mono ?_
  rintro e w2 ⟨rfl, hb2⟩
  have Hb12 := hide' (Hb1.out.trans (hb2.mono Hb1.out.size))
  have Hts2 := hide' (below_owns hb2 Hts.out (Nat.le_refl _))
  have hsz2 := Hb12.out.size
  obtain ⟨ta, tcap, rfl⟩ := owns_slice Hts2.out
  clear hb2 Hts Hb1
  generalize alltoks s = ts at *
  go_wp2
  go_loopg [8, 9] 1000 (fun gk lv i wr => ∃ (j : Nat) (acc : List Cls) (xs : List (List Value)), i = .int .i64 (j : Nat) ∧ j ≤ ts.length ∧ acc.length ≤ j ∧ pprog gk (ts.drop j) acc = some cs ∧
      ClsRow wr w.heap.size lv acc xs ∧ Below w.heap.size w wr ∧ wr.ownsRow w.heap.size 121 3 (.slice ta ts.length tcap) ts.length (toksCells ts))
  case atStart => exact ⟨0, [], [], rfl, by omega, by simp, Hq.out, ClsRow.nil _ _, Hb12.out, Hts2.out⟩
  case round =>
    obtain ⟨j, acc, xs, rfl, hj, haj, hpr, hrow, hbel, htsr⟩ := hrel
    obtain ⟨la, lcap, rfl⟩ := owns_slice hrow.owns
    cases hdj : ts.drop j with
    | nil => rw [hdj] at hpr; cases gk <;> simp [pprog] at hpr
    | cons x xr =>
      obtain ⟨hx, hxr, hxl⟩ := drop_at hdj
      obtain ⟨g, tcap', he2, hg2, x0, _, _⟩ := tok_at htsr hx
      simp only [Value.slice.injEq] at he2
      obtain ⟨rfl, _, rfl⟩ := he2
      cases gk with
      | zero => simp [pprog] at hpr
      | succ gk =>
        rw [hdj, pprog] at hpr
        by_cases h4 : x.kind = 4
        · rw [if_pos h4] at hpr
          simp only [Option.some.injEq] at hpr
          have k4 : ((x.kind : Int) != 4) = false := by rw [h4]; rfl
          have Hrow := hide' hrow
          have Hpr := hide' hpr
          clear hrow hpr hdj hx hxr htsr
          go_wp2
          go_ret3
          rw [← Hpr.out]
          exact ⟨_, xs, rfl, Hrow.out, hbel⟩
        · rw [if_neg h4] at hpr
          have k4 : ((x.kind : Int) != 4) = true := by rw [bne_iff_ne]; omega
          cases hpc : pclause (x :: xr) with
          | none => rw [hpc] at hpr; simp at hpr
          | some cr =>
            rw [hpc] at hpr
            simp only at hpr
            rw [← hdj, pclause] at hpc
            cases hpt : pterm 1000 (ts.drop j) [] with
            | none => rw [hpt] at hpc; simp at hpc
            | some r =>
              rw [hpt] at hpc
              simp only at hpc
              obtain ⟨nb, hb1, hb2, hb3, hb4⟩ := pterm_behind 1000 _ [] r hpt
              simp only [List.length_drop, List.length_nil] at hb2 hb4
              have hszr := hbel.size
              have HI := hide' (term_any 1000 wr ts j (.slice (some ⟨g, 0, none⟩) ts.length tcap) w.heap.size wr.heap.size [] (.slice none 0 0) r hpt htsr (World.ownsRow_nil _ _ _ _) (Nat.le_refl _) (by omega) (by simp; omega) Htx.out Htn.out)
              have Hrow := hide' hrow
              have Hpr := hide' hpr
              have Hpc := hide' hpc
              have Htsr := hide' htsr
              have Hb3 := hide' hb3
              clear hrow hpr hpc htsr hdj hx hxr hpt hb3
              go_wp2_with fail
              refine HI.out.mono ?_
              rintro e w3 ⟨a, b, c, nv, j', rfl, hrest, hj1, hj2, hrep, hap⟩
              obtain ⟨sa, bn, ca, cl, cc, rfl, rfl, rfl⟩ := hrep.shape
              obtain ⟨na, ncap, rfl⟩ := owns_slice hap.owns
              have hkb : Kept noBlock wr w3 := hap.kept.mono (fun k _ h => by simp [ownOf, Value.ownBlock] at h)
              have hsz3 := hkb.size
              have hts3 := hkb.owns Htsr.out (fun _ _ h => h)
              have Hts3 := hide' hts3
              have Hkb := hide' hkb
              have Hrep := hide' hrep
              have Hap := hide' hap
              have Hrest := hide' hrest
              have hpc2 := Hpc.out
              rw [hrest] at hpc2
              cases hdj2 : ts.drop j' with
              | nil => rw [hdj2] at hpc2; simp at hpc2
              | cons y yr =>
                rw [hdj2] at hpc2
                simp only at hpc2
                obtain ⟨hy, hyr, hyl⟩ := drop_at hdj2
                obtain ⟨g', tcap', he2, hg3, y0, _, _⟩ := tok_at hts3 hy
                simp only [Value.slice.injEq, Option.some.injEq, Addr.mk.injEq] at he2
                obtain ⟨⟨rfl, _⟩, _, rfl⟩ := he2
                have Hyr := hide' hyr
                clear hkb hts3 hrep hap hrest hdj2 hy hyr x0
                by_cases h3 : y.kind = 3
                · rw [if_pos h3] at hpc2
                  rw [Option.map_eq_some_iff] at hpc2
                  obtain ⟨q, hq1, rfl⟩ := hpc2
                  rw [h3] at y0
                  have Hq1 := hide' hq1
                  clear hq1
                  have Hnv : Hid (w3.ownsRow wr.heap.size 9 1 (.slice na r.2.2.length ncap) r.2.2.length (strs r.2.2)) := Hap.out.owns
                  have hnb : r.2.2.length ≤ nb := by omega
                  have hj3 : j' = j + nb := by
                    have h1 := congrArg List.length Hrest.out
                    rw [Hb3.out] at h1
                    simp only [List.length_drop] at h1
                    omega
                  have hnn : r.2.2.length + (ts.length - (j' + 1)) ≤ 1000 := by omega
                  clear hj3
                  go_wp2_with fail
                  refine (terms_int 1000 1000 _ ts (j' + 1) _ (.slice (some ⟨g, 0, none⟩) ts.length tcap) w.heap.size wr.heap.size r.2.2 (.slice na r.2.2.length ncap) q (by omega) (by rw [Hyr.out]; exact Hq1.out) ((Hts3.out.alloc _).alloc _) ((Hnv.out.alloc _).alloc _) (by simp; omega) (by omega) hnn Htx.out Htn.out).mono ?_
                  rintro e w5 ⟨bv, nv2, j2, ys, rfl, hrest2, hj5, hj6, hkids, hap5⟩
                  obtain ⟨ba, bcap, rfl⟩ := owns_slice hkids.owns
                  obtain ⟨n2a, n2cap, rfl⟩ := owns_slice hap5.owns
                  have hN : ∀ o o', ((w3.alloc o).alloc o').heap[w3.heap.size + 1]? = some o' := fun o o' => by
                    have := heap_alloc_new (w3.alloc o) o'
                    simpa using this
                  have hN' := hN (.cells #[.string sa, .int .i64 bn, .slice ca cl cc] 74) (.cells #[.string sa, .int .i64 bn, .slice ca cl cc, .slice none 0 0, .int .i64 0] 76)
                  have hsz5 := hap5.kept.size
                  simp only [World.alloc, Array.size_push] at hsz5
                  have hblk5 : w5.heap[w3.heap.size + 1]? = some (.cells #[.string sa, .int .i64 bn, .slice ca cl cc, .slice none 0 0, .int .i64 0] 76 (0, 0)) :=
                    (hap5.kept.block (w3.heap.size + 1) (by simp) (owns_apart ((Hnv.out.alloc _).alloc _) (by decide) hN')).trans hN'
                  have z3 : w5.cell? ⟨w3.heap.size + 1, 3, none⟩ = some (.slice none 0 0) := cell_of_block hblk5 3 _ rfl
                  have z4 : w5.cell? ⟨w3.heap.size + 1, 4, none⟩ = some (.int .i64 0) := cell_of_block hblk5 4 _ rfl
                  have z0 : w5.cell? ⟨w3.heap.size + 1, 0, none⟩ = some (.string sa) := cell_of_block hblk5 0 _ rfl
                  have z1 : w5.cell? ⟨w3.heap.size + 1, 1, none⟩ = some (.int .i64 bn) := cell_of_block hblk5 1 _ rfl
                  have z2 : w5.cell? ⟨w3.heap.size + 1, 2, none⟩ = some (.slice ca cl cc) := cell_of_block hblk5 2 _ rfl
                  have zf := fun i => thawed_of_block hblk5 i
                  have zs : w3.heap.size + 1 < w5.heap.size := lt_of_block hblk5
                  have k35 : Kept (ownOf (.slice na r.2.2.length ncap)) w3 w5 := (((Kept.refl _ w3).alloc _).alloc _).trans hap5.kept
                  have hrow3 : w3.ownsRow w.heap.size 76 5 (.slice la acc.length lcap) acc.length xs.flatten := Hkb.out.owns Hrow.out.owns (fun _ _ h => h)
                  have hrow5 : w5.ownsRow w.heap.size 76 5 (.slice la acc.length lcap) acc.length xs.flatten := k35.owns hrow3 (fun k hk => by
                    obtain ⟨cur, hc⟩ := owns_terms hrow3 k hk
                    exact owns_apart Hnv.out (by decide) hc)
                  have hts5 := k35.owns Hts3.out (fun k hk => by
                    obtain ⟨cur, hc⟩ := owns_terms Hts3.out k hk
                    exact owns_apart Hnv.out (by decide) hc)
                  have hnot : ∀ k, (Value.slice la acc.length lcap).ownBlock = some k → ¬ only (w3.heap.size + 1) k := fun k hk e => by
                    have e : k = w3.heap.size + 1 := e
                    have := (hrow3.lt k hk).2
                    omega
                  have hkt1 : KeepT wr w3 := KeepT.of_kept Hkb.out (fun _ _ h => h)
                  have hkt2 : KeepT w3 w5 := KeepT.of_apart k35 Hnv.out (by decide)
                  have hk56 : ∀ v3 v4 : Value, Kept (only (w3.heap.size + 1)) w5 ((w5.setCell ⟨w3.heap.size + 1, 3, none⟩ v3).setCell ⟨w3.heap.size + 1, 4, none⟩ v4) := fun v3 v4 => ((Kept.refl _ w5).put 3 v3).put 4 v4
                  have hkt3 : ∀ v3 v4 : Value, KeepT w5 ((w5.setCell ⟨w3.heap.size + 1, 3, none⟩ v3).setCell ⟨w3.heap.size + 1, 4, none⟩ v4) := fun v3 v4 => KeepT.of_kept (hk56 v3 v4) (fun k hk e => by
                    have e : k = w3.heap.size + 1 := e
                    subst e
                    obtain ⟨cur, hc⟩ := hk
                    rw [hblk5] at hc
                    simp at hc)
                  have Hcls := hide' (show ClsAt w5 [.string sa, .int .i64 bn, .slice ca cl cc, .slice ba q.1.length bcap, .int .i64 (q.2.2.length : Nat)] ⟨r.1, q.1, q.2.2.length⟩ from ⟨sa, bn, ca, cl, cc, _, _, _, _, ys, rfl, Hrep.out.keep hkt2, hkids⟩)
                  have Hrow56 := hide' (fun v3 v4 : Value => (hk56 v3 v4).owns hrow5 hnot)
                  have Hk56 := hide' hk56
                  have Hkt3 := hide' hkt3
                  have Hkt := hide' (hkt1.trans hkt2)
                  have Hts5 := hide' hts5
                  have Hrest2 := hide' hrest2
                  have H35 := hide' k35
                  have Hblk5 := hide' hblk5
                  have Hrow5 := hide' hrow5
                  clear hN hN' hblk5 k35 hrow3 hrow5 hts5 hnot hkt1 hkt2 hk56 hkt3 hkids hap5 hrest2 y0
                  go_wp2_with (at_builtin; refine wpList_append1 _ rfl (.tmp 69) (.tmp 71) 43 rfl w.heap.size 76 Tryz.infoClause Tryz.underlying43 rfl (by decide) _ acc.length xs.flatten rfl (Hrow56.out _ _) _ rfl (by simp) rfl cls_one ?_ ?_ ?_)
                  · omega
                  · simp; omega
                  intro lv' w6 hap6
                  have Hap6 := hide' hap6
                  clear hap6
                  go_wp2
                  go_roundg gk
                  case measure => omega
                  case rel =>
                    have hr56 := Hrow56.out (.slice ba q.1.length bcap) (.int .i64 (q.2.2.length : Nat))
                    have hk56 := Hk56.out (.slice ba q.1.length bcap) (.int .i64 (q.2.2.length : Nat))
                    have hkt3 := Hkt3.out (.slice ba q.1.length bcap) (.int .i64 (q.2.2.length : Nat))
                    have hktB : KeepT _ w6 := KeepT.of_apart Hap6.out.kept hr56 (by decide)
                    have hrowW := Hrow.out.keep (Hkt.out.trans hkt3) hr56
                    have hts56 := hk56.owns Hts5.out (fun k hk e => by
                      have e : k = w3.heap.size + 1 := e
                      subst e
                      exact owns_apart Hts5.out (by decide) Hblk5.out hk)
                    refine ⟨j2, acc ++ [⟨r.1, q.1, q.2.2.length⟩], _, rfl, by omega, by simp; omega, by rw [← Hrest2.out]; exact Hpr.out, hrowW.add (Hcls.out.keep hkt3) rfl hktB Hap6.out.owns, ?_, ?_⟩
                    · have hz5 := H35.out.size
                      have hz6 := hk56.size
                      refine hbel.trans ((Hkb.out.below hszr (fun _ h => h.elim)).trans ((H35.out.below (by omega) (fun k h => ?_)).trans ((hk56.below (by omega) (fun k h => ?_)).trans (Hap6.out.kept.below (by omega) (fun k h => (hr56.lt k h).1)))))
                      · have := (Hnv.out.lt k h).1; omega
                      · have h : k = w3.heap.size + 1 := h
                        omega
                    · exact Hap6.out.kept.owns hts56 (fun k hk => by
                        obtain ⟨cur, hc⟩ := owns_terms hts56 k hk
                        exact owns_apart hr56 (by decide) hc)
                · rw [if_neg h3] at hpc2
                  simp only [Option.some.injEq] at hpc2
                  have k3 : ((y.kind : Int) == 3) = false := by rw [beq_eq_false_iff_ne]; omega
                  subst hpc2
                  go_wp2_with (at_builtin; refine wpList_append1 _ rfl (.tmp 69) (.tmp 71) 43 rfl w.heap.size 76 Tryz.infoClause Tryz.underlying43 rfl (by decide) _ acc.length xs.flatten rfl (((Hkb.out.owns Hrow.out.owns (fun _ _ h => h)).alloc _).alloc _) _ rfl (by simp) rfl cls_one ?_ ?_ ?_)
                  · omega
                  · simp; omega
                  intro lv' w6 hap6
                  have Hap6 := hide' hap6
                  clear hap6
                  go_wp2
                  go_roundg gk
                  case measure => omega
                  case rel =>
                    have hrow3 : w3.ownsRow w.heap.size 76 5 (.slice la acc.length lcap) acc.length xs.flatten := Hkb.out.owns Hrow.out.owns (fun _ _ h => h)
                    have k36 : Kept (ownOf (.slice la acc.length lcap)) w3 w6 := (((Kept.refl _ w3).alloc _).alloc _).trans Hap6.out.kept
                    have hkt1 : KeepT wr w3 := KeepT.of_kept Hkb.out (fun _ _ h => h)
                    have hkt2 : KeepT w3 w6 := KeepT.of_apart k36 hrow3 (by decide)
                    have hcls : ClsAt w3 [.string sa, .int .i64 bn, .slice ca cl cc, .slice none 0 0, .int .i64 (r.2.2.length : Nat)] ⟨r.1, [], r.2.2.length⟩ := ⟨sa, bn, ca, cl, cc, _, _, _, 0, [], rfl, Hrep.out, Kids.nil _ _ _⟩
                    have hrow3' := Hrow.out.keep hkt1 hrow3
                    refine ⟨j' + 1, acc ++ [⟨r.1, [], r.2.2.length⟩], _, by go_num, by omega, by simp; omega, by rw [Hyr.out]; exact Hpr.out, hrow3'.add hcls rfl hkt2 Hap6.out.owns, ?_, ?_⟩
                    · refine hbel.trans ((Hkb.out.below hszr (fun _ h => h.elim)).trans (k36.below (by omega) (fun k h => (hrow3.lt k h).1)))
                    · exact k36.owns Hts3.out (fun k hk => by
                        obtain ⟨cur, hc⟩ := owns_terms Hts3.out k hk
                        exact owns_apart hrow3 (by decide) hc)

end Go.Proofs.YtcbckkenifmchaaGreatDoor
