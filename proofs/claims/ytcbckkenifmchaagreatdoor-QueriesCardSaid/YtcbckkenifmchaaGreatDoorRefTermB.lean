/-
  PROVED HERE: what the reference's 'term' reads out of a row of tokens, whatever term stands there (the conditions stand in the statement).
-/
import Derived.Test.YtcbckkenifmchaaGreatDoorRefTermA
namespace Go.Proofs.YtcbckkenifmchaaGreatDoor
open Go.RowKit
set_option linter.unusedSimpArgs false
set_option linter.unusedVariables false

set_option maxRecDepth 10000 in
set_option maxHeartbeats 1000000 in
theorem term_args (f : Nat) (IH : TermSaid f) (w : World) (ts : List Tok) (k : Nat) (tv : Value) (Bt B : Nat) (names : Names) (nv : Value) (t u : Tok) (r : List Tok) (q : List (List Sym) × List Tok × Names)
    (hd : ts.drop k = t :: u :: r) (hkd : t.kind ≠ 2) (hku : u.kind = 40) (hq : pargs (pterm f) (r.length + 1) (u :: r) names [] = some q) (hts : w.ownsRow Bt 121 3 tv ts.length (toksCells ts))
    (hnv : w.ownsRow B 9 1 nv names.length (strs names)) (hB : B ≤ w.heap.size) (hl : ts.length ≤ 1000) (hn : names.length + (ts.length - k) ≤ 1000) (htx : ∀ t ∈ ts, t.text.length ≤ 4096)
    (hne : t.text ≠ []) (htn : ∀ i t, ts[i]? = some t → i + 1 < ts.length → t.text ≠ []) :
    Calls Tryz.prog 62 #[tv, .int .i64 k, nv] w fun e w' => ∃ a b c nv' j, e = .returned (.tuple #[.agg #[a, b, c], .int .i64 (j : Nat), nv']) ∧ q.2.1 = ts.drop j ∧ k < j ∧ j ≤ ts.length ∧
      RepT (f + 1) w' w.heap.size w'.heap.size a b c (⟨t.text, 0, q.1.length⟩ :: q.1.flatten) ∧ Appended w B 9 1 nv q.2.2.length (strs q.2.2) nv' w' := by
  obtain ⟨ht, hr, hk⟩ := drop_at hd
  obtain ⟨hu, hr', hk'⟩ := drop_at hr
  obtain ⟨g, tcap, rfl, hg, t0, t1, t2⟩ := tok_at hts ht
  obtain ⟨g', tcap', he, hg', u0, u1, u2⟩ := tok_at hts hu
  simp only [Value.slice.injEq, Option.some.injEq, Addr.mk.injEq] at he
  obtain ⟨⟨rfl, _⟩, _, rfl⟩ := he
  have k2 : ((t.kind : Int) == 2) = false := by rw [beq_eq_false_iff_ne]; omega
  rw [hku] at u0
  have Hq : Hid (pargs (pterm f) (r.length + 1) (ts.drop (k + 1)) names [] = some q) := by show _ = _; rw [hr]; exact hq
  have Hnv := hide' hnv
  have Hts := hide' hts
  have Hih := hide' IH
  have Hap0 : Hid (∀ o o', Appended w B 9 1 nv names.length (strs names) nv ((w.alloc o).alloc o')) := fun o o' => ⟨(hnv.alloc _).alloc _, ((Kept.refl _ w).alloc _).alloc _, Or.inl rfl⟩
  obtain ⟨na, ncap, rfl⟩ := owns_slice hnv
  clear hd hts hnv ht hr hu hr' hq IH u1 u2
  go_enter Tryz.func62, Tryz.ntmps62
  go_wp2
  go_loopg [1, 2] (r.length + 1) (fun gk i nm wr => ∃ (j : Nat) (nms : Names) (acc : List (List Sym)) (cv : Value) (xs : List Value), i = .int .i64 (j : Nat) ∧ k < j ∧ j ≤ ts.length ∧ acc.length ≤ j ∧ nms.length + (ts.length - j) ≤ 1000 ∧
      pargs (pterm f) gk (ts.drop j) nms acc = some q ∧ wr.heap[w.heap.size]? = some (.cells #[.string ⟨#[]⟩, .int .i64 0, .slice none 0 0] 74 (0, 0)) ∧
      wr.heap[w.heap.size + 1]? = some (.cells #[.string ⟨t.text.toArray⟩, .int .i64 0, cv] 74 (0, 0)) ∧ Kids f wr (w.heap.size + 2) cv acc xs ∧ w.heap.size + 2 ≤ wr.heap.size ∧
      Appended w B 9 1 (.slice na names.length ncap) nms.length (strs nms) nm wr)
  case atStart =>
    exact ⟨k + 1, names, [], .slice none 0 0, [], by go_num, by omega, by omega, by simp, by omega, Hq.out, block_alloc (heap_alloc_new w _) _, by simpa using heap_alloc_new (w.alloc _) _, Kids.nil _ _ _, by simp, Hap0.out _ _⟩
  case round =>
    obtain ⟨j, nms, acc, cv, xs, rfl, hkj, hjl, haj, hnm, hpa, hN0, hN1, hkids, hsz, hap⟩ := hrel
    have hnvr := hap.owns
    obtain ⟨nja, njcap, rfl⟩ := owns_slice hnvr
    have htsr : wr.ownsRow Bt 121 3 (.slice (some ⟨g, 0, none⟩) ts.length tcap) ts.length (toksCells ts) := hap.kept.owns Hts.out (fun k hk => by
      obtain ⟨cur, hc⟩ := owns_terms Hts.out k hk
      exact owns_apart Hnv.out (by decide) hc)
    cases hdj : ts.drop j with
    | nil => rw [hdj] at hpa; cases gk <;> simp [pargs] at hpa
    | cons x xr =>
      obtain ⟨hx, hxr, hxl⟩ := drop_at hdj
      obtain ⟨g', tcap', he, hg2, x0, _, _⟩ := tok_at htsr hx
      simp only [Value.slice.injEq, Option.some.injEq, Addr.mk.injEq] at he
      obtain ⟨⟨rfl, _⟩, _, rfl⟩ := he
      obtain ⟨cva, cvcap, rfl⟩ := owns_slice hkids.owns
      have n10 : wr.cell? ⟨w.heap.size + 1, 0, none⟩ = some (.string ⟨t.text.toArray⟩) := cell_of_block hN1 0 _ rfl
      have n11 : wr.cell? ⟨w.heap.size + 1, 1, none⟩ = some (.int .i64 0) := cell_of_block hN1 1 _ rfl
      have n12 : wr.cell? ⟨w.heap.size + 1, 2, none⟩ = some (.slice cva acc.length cvcap) := cell_of_block hN1 2 _ rfl
      cases gk with
      | zero => simp [pargs] at hpa
      | succ gk =>
        rw [hdj, pargs] at hpa
        by_cases h41 : x.kind = 41
        · rw [if_pos h41] at hpa
          simp only [Option.some.injEq] at hpa
          have n00 : wr.cell? ⟨w.heap.size, 0, none⟩ = some (.string ⟨#[]⟩) := cell_of_block hN0 0 _ rfl
          have n01 : wr.cell? ⟨w.heap.size, 1, none⟩ = some (.int .i64 0) := cell_of_block hN0 1 _ rfl
          have n02 : wr.cell? ⟨w.heap.size, 2, none⟩ = some (.slice none 0 0) := cell_of_block hN0 2 _ rfl
          have z0 := fun i => thawed_of_block hN0 i
          have k41 : ((x.kind : Int) != 41) = false := by rw [h41]; rfl
          have Hkids := hide' hkids
          have Hap := hide' hap
          have Hx := hide' hxr
          have Hpa := hide' hpa
          have HN0 := hide' hN0
          clear hkids hap hxr hpa hdj hx hN0 hN1 hnvr htsr
          go_wp2
          refine bodyPost_ret (v := .tuple #[.agg #[.string ⟨t.text.toArray⟩, .int .i64 0, .slice cva acc.length cvcap], .int .i64 ((j + 1 : Nat) : Int), .slice nja nms.length njcap]) (by simp [results, Tryz.results62, go_sem, n00, n01, n02, z0]) rfl ?_
          have hk5 := (((Kept.refl (only w.heap.size) wr).put 0 (.string ⟨t.text.toArray⟩)).put 1 (.int .i64 0)).put 2 (.slice cva acc.length cvcap)
          have hs5 := hk5.size
          rw [← Hpa.out]
          refine ⟨_, _, _, _, j + 1, rfl, Hx.out.symm, by omega, by omega, Or.inr ⟨t.text, acc, xs, hne, rfl, rfl, rfl, ?_, ?_, ?_⟩, ?_⟩
          · refine owns_base (hk5.owns Hkids.out.owns (fun k hk e => ?_)) (by omega)
            have e : k = w.heap.size := e
            have := (Hkids.out.owns.lt k hk).1
            omega
          · intro k hk
            have := (Hkids.out.owns.lt k hk).2
            omega
          · intro i l' hl'
            obtain ⟨a', b', c', l1, h1, y1, y2, y3, g1, g2, g3, g4⟩ := Hkids.out.all i l' hl'
            refine ⟨a', b', c', y1, y2, y3, (RepT.later f g4 (fun k hk1 hk2 _ => hk5.block k (by omega) (fun e => ?_))).wide f (by omega) (by omega)⟩
            have e : k = w.heap.size := e
            omega
          · refine Hap.out.around (Kept.refl _ w) (fun k e => (Hnv.out.lt k e).2) hk5 (fun k e => Nat.le_of_eq (Eq.symm e)) ?_
            intro k hk e
            have e : k = w.heap.size := e
            subst e
            exact owns_apart Hap.out.owns (by decide) HN0.out hk
        · rw [if_neg h41] at hpa
          cases hpt : pterm f xr nms with
          | none => rw [hpt] at hpa; simp at hpa
          | some r' =>
            rw [hpt] at hpa
            simp only at hpa
            obtain ⟨nb, hb1, hb2, hb3, hb4⟩ := pterm_behind f xr nms r' hpt
            have hI := Hih.out wr ts (j + 1) (.slice (some ⟨g, 0, none⟩) ts.length tcap) Bt B nms (.slice nja nms.length njcap) r' (by rw [hxr]; exact hpt) htsr hnvr (by omega) hl (by omega) htx htn
            rw [show ((j + 1 : Nat) : Int) = (j : Int) + 1 from by omega] at hI
            have k41 : ((x.kind : Int) != 41) = true := by rw [bne_iff_ne]; omega
            have HI := hide' hI
            have Hkids := hide' hkids
            have Hap := hide' hap
            have Hpa := hide' hpa
            have HN0 := hide' hN0
            have HN1 := hide' hN1
            have Hnvr := hide' hnvr
            have hxrl : xr.length = ts.length - (j + 1) := by rw [← hxr]; simp
            have Hb3 := hide' hb3
            clear hkids hap hpa hdj hx hN0 hN1 hnvr htsr hI hpt hxr hb3
            go_wp2_with fail
            refine HI.out.mono ?_
            rintro e w1 ⟨a, b, c, nv', j', rfl, hrest, hj1, hj2, hrep, hap1⟩
            obtain ⟨sa, bn, ca, cl, cc, rfl, rfl, rfl⟩ := hrep.shape
            obtain ⟨nva, nvcap, rfl⟩ := owns_slice hap1.owns
            have hN1' : w1.heap[w.heap.size + 1]? = some (.cells #[.string ⟨t.text.toArray⟩, .int .i64 0, .slice cva acc.length cvcap] 74 (0, 0)) := (hap1.kept.block _ (by omega) (owns_apart Hnvr.out (by decide) HN1.out)).trans HN1.out
            have hN0' := (hap1.kept.block _ (by omega) (owns_apart Hnvr.out (by decide) HN0.out)).trans HN0.out
            have hcvown : w1.ownsRow (w.heap.size + 2) 74 3 (.slice cva acc.length cvcap) acc.length xs := hap1.kept.owns Hkids.out.owns (fun k hk => by
              obtain ⟨cur, hc⟩ := owns_terms Hkids.out.owns k hk
              exact owns_apart Hnvr.out (by decide) hc)
            have m12 : w1.cell? ⟨w.heap.size + 1, 2, none⟩ = some (.slice cva acc.length cvcap) := cell_of_block hN1' 2 _ rfl
            have hsz1 := hap1.kept.size
            have hlt1 : w.heap.size + 1 < w1.heap.size := lt_of_block hN1'
            have Hcv := hide' hcvown
            have HN1' := hide' hN1'
            have HN0' := hide' hN0'
            have Hrep := hide' hrep
            have Hap1 := hide' hap1
            have Hrest := hide' hrest
            clear hcvown hN1' hN0' hrep hap1 hrest n10 n11 n12 x0 t0 t1 t2 u0
            go_wp2_with (at_builtin; refine wpList_append1 _ rfl (.tmp 69) (.tmp 71) 44 rfl (w.heap.size + 2) 74 Tryz.infoTerm Tryz.underlying44 rfl (by decide) _ acc.length xs rfl (Hcv.out.alloc _) _ rfl (by simp) rfl term_one ?_ ?_ ?_)
            · omega
            · simp; omega
            intro cv' w3 hap3
            obtain ⟨c3a, c3cap, rfl⟩ := owns_slice hap3.owns
            have hnot : ¬ ownOf (.slice cva acc.length cvcap) (w.heap.size + 1) := fun e => by have := (Hkids.out.owns.lt _ e).1; omega
            have hnot0 : ¬ ownOf (.slice cva acc.length cvcap) w.heap.size := fun e => by have := (Hkids.out.owns.lt _ e).1; omega
            have hblk3 : w3.heap[w.heap.size + 1]? = some (.cells #[.string ⟨t.text.toArray⟩, .int .i64 0, .slice cva acc.length cvcap] 74 (0, 0)) := (hap3.kept.block _ (by simp; omega) hnot).trans (block_alloc HN1'.out _)
            have p2 : w3.cell? ⟨w.heap.size + 1, 2, none⟩ = some (.slice cva acc.length cvcap) := cell_of_block hblk3 2 _ rfl
            have pf := fun i => thawed_of_block hblk3 i
            have Hblk3 := hide' hblk3
            have Hap3 := hide' hap3
            clear hblk3 hap3 m12
            go_wp2
            go_roundg gk
            case measure => omega
            case rel =>
              obtain ⟨hkids', hk14⟩ := Hkids.out.step (N := w.heap.size + 1) (by omega) (by omega) Hnvr.out Hap1.out Hrep.out Hap3.out (.slice c3a (acc.length + 1) c3cap)
              have hs14 := hk14.size
              have hj3 : j' = j + 1 + nb := by
                have h1 := congrArg List.length Hrest.out
                rw [Hb3.out] at h1
                simp only [List.length_drop] at h1
                omega
              refine ⟨j', r'.2.2, acc ++ [r'.1], .slice c3a (acc.length + 1) c3cap, _, rfl, by omega, by omega, by simp; omega, by omega, by rw [← Hrest.out]; exact Hpa.out, ?_, ?_, hkids', by omega, ?_⟩
              · refine (hk14.block _ (by omega) (fun h => ?_)).trans HN0'.out
                rcases h with h | h
                · exact hnot0 h
                · omega
              · exact block_set Hblk3.out 2 _
              · refine (Hap.out.trans Hap1.out).around (Kept.refl _ w) (fun k e => (Hnv.out.lt k e).2) hk14 (fun k h => ?_) (fun k hk h => ?_)
                · rcases h with h | h
                  · have := (Hkids.out.owns.lt k h).1; omega
                  · omega
                · rcases h with h | h
                  · obtain ⟨cur, hc⟩ := owns_terms Hcv.out k h
                    exact owns_apart Hap1.out.owns (by decide) hc hk
                  · subst h
                    exact owns_apart Hap1.out.owns (by decide) HN1'.out hk

theorem term_any : ∀ f, TermSaid f := by
  intro f
  induction f with
  | zero => intro w ts k tv Bt B names nv r h; simp [pterm] at h
  | succ f ih =>
    intro w ts k tv Bt B names nv r h hts hnv hB hl hn htx htn
    cases hd : ts.drop k with
    | nil => rw [hd] at h; simp [pterm] at h
    | cons t tr =>
      rw [hd, pterm] at h
      by_cases h2 : t.kind = 2
      · rw [if_pos h2] at h
        simp only [Option.some.injEq] at h
        subst h
        exact term_var f w ts k tv Bt B names nv t tr hd h2 hts hnv hB hl hn htx
      · rw [if_neg h2] at h
        cases tr with
        | nil => simp [pname] at h
        | cons u us =>
          obtain ⟨ht, hr, hk⟩ := drop_at hd
          obtain ⟨_, _, hk'⟩ := drop_at hr
          have hne := htn k t ht (by omega)
          rw [pname] at h
          by_cases h40 : u.kind = 40
          · rw [if_neg (by simp [h40])] at h
            rw [Option.map_eq_some_iff] at h
            obtain ⟨q, hq, rfl⟩ := h
            exact term_args f ih w ts k tv Bt B names nv t u us q hd h2 h40 hq hts hnv hB hl hn htx hne htn
          · rw [if_pos h40] at h
            simp only [Option.some.injEq] at h
            subst h
            exact term_name f w ts k tv Bt B names nv t u us hd h2 h40 hts hnv hB hl hne

end Go.Proofs.YtcbckkenifmchaaGreatDoor
