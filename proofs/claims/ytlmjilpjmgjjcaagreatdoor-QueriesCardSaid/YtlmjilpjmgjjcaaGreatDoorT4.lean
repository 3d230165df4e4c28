/-
  PROVED HERE: what the reference's 'listed' writes of terms that lie in memory (the conditions stand in the statement). what the reference's 'term' reads out of a row of tokens, whatever term stands there (the conditions stand in the statement). what the reference's 'terms' reads out of a row of tokens (the conditions stand in the statement). what the reference function over answers of a row of tokens of a query (its conditions stand in the statement); nothing that was there turns. what the reference's 'ReadQuery' and 'Query' answer (the conditions stand in each statement). what the reference's 'Query' answers, under the one condition that a query that is let by can be read (which is shown elsewhere). what the reference's 'ReadProgram' reads out of a text (the conditions stand in each statement).
-/
import Derived.Test.YtlmjilpjmgjjcaaGreatDoorT3
namespace Go.Proofs.YtlmjilpjmgjjcaaGreatDoor
open Go.RowKit
set_option linter.unusedSimpArgs false
set_option linter.unusedVariables false

/-- Terms, with a comma and a blank between. -/
def wlisted (f : Nat) : List UInt8 → List (List Sym) → List Nat → List UInt8
  | _, [], _ => []
  | sep, l :: ls, seen => sep ++ (wterm f l seen).1 ++ wlisted f [44, 32] ls (wterm f l seen).2.1

theorem wlisted_len (f : Nat) : ∀ (ls : List (List Sym)), (∀ l' ∈ ls, IsT f l') → (∀ s ∈ ls.flatten, s.name.length ≤ 4096) → ∀ sep seen, sep.length ≤ 2 → seen.length + ls.flatten.length ≤ 4000 → (wlisted f sep ls seen).length ≤ 4101 * ls.flatten.length := by
  intro ls
  induction ls with
  | nil => intro _ _ sep seen _ _; simp [wlisted]
  | cons l ls ih =>
    intro h hn sep seen hsep hs
    simp only [List.flatten_cons, List.length_append] at hs
    have h1 := wterm_len f l (h l (by simp)) (fun s hs => hn s (by simp [hs])) seen (by omega)
    have h2 := ih (fun l' hl => h l' (by simp [hl])) (fun s hs => hn s (by simp only [List.flatten_cons, List.mem_append]; exact Or.inr hs)) [44, 32] (wterm f l seen).2.1 (by simp) (by omega)
    have h3 := isT_pos f l (h l (by simp))
    simp only [wlisted, List.length_append, List.flatten_cons]
    omega

theorem Kids.isT {f : Nat} {w : World} {lo : Nat} {cv : Value} {ls : List (List Sym)} {xs : List Value} (h : Kids f w lo cv ls xs) : ∀ l' ∈ ls, IsT f l' := fun l' hl => by
  obtain ⟨i, hi, rfl⟩ := List.getElem_of_mem hl
  obtain ⟨a', b', c', _, _, _, _, _, _, _, _, g⟩ := h.all i _ (List.getElem?_eq_getElem hi)
  exact g.isT f

set_option maxRecDepth 10000 in
set_option maxHeartbeats 1000000 in
theorem listed_any (f : Nat) (w : World) (c : Value) (B : Nat) (seen : List Nat) (sv : Value) (lo : Nat) (xs : List Value) (ls : List (List Sym)) (hk : Kids f w lo c ls xs)
    (hsv : w.ownsRow B 3 1 sv seen.length (ints seen)) (hB : B ≤ w.heap.size) (hsn : ∀ s ∈ ls.flatten, s.name.length ≤ 4096) (hsl : seen.length + ls.flatten.length ≤ 3999) :
    Calls Tryz.prog 108 #[c, sv] w fun e w' => e = .returned (.string ⟨(wlisted f [] ls seen ++ [46]).toArray⟩) ∧ Kept (ownOf sv) w w' := by
  obtain ⟨sa, scap, rfl⟩ := owns_slice hsv
  obtain ⟨ca, ccap, rfl⟩ := owns_slice hk.owns
  have Hsv := hide' hsv
  have Hk := hide' hk
  have Hih := hide' (written_any f)
  have hfl := flat_len f ls hk.isT
  have Hlen := hide' (wlisted_len f ls hk.isT hsn [] seen (by simp) (by omega))
  clear hsv hk
  go_enter Tryz.func108, Tryz.ntmps108
  go_wp2
  go_loopw [1, 5, 6] (fun sl tx i wr => ∃ (k : Nat) (sk : List Nat) (dt : List UInt8), k ≤ ls.length ∧ i = .int .i64 k ∧ tx = .string ⟨dt.toArray⟩ ∧
      dt ++ (wlisted f (if k = 0 then [] else [44, 32]) (ls.drop k) sk) = wlisted f [] ls seen ∧
      sk.length + (ls.drop k).flatten.length ≤ 3999 ∧ Appended w B 3 1 (.slice sa seen.length scap) sk.length (ints sk) sl wr) (fun _ _ i _ => ls.length - (intOf i).toNat)
  case atStart => exact ⟨0, seen, [], Nat.zero_le _, rfl, by simp, by simp, by simpa using hsl, ⟨Hsv.out, Kept.refl _ w, Or.inl rfl⟩⟩
  case round =>
    obtain ⟨k, sk, dt, hk, rfl, rfl, hdt, hsk, hap⟩ := hrel
    obtain ⟨ska, skcap, rfl⟩ := owns_slice hap.owns
    have hdl : dt.length ≤ 50000000 := by
      have h1 := congrArg List.length hdt
      have h2 := Hlen.out
      simp only [List.length_append] at h1
      omega
    have Hap := hide' hap
    have Hdt := hide' hdt
    have hszr := hap.kept.size
    clear hap hdt
    by_cases hlt : k < ls.length
    · obtain ⟨l', hl'⟩ : ∃ l', ls[k]? = some l' := ⟨_, List.getElem?_eq_getElem hlt⟩
      have hdk : ls.drop k = l' :: ls.drop (k + 1) := by
        rw [List.drop_eq_getElem_cons hlt]
        rw [(List.getElem?_eq_some_iff.1 hl').2]
      obtain ⟨g, ccap', ccur, he, hgl, hgb, hgc⟩ := owns_some Hk.out.owns (by omega)
      simp only [Value.slice.injEq] at he
      obtain ⟨rfl, _, rfl⟩ := he
      obtain ⟨a', b', c', l1, h1, x0, x1, x2, g1, g2, g3, hrep⟩ := Hk.out.all k l' hl'
      obtain ⟨s0, n0, c0a, c0l, c0c, rfl, rfl, rfl⟩ := hrep.shape
      have hkeep : ∀ (k : Nat), isTerms w k → wr.heap[k]? = w.heap[k]? := fun k ht => by
        obtain ⟨cur, hcur⟩ := ht
        exact Hap.out.kept.block k (lt_of_block hcur) (owns_apart Hsv.out (by decide) hcur)
      have hcr : wr.ownsRow lo 183 3 (.slice (some ⟨g, 0, none⟩) ls.length ccap) ls.length xs := owns_same Hk.out.owns (fun k e => hkeep k (owns_terms Hk.out.owns k e))
      have hrepr : RepT f wr l1 h1 _ _ _ l' := hrep.later f (fun k _ _ ht => hkeep k ht)
      have y0 : wr.cell? ⟨g, k * 3, none⟩ = some (.string s0) := owns_cell hcr _ _ x0
      have y1 : wr.cell? ⟨g, k * 3 + 1, none⟩ = some (.int .i64 n0) := owns_cell hcr _ _ x1
      have y2 : wr.cell? ⟨g, k * 3 + 2, none⟩ = some (.slice c0a c0l c0c) := owns_cell hcr _ _ x2
      have hsub : ∀ s ∈ l', s.name.length ≤ 4096 := fun s hs => hsn s (List.mem_flatten.2 ⟨l', List.mem_of_getElem? hl', hs⟩)
      have hsl2 : sk.length + l'.length + (ls.drop (k + 1)).flatten.length ≤ 3999 := by
        rw [hdk] at hsk
        simp only [List.flatten_cons, List.length_append] at hsk
        omega
      have hwl := wterm_len f l' (hrep.isT f) hsub sk (by omega)
      have hwl1 : (wterm f l' sk).1.length ≤ 50000000 := by omega
      have HI := hide' (Hih.out wr l1 h1 _ _ _ l' B sk _ hrepr Hap.out.owns (by omega) hsub (by omega))
      have Hdk := hide' hdk
      have Hwl := hide' hwl
      clear x0 x1 x2 hrep hkeep hcr hrepr hdk hwl hl' g1 g2 g3 hgb
      by_cases h0 : k = 0
      · have hk0 : ¬ (0 : Int) < (k : Int) := by omega
        have Hd0 : Hid ((dt ++ (wterm f l' sk).1) ++ wlisted f [44, 32] (ls.drop (k + 1)) (wterm f l' sk).2.1 = wlisted f [] ls seen) := by
          have h1 := Hdt.out
          rw [Hdk.out, if_pos h0] at h1
          simp only [wlisted] at h1
          show _ = _
          rw [← h1]; simp
        have Hstr := hide' (str_cat dt (wterm f l' sk).1)
        have H0 := hide' h0
        clear h0
        go_wp2_with fail
        refine HI.out.mono ?_
        rintro e w1 ⟨sv', rfl, hap1⟩
        obtain ⟨s1a, s1cap, rfl⟩ := owns_slice hap1.owns
        have Hap1 := hide' hap1
        clear hap1 y0 y1 y2
        go_wp2
        go_roundw
        case rel => exact ⟨k + 1, (wterm f l' sk).2.1, dt ++ (wterm f l' sk).1, by omega, by go_num, by rw [← Hstr.out], by simpa using Hd0.out, by have := Hwl.out; omega, Hap.out.trans Hap1.out⟩
        case measure => simp [intOf]; omega
      · have hk0 : (0 : Int) < (k : Int) := by omega
        have Hd0 : Hid ((dt ++ [44, 32] ++ (wterm f l' sk).1) ++ wlisted f [44, 32] (ls.drop (k + 1)) (wterm f l' sk).2.1 = wlisted f [] ls seen) := by
          have h1 := Hdt.out
          rw [Hdk.out, if_neg h0] at h1
          simp only [wlisted] at h1
          show _ = _
          rw [← h1]; simp
        have Hstr : Hid ((⟨dt.toArray⟩ : ByteArray) ++ ⟨[44, 32].toArray⟩ ++ ⟨(wterm f l' sk).1.toArray⟩ = ⟨(dt ++ [44, 32] ++ (wterm f l' sk).1).toArray⟩) := by
          show _ = _; rw [str_cat, str_cat]
        go_wp2_with fail
        refine HI.out.mono ?_
        rintro e w1 ⟨sv', rfl, hap1⟩
        obtain ⟨s1a, s1cap, rfl⟩ := owns_slice hap1.owns
        have Hap1 := hide' hap1
        clear hap1 y0 y1 y2
        go_wp2
        go_roundw
        case rel => exact ⟨k + 1, (wterm f l' sk).2.1, dt ++ [44, 32] ++ (wterm f l' sk).1, by omega, by go_num, by rw [← Hstr.out], by simpa using Hd0.out, by have := Hwl.out; omega, Hap.out.trans Hap1.out⟩
        case measure => simp [intOf]; omega
    · have Hend : Hid (wlisted f [] ls seen = dt) := by
        have h1 := Hdt.out
        rw [List.drop_eq_nil_of_le (by omega)] at h1
        simp only [wlisted, List.append_nil] at h1
        exact h1.symm
      go_wp2
      go_ret
      rw [Hend.out]
      exact ⟨ret_str (str_cat dt [46]), Hap.out.kept⟩

end Go.Proofs.YtlmjilpjmgjjcaaGreatDoor

namespace Go.Proofs.YtlmjilpjmgjjcaaGreatDoor
open Go.RowKit
set_option linter.unusedSimpArgs false
set_option linter.unusedVariables false

set_option maxRecDepth 10000 in
set_option maxHeartbeats 1000000 in
theorem term_args (f : Nat) (IH : TermSaid f) (w : World) (ts : List Tok) (k : Nat) (tv : Value) (Bt B : Nat) (names : Names) (nv : Value) (t u : Tok) (r : List Tok) (q : List (List Sym) × List Tok × Names)
    (hd : ts.drop k = t :: u :: r) (hkd : t.kind ≠ 2) (hku : u.kind = 40) (hq : pargs (pterm f) (r.length + 1) (u :: r) names [] = some q) (hts : w.ownsRow Bt 243 3 tv ts.length (toksCells ts))
    (hnv : w.ownsRow B 9 1 nv names.length (strs names)) (hB : B ≤ w.heap.size) (hl : ts.length ≤ 1000) (hn : names.length + (ts.length - k) ≤ 1000) (htx : ∀ t ∈ ts, t.text.length ≤ 4096)
    (hne : t.text ≠ []) (htn : ∀ i t, ts[i]? = some t → i + 1 < ts.length → t.text ≠ []) :
    Calls Tryz.prog 143 #[tv, .int .i64 k, nv] w fun e w' => ∃ a b c nv' j, e = .returned (.tuple #[.agg #[a, b, c], .int .i64 (j : Nat), nv']) ∧ q.2.1 = ts.drop j ∧ k < j ∧ j ≤ ts.length ∧
      RepT (f + 1) w' w.heap.size w'.heap.size a b c (⟨t.text, 0, q.1.length⟩ :: q.1.flatten) ∧ Appended w B 9 1 nv q.2.2.length (strs q.2.2) nv' w' := by
  obtain ⟨ht, hr, hk⟩ := drop_at hd
  obtain ⟨hu, hr', hk'⟩ := drop_at hr
  obtain ⟨g, tcap, rfl, hg, t0, t1, t2⟩ := tok_at hts ht
  obtain ⟨g', tcap', he, hg', u0, u1, u2⟩ := tok_at hts hu
  simp only [Value.slice.injEq, Option.some.injEq, Addr.mk.injEq] at he
  obtain ⟨⟨rfl, _⟩, _, rfl⟩ := he
  have k2 : ((t.kind : Int) == 2) = false := by rw [beq_eq_false_iff_ne]; omega
  rw [hku] at u0
  have Hq : Hid (pargs (pterm f) (r.length + 1) (ts.drop (k + 1)) names [] = some q) := by show _ = _; rw [hr]; exact hq
  have Hnv := hide' hnv
  have Hts := hide' hts
  have Hih := hide' IH
  have Hap0 : Hid (∀ o o', Appended w B 9 1 nv names.length (strs names) nv ((w.alloc o).alloc o')) := fun o o' => ⟨(hnv.alloc _).alloc _, ((Kept.refl _ w).alloc _).alloc _, Or.inl rfl⟩
  obtain ⟨na, ncap, rfl⟩ := owns_slice hnv
  clear hd hts hnv ht hr hu hr' hq IH u1 u2
  go_enter Tryz.func143, Tryz.ntmps143
  go_wp2
  go_loopg [1, 2] (r.length + 1) (fun gk i nm wr => ∃ (j : Nat) (nms : Names) (acc : List (List Sym)) (cv : Value) (xs : List Value), i = .int .i64 (j : Nat) ∧ k < j ∧ j ≤ ts.length ∧ acc.length ≤ j ∧ nms.length + (ts.length - j) ≤ 1000 ∧
      pargs (pterm f) gk (ts.drop j) nms acc = some q ∧ wr.heap[w.heap.size]? = some (.cells #[.string ⟨#[]⟩, .int .i64 0, .slice none 0 0] 183 (0, 0)) ∧
      wr.heap[w.heap.size + 1]? = some (.cells #[.string ⟨t.text.toArray⟩, .int .i64 0, cv] 183 (0, 0)) ∧ Kids f wr (w.heap.size + 2) cv acc xs ∧ w.heap.size + 2 ≤ wr.heap.size ∧
      Appended w B 9 1 (.slice na names.length ncap) nms.length (strs nms) nm wr)
  case atStart =>
    exact ⟨k + 1, names, [], .slice none 0 0, [], by go_num, by omega, by omega, by simp, by omega, Hq.out, block_alloc (heap_alloc_new w _) _, by simpa using heap_alloc_new (w.alloc _) _, Kids.nil _ _ _, by simp, Hap0.out _ _⟩
  case round =>
    obtain ⟨j, nms, acc, cv, xs, rfl, hkj, hjl, haj, hnm, hpa, hN0, hN1, hkids, hsz, hap⟩ := hrel
    have hnvr := hap.owns
    obtain ⟨nja, njcap, rfl⟩ := owns_slice hnvr
    have htsr : wr.ownsRow Bt 243 3 (.slice (some ⟨g, 0, none⟩) ts.length tcap) ts.length (toksCells ts) := hap.kept.owns Hts.out (fun k hk => by
      obtain ⟨cur, hc⟩ := owns_terms Hts.out k hk
      exact owns_apart Hnv.out (by decide) hc)
    cases hdj : ts.drop j with
    | nil => rw [hdj] at hpa; cases gk <;> simp [pargs] at hpa
    | cons x xr =>
      obtain ⟨hx, hxr, hxl⟩ := drop_at hdj
      obtain ⟨g', tcap', he, hg2, x0, _, _⟩ := tok_at htsr hx
      simp only [Value.slice.injEq, Option.some.injEq, Addr.mk.injEq] at he
      obtain ⟨⟨rfl, _⟩, _, rfl⟩ := he
      obtain ⟨cva, cvcap, rfl⟩ := owns_slice hkids.owns
      have n10 : wr.cell? ⟨w.heap.size + 1, 0, none⟩ = some (.string ⟨t.text.toArray⟩) := cell_of_block hN1 0 _ rfl
      have n11 : wr.cell? ⟨w.heap.size + 1, 1, none⟩ = some (.int .i64 0) := cell_of_block hN1 1 _ rfl
      have n12 : wr.cell? ⟨w.heap.size + 1, 2, none⟩ = some (.slice cva acc.length cvcap) := cell_of_block hN1 2 _ rfl
      cases gk with
      | zero => simp [pargs] at hpa
      | succ gk =>
        rw [hdj, pargs] at hpa
        by_cases h41 : x.kind = 41
        · rw [if_pos h41] at hpa
          simp only [Option.some.injEq] at hpa
          have n00 : wr.cell? ⟨w.heap.size, 0, none⟩ = some (.string ⟨#[]⟩) := cell_of_block hN0 0 _ rfl
          have n01 : wr.cell? ⟨w.heap.size, 1, none⟩ = some (.int .i64 0) := cell_of_block hN0 1 _ rfl
          have n02 : wr.cell? ⟨w.heap.size, 2, none⟩ = some (.slice none 0 0) := cell_of_block hN0 2 _ rfl
          have z0 := fun i => thawed_of_block hN0 i
          have k41 : ((x.kind : Int) != 41) = false := by rw [h41]; rfl
          have Hkids := hide' hkids
          have Hap := hide' hap
          have Hx := hide' hxr
          have Hpa := hide' hpa
          have HN0 := hide' hN0
          clear hkids hap hxr hpa hdj hx hN0 hN1 hnvr htsr
          go_wp2
          refine bodyPost_ret (v := .tuple #[.agg #[.string ⟨t.text.toArray⟩, .int .i64 0, .slice cva acc.length cvcap], .int .i64 ((j + 1 : Nat) : Int), .slice nja nms.length njcap]) (by simp [results, Tryz.results143, go_sem, n00, n01, n02, z0]) rfl ?_
          have hk5 := (((Kept.refl (only w.heap.size) wr).put 0 (.string ⟨t.text.toArray⟩)).put 1 (.int .i64 0)).put 2 (.slice cva acc.length cvcap)
          have hs5 := hk5.size
          rw [← Hpa.out]
          refine ⟨_, _, _, _, j + 1, rfl, Hx.out.symm, by omega, by omega, Or.inr ⟨t.text, acc, xs, hne, rfl, rfl, rfl, ?_, ?_, ?_⟩, ?_⟩
          · refine owns_base (hk5.owns Hkids.out.owns (fun k hk e => ?_)) (by omega)
            have e : k = w.heap.size := e
            have := (Hkids.out.owns.lt k hk).1
            omega
          · intro k hk
            have := (Hkids.out.owns.lt k hk).2
            omega
          · intro i l' hl'
            obtain ⟨a', b', c', l1, h1, y1, y2, y3, g1, g2, g3, g4⟩ := Hkids.out.all i l' hl'
            refine ⟨a', b', c', y1, y2, y3, (RepT.later f g4 (fun k hk1 hk2 _ => hk5.block k (by omega) (fun e => ?_))).wide f (by omega) (by omega)⟩
            have e : k = w.heap.size := e
            omega
          · refine Hap.out.around (Kept.refl _ w) (fun k e => (Hnv.out.lt k e).2) hk5 (fun k e => Nat.le_of_eq (Eq.symm e)) ?_
            intro k hk e
            have e : k = w.heap.size := e
            subst e
            exact owns_apart Hap.out.owns (by decide) HN0.out hk
        · rw [if_neg h41] at hpa
          cases hpt : pterm f xr nms with
          | none => rw [hpt] at hpa; simp at hpa
          | some r' =>
            rw [hpt] at hpa
            simp only at hpa
            obtain ⟨nb, hb1, hb2, hb3, hb4⟩ := pterm_behind f xr nms r' hpt
            have hI := Hih.out wr ts (j + 1) (.slice (some ⟨g, 0, none⟩) ts.length tcap) Bt B nms (.slice nja nms.length njcap) r' (by rw [hxr]; exact hpt) htsr hnvr (by omega) hl (by omega) htx htn
            rw [show ((j + 1 : Nat) : Int) = (j : Int) + 1 from by omega] at hI
            have k41 : ((x.kind : Int) != 41) = true := by rw [bne_iff_ne]; omega
            have HI := hide' hI
            have Hkids := hide' hkids
            have Hap := hide' hap
            have Hpa := hide' hpa
            have HN0 := hide' hN0
            have HN1 := hide' hN1
            have Hnvr := hide' hnvr
            have hxrl : xr.length = ts.length - (j + 1) := by rw [← hxr]; simp
            have Hb3 := hide' hb3
            clear hkids hap hpa hdj hx hN0 hN1 hnvr htsr hI hpt hxr hb3
            go_wp2_with fail
            refine HI.out.mono ?_
            rintro e w1 ⟨a, b, c, nv', j', rfl, hrest, hj1, hj2, hrep, hap1⟩
            obtain ⟨sa, bn, ca, cl, cc, rfl, rfl, rfl⟩ := hrep.shape
            obtain ⟨nva, nvcap, rfl⟩ := owns_slice hap1.owns
            have hN1' : w1.heap[w.heap.size + 1]? = some (.cells #[.string ⟨t.text.toArray⟩, .int .i64 0, .slice cva acc.length cvcap] 183 (0, 0)) := (hap1.kept.block _ (by omega) (owns_apart Hnvr.out (by decide) HN1.out)).trans HN1.out
            have hN0' := (hap1.kept.block _ (by omega) (owns_apart Hnvr.out (by decide) HN0.out)).trans HN0.out
            have hcvown : w1.ownsRow (w.heap.size + 2) 183 3 (.slice cva acc.length cvcap) acc.length xs := hap1.kept.owns Hkids.out.owns (fun k hk => by
              obtain ⟨cur, hc⟩ := owns_terms Hkids.out.owns k hk
              exact owns_apart Hnvr.out (by decide) hc)
            have m12 : w1.cell? ⟨w.heap.size + 1, 2, none⟩ = some (.slice cva acc.length cvcap) := cell_of_block hN1' 2 _ rfl
            have hsz1 := hap1.kept.size
            have hlt1 : w.heap.size + 1 < w1.heap.size := lt_of_block hN1'
            have Hcv := hide' hcvown
            have HN1' := hide' hN1'
            have HN0' := hide' hN0'
            have Hrep := hide' hrep
            have Hap1 := hide' hap1
            have Hrest := hide' hrest
            clear hcvown hN1' hN0' hrep hap1 hrest n10 n11 n12 x0 t0 t1 t2 u0
            go_wp2_with (at_builtin; refine wpList_append1 _ rfl (.tmp 69) (.tmp 71) 146 rfl (w.heap.size + 2) 183 Tryz.infoTerm Tryz.underlying146 rfl (by decide) _ acc.length xs rfl (Hcv.out.alloc _) _ rfl (by simp) rfl term_one ?_ ?_ ?_)
            · omega
            · simp; omega
            intro cv' w3 hap3
            obtain ⟨c3a, c3cap, rfl⟩ := owns_slice hap3.owns
            have hnot : ¬ ownOf (.slice cva acc.length cvcap) (w.heap.size + 1) := fun e => by have := (Hkids.out.owns.lt _ e).1; omega
            have hnot0 : ¬ ownOf (.slice cva acc.length cvcap) w.heap.size := fun e => by have := (Hkids.out.owns.lt _ e).1; omega
            have hblk3 : w3.heap[w.heap.size + 1]? = some (.cells #[.string ⟨t.text.toArray⟩, .int .i64 0, .slice cva acc.length cvcap] 183 (0, 0)) := (hap3.kept.block _ (by simp; omega) hnot).trans (block_alloc HN1'.out _)
            have p2 : w3.cell? ⟨w.heap.size + 1, 2, none⟩ = some (.slice cva acc.length cvcap) := cell_of_block hblk3 2 _ rfl
            have pf := fun i => thawed_of_block hblk3 i
            have Hblk3 := hide' hblk3
            have Hap3 := hide' hap3
            clear hblk3 hap3 m12
            go_wp2
            go_roundg gk
            case measure => omega
            case rel =>
              obtain ⟨hkids', hk14⟩ := Hkids.out.step (N := w.heap.size + 1) (by omega) (by omega) Hnvr.out Hap1.out Hrep.out Hap3.out (.slice c3a (acc.length + 1) c3cap)
              have hs14 := hk14.size
              have hj3 : j' = j + 1 + nb := by
                have h1 := congrArg List.length Hrest.out
                rw [Hb3.out] at h1
                simp only [List.length_drop] at h1
                omega
              refine ⟨j', r'.2.2, acc ++ [r'.1], .slice c3a (acc.length + 1) c3cap, _, rfl, by omega, by omega, by simp; omega, by omega, by rw [← Hrest.out]; exact Hpa.out, ?_, ?_, hkids', by omega, ?_⟩
              · refine (hk14.block _ (by omega) (fun h => ?_)).trans HN0'.out
                rcases h with h | h
                · exact hnot0 h
                · omega
              · exact block_set Hblk3.out 2 _
              · refine (Hap.out.trans Hap1.out).around (Kept.refl _ w) (fun k e => (Hnv.out.lt k e).2) hk14 (fun k h => ?_) (fun k hk h => ?_)
                · rcases h with h | h
                  · have := (Hkids.out.owns.lt k h).1; omega
                  · omega
                · rcases h with h | h
                  · obtain ⟨cur, hc⟩ := owns_terms Hcv.out k h
                    exact owns_apart Hap1.out.owns (by decide) hc hk
                  · subst h
                    exact owns_apart Hap1.out.owns (by decide) HN1'.out hk

theorem term_any : ∀ f, TermSaid f := by
  intro f
  induction f with
  | zero => intro w ts k tv Bt B names nv r h; simp [pterm] at h
  | succ f ih =>
    intro w ts k tv Bt B names nv r h hts hnv hB hl hn htx htn
    cases hd : ts.drop k with
    | nil => rw [hd] at h; simp [pterm] at h
    | cons t tr =>
      rw [hd, pterm] at h
      by_cases h2 : t.kind = 2
      · rw [if_pos h2] at h
        simp only [Option.some.injEq] at h
        subst h
        exact term_var f w ts k tv Bt B names nv t tr hd h2 hts hnv hB hl hn htx
      · rw [if_neg h2] at h
        cases tr with
        | nil => simp [pname] at h
        | cons u us =>
          obtain ⟨ht, hr, hk⟩ := drop_at hd
          obtain ⟨_, _, hk'⟩ := drop_at hr
          have hne := htn k t ht (by omega)
          rw [pname] at h
          by_cases h40 : u.kind = 40
          · rw [if_neg (by simp [h40])] at h
            rw [Option.map_eq_some_iff] at h
            obtain ⟨q, hq, rfl⟩ := h
            exact term_args f ih w ts k tv Bt B names nv t u us q hd h2 h40 hq hts hnv hB hl hn htx hne htn
          · rw [if_pos h40] at h
            simp only [Option.some.injEq] at h
            subst h
            exact term_name f w ts k tv Bt B names nv t u us hd h2 h40 hts hnv hB hl hne

end Go.Proofs.YtlmjilpjmgjjcaaGreatDoor

namespace Go.Proofs.YtlmjilpjmgjjcaaGreatDoor
open Go.RowKit
set_option linter.unusedSimpArgs false
set_option linter.unusedVariables false

/-- A term more: the world behind the append. -/
theorem Kids.step0 {f : Nat} {wr w1 w3 : World} {lo : Nat} {nvj nv' cv cv' : Value} {B nn nn' : Nat} {ns ns' : List Value} {acc : List (List Sym)} {xs : List Value} {s : ByteArray} {n : Int} {ca : Option Addr} {cl cc : Nat} {l : List Sym} {o : Obj}
    (hk : Kids f wr lo cv acc xs) (hlo' : lo ≤ wr.heap.size) (hnv : wr.ownsRow B 9 1 nvj nn ns) (hap : Appended wr B 9 1 nvj nn' ns' nv' w1)
    (hr : RepT f w1 wr.heap.size w1.heap.size (.string s) (.int .i64 n) (.slice ca cl cc) l) (ha : Appended (w1.alloc o) lo 183 3 cv (acc.length + 1) (xs ++ [.string s, .int .i64 n, .slice ca cl cc]) cv' w3) :
    Kids f w3 lo cv' (acc ++ [l]) (xs ++ [.string s, .int .i64 n, .slice ca cl cc]) ∧ Kept (ownOf cv) w1 w3 := by
  have hcvlt : ∀ k, cv.ownBlock = some k → lo ≤ k ∧ k < wr.heap.size := hk.owns.lt
  have k13 : Kept (ownOf cv) w1 w3 := ((Kept.refl _ w1).alloc o).then ha.kept (fun _ _ e => e)
  have k14 := k13
  have hcv' : ∀ k, cv'.ownBlock = some k → (lo ≤ k ∧ k < wr.heap.size ∧ cv.ownBlock = some k) ∨ w1.heap.size < k := by
    intro k hk
    rcases ha.where_ with h | ⟨g, h, hg⟩
    · rw [hk] at h
      exact Or.inl ⟨(hcvlt k h.symm).1, (hcvlt k h.symm).2, h.symm⟩
    · rw [hk] at h
      simp at h hg
      exact Or.inr (by omega)
  have hxl : xs.length = acc.length * 3 := hk.owns.1
  have hw14 : w1.heap.size ≤ w3.heap.size := k14.size
  have hwr1 := hap.kept.size
  refine ⟨⟨?_, ?_⟩, k14⟩
  · have := ha.owns
    simpa using this
  · intro i l' hl
    rcases Nat.lt_or_ge i acc.length with hi | hi
    · rw [List.getElem?_append_left hi] at hl
      obtain ⟨a', b', c', l1, h1, x1, x2, x3, g1, g2, g3, g4⟩ := hk.all i l' hl
      refine ⟨a', b', c', l1, h1, ?_, ?_, ?_, g1, by omega, ?_, ?_⟩
      · rw [List.getElem?_append_left (by omega)]; exact x1
      · rw [List.getElem?_append_left (by omega)]; exact x2
      · rw [List.getElem?_append_left (by omega)]; exact x3
      · intro k hk' hin
        rcases hcv' k hk' with h | h
        · exact g3 k h.2.2 hin
        · omega
      · refine g4.later (w := wr) _ (fun k hk1 hk2 ht => ?_)
        obtain ⟨cur, hcur⟩ := ht
        have e1 : w1.heap[k]? = wr.heap[k]? := hap.kept.block k (by omega) (owns_apart hnv (by decide) hcur)
        have e2 := k14.block k (by omega) (fun h => g3 k h ⟨hk1, hk2⟩)
        exact e2.trans e1
    · have hi' : i = acc.length := by
        have : i < (acc ++ [l]).length := (List.getElem?_eq_some_iff.1 hl).1
        simp at this; omega
      subst hi'
      simp at hl
      subst hl
      refine ⟨.string s, .int .i64 n, .slice ca cl cc, wr.heap.size, w1.heap.size, ?_, ?_, ?_, hlo', by omega, ?_, ?_⟩
      · rw [List.getElem?_append_right (by omega), hxl]; simp
      · rw [List.getElem?_append_right (by omega), hxl]; simp
      · rw [List.getElem?_append_right (by omega), hxl]; simp
      · intro k hk' hin
        rcases hcv' k hk' with h | h <;> omega
      · refine hr.later _ (fun k hk1 hk2 _ => k14.block k hk2 (fun h => ?_))
        have := (hcvlt k h).2
        omega

/-- The terms up to the dot. -/
def pterms (f : Nat) : Nat → List Tok → Names → List (List Sym) → Option (List (List Sym) × List Tok × Names)
  | 0, _, _, _ => none
  | g + 1, ts, names, acc =>
    match pterm f ts names with
    | none => none
    | some r =>
      match r.2.1 with
      | [] => none
      | x :: rest => if x.kind = 46 then some (acc ++ [r.1], rest, r.2.2) else pterms f g rest r.2.2 (acc ++ [r.1])

set_option maxRecDepth 10000 in
set_option maxHeartbeats 1000000 in
theorem terms_any (f gn : Nat) (w : World) (ts : List Tok) (k : Nat) (tv : Value) (Bt B : Nat) (names : Names) (nv : Value) (q : List (List Sym) × List Tok × Names)
    (hq : pterms f gn (ts.drop k) names [] = some q) (hts : w.ownsRow Bt 243 3 tv ts.length (toksCells ts)) (hnv : w.ownsRow B 9 1 nv names.length (strs names)) (hB : B ≤ w.heap.size)
    (hl : ts.length ≤ 1000) (hn : names.length + (ts.length - k) ≤ 1000) (htx : ∀ t ∈ ts, t.text.length ≤ 4096) (htn : ∀ i t, ts[i]? = some t → i + 1 < ts.length → t.text ≠ []) :
    Calls Tryz.prog 144 #[tv, .int .i64 k, nv] w fun e w' => ∃ lv nv' j xs, e = .returned (.tuple #[lv, .int .i64 (j : Nat), nv']) ∧ q.2.1 = ts.drop j ∧ k < j ∧ j ≤ ts.length ∧
      Kids f w' w.heap.size lv q.1 xs ∧ Appended w B 9 1 nv q.2.2.length (strs q.2.2) nv' w' := by
  have Hq := hide' hq
  have Hnv := hide' hnv
  have Hts := hide' hts
  have Hih := hide' (term_any f)
  have Hap0 : Hid (Appended w B 9 1 nv names.length (strs names) nv w) := ⟨hnv, Kept.refl _ w, Or.inl rfl⟩
  obtain ⟨na, ncap, rfl⟩ := owns_slice hnv
  obtain ⟨tva, tcap, rfl⟩ := owns_slice hts
  clear hts hnv hq
  go_enter Tryz.func144, Tryz.ntmps144
  go_wp2
  go_loopg [1, 2, 9] gn (fun gk i nm lv wr => ∃ (j : Nat) (nms : Names) (acc : List (List Sym)) (xs : List Value), i = .int .i64 (j : Nat) ∧ k ≤ j ∧ j ≤ ts.length ∧ acc.length ≤ j ∧ nms.length + (ts.length - j) ≤ 1000 ∧
      pterms f gk (ts.drop j) nms acc = some q ∧ Kids f wr w.heap.size lv acc xs ∧ w.heap.size ≤ wr.heap.size ∧
      Appended w B 9 1 (.slice na names.length ncap) nms.length (strs nms) nm wr)
  case atStart =>
    rcases Nat.lt_or_ge ts.length k with hk | hk
    · exfalso
      have h := Hq.out
      rw [List.drop_eq_nil_of_le (by omega)] at h
      cases gn <;> cases f <;> simp [pterms, pterm] at h
    · exact ⟨k, names, [], [], rfl, by omega, by omega, by simp, by omega, Hq.out, Kids.nil _ _ _, by omega, Hap0.out⟩
  case round =>
    obtain ⟨j, nms, acc, xs, rfl, hkj, hjl, haj, hnm, hpa, hkids, hsz, hap⟩ := hrel
    have hnvr := hap.owns
    obtain ⟨nja, njcap, rfl⟩ := owns_slice hnvr
    obtain ⟨cva, cvcap, rfl⟩ := owns_slice hkids.owns
    have htsr : wr.ownsRow Bt 243 3 (.slice tva ts.length tcap) ts.length (toksCells ts) := hap.kept.owns Hts.out (fun k hk => by
      obtain ⟨cur, hc⟩ := owns_terms Hts.out k hk
      exact owns_apart Hnv.out (by decide) hc)
    cases gk with
    | zero => simp [pterms] at hpa
    | succ gk =>
      rw [pterms] at hpa
      cases hpt : pterm f (ts.drop j) nms with
      | none => rw [hpt] at hpa; simp at hpa
      | some r' =>
        rw [hpt] at hpa
        simp only at hpa
        obtain ⟨nb, hb1, hb2, hb3, hb4⟩ := pterm_behind f _ nms r' hpt
        simp only [List.length_drop] at hb2
        have HI := hide' (Hih.out wr ts j (.slice tva ts.length tcap) Bt B nms (.slice nja nms.length njcap) r' hpt htsr hnvr (by omega) hl (by omega) htx htn)
        have Hkids := hide' hkids
        have Hap := hide' hap
        have Hpa := hide' hpa
        have Hnvr := hide' hnvr
        have Htsr := hide' htsr
        have Hb3 := hide' hb3
        clear hkids hap hpa hnvr htsr hpt hb3
        go_wp2_with fail
        refine HI.out.mono ?_
        rintro e w1 ⟨a, b, c, nv', j', rfl, hrest, hj1, hj2, hrep, hap1⟩
        obtain ⟨sa, bn, ca, cl, cc, rfl, rfl, rfl⟩ := hrep.shape
        obtain ⟨nva, nvcap, rfl⟩ := owns_slice hap1.owns
        have hcvown : w1.ownsRow w.heap.size 183 3 (.slice cva acc.length cvcap) acc.length xs := hap1.kept.owns Hkids.out.owns (fun k hk => by
          obtain ⟨cur, hc⟩ := owns_terms Hkids.out.owns k hk
          exact owns_apart Hnvr.out (by decide) hc)
        have hts1 : w1.ownsRow Bt 243 3 (.slice tva ts.length tcap) ts.length (toksCells ts) := hap1.kept.owns Htsr.out (fun k hk => by
          obtain ⟨cur, hc⟩ := owns_terms Htsr.out k hk
          exact owns_apart Hnvr.out (by decide) hc)
        have hsz1 := hap1.kept.size
        have hj3 : j' = j + nb := by
          have h1 := congrArg List.length hrest
          rw [Hb3.out] at h1
          simp only [List.length_drop] at h1
          omega
        have Hcv := hide' hcvown
        have Hts1 := hide' hts1
        have Hrep := hide' hrep
        have Hap1 := hide' hap1
        have Hrest := hide' hrest
        have Hj3 := hide' hj3
        clear hcvown hrep hap1 hrest hts1 hj3
        go_wp2_with (at_builtin; refine wpList_append1 _ rfl (.tmp 21) (.tmp 23) 146 rfl w.heap.size 183 Tryz.infoTerm Tryz.underlying146 rfl (by decide) _ acc.length xs rfl (Hcv.out.alloc _) _ rfl (by simp) rfl term_one ?_ ?_ ?_)
        · omega
        · simp; omega
        intro cv' w3 hap3
        obtain ⟨c3a, c3cap, rfl⟩ := owns_slice hap3.owns
        have hstep := Hkids.out.step0 (by omega) Hnvr.out Hap1.out Hrep.out hap3
        have happ : Appended w B 9 1 (.slice na names.length ncap) r'.2.2.length (strs r'.2.2) (.slice nva r'.2.2.length nvcap) w3 := by
          refine (Hap.out.trans Hap1.out).around (Kept.refl _ w) (fun k e => (Hnv.out.lt k e).2) hstep.2 (fun k h => (Hkids.out.owns.lt k h).1) (fun k hk h => ?_)
          obtain ⟨cur, hc⟩ := owns_terms Hcv.out k h
          exact owns_apart Hap1.out.owns (by decide) hc hk
        have hts3 : w3.ownsRow Bt 243 3 (.slice tva ts.length tcap) ts.length (toksCells ts) := hstep.2.owns Hts1.out (fun k hk => by
          obtain ⟨cur, hc⟩ := owns_terms Hts1.out k hk
          exact owns_apart Hcv.out (by decide) hc)
        have Hpa' := Hpa.out
        rw [Hrest.out] at Hpa'
        have hs3 := hstep.2.size
        have hj3 := Hj3.out
        cases hdj : ts.drop j' with
        | nil => rw [hdj] at Hpa'; simp at Hpa'
        | cons x xr =>
          rw [hdj] at Hpa'
          simp only at Hpa'
          obtain ⟨hx, hxr, hxl⟩ := drop_at hdj
          obtain ⟨g', tcap', he, hg2, x0, _, _⟩ := tok_at hts3 hx
          simp only [Value.slice.injEq] at he
          obtain ⟨rfl, _, rfl⟩ := he
          have Hstep := hide' hstep
          have Happ := hide' happ
          have Hxr := hide' hxr
          have hn3 : r'.2.2.length + (ts.length - (j' + 1)) ≤ 1000 := by omega
          clear hap3 hstep happ hts3 hdj hx hxr hj3
          by_cases h46 : x.kind = 46
          · have HP : Hid ((acc ++ [r'.1], xr, r'.2.2) = q) := by rw [if_pos h46] at Hpa'; show _ = _; simpa using Hpa'
            clear Hpa'
            rw [h46] at x0
            go_wp2
            go_ret3
            rw [← HP.out]
            exact ⟨_, _, j' + 1, _, by go_num, Hxr.out.symm, by omega, by omega, Hstep.out.1, Happ.out⟩
          · have HP : Hid (pterms f gk xr r'.2.2 (acc ++ [r'.1]) = some q) := by rw [if_neg h46] at Hpa'; exact Hpa'
            have k46 : ((x.kind : Int) == 46) = false := by rw [beq_eq_false_iff_ne]; omega
            clear Hpa'
            go_wp2
            go_roundg gk
            case measure => omega
            case rel => exact ⟨j' + 1, r'.2.2, acc ++ [r'.1], _, by go_num, by omega, by omega, by simp; omega, hn3, by rw [Hxr.out]; exact HP.out, Hstep.out.1, by omega, Happ.out⟩

end Go.Proofs.YtlmjilpjmgjjcaaGreatDoor

namespace Go.Proofs.YtlmjilpjmgjjcaaGreatDoor
open Go.RowKit
set_option linter.unusedSimpArgs false
set_option linter.unusedVariables false

set_option maxRecDepth 10000 in
set_option maxHeartbeats 2000000 in
theorem over_true (w : World) (Bt : Nat) (ts : List Tok) (v : Value) (hts : w.ownsRow Bt 243 3 v ts.length (toksCells ts)) (hn : ts.length ≤ 3900) (htx : ∀ t ∈ ts, t.text.length ≤ 4096) :
    Calls Tryz.prog 142 #[v, .bool true] w fun e w' =>
      e = .returned (.tuple #[.int .i64 (lover ts (lstart0 true)).1, .int .i64 (lover ts (lstart0 true)).2]) ∧ Below w.heap.size w w' := by
  obtain ⟨ta, tcap, rfl⟩ := owns_slice hts
  have Hts := hide' hts
  clear hts
  go_enter Tryz.func142, Tryz.ntmps142
  go_wp2
  go_loopw [7] (fun i wr => ∃ (k : Nat) (L : LookS) (ov : Value), k ≤ ts.length ∧ i = .int .i64 k ∧ Below w.heap.size w wr ∧ IsLook wr w.heap.size w.heap.size L ov ∧ LInv L k ∧ L.err = 0 ∧
      lover (ts.drop k) L = lover ts (lstart0 true)) (fun i _ => ts.length - (intOf i).toNat)
  case atStart => exact ⟨0, lstart0 true, .slice none 0 0, Nat.zero_le _, rfl, (Below.refl _ _).alloc (Nat.le_refl _) _, ⟨heap_alloc_new w _, World.ownsRow_nil _ _ _ _⟩, ⟨by simp [lstart0], fun e => by simp [lstart0] at e, by simp [lstart0], by simp [lstart0], by simp [lstart0], by simp [lstart0], by simp [lstart0]⟩, rfl, rfl⟩
  case round =>
    obtain ⟨k, L, ov, hk, rfl, hbel, hlook, hinv, herr, hlov⟩ := hrel
    have Hlook := hide' hlook
    have Hinv := hide' hinv
    have Herr := hide' herr
    have Hlov := hide' hlov
    obtain ⟨hb, ⟨c0, c1, c2, c3, c4, c5, c6, c7⟩, hf⟩ := hlook.facts
    rw [herr] at c7
    clear hlook hinv herr hlov
    by_cases hlt : k < ts.length
    · obtain ⟨t, ht⟩ : ∃ t, ts[k]? = some t := ⟨_, List.getElem?_eq_getElem hlt⟩
      have hmem : t ∈ ts := List.mem_of_getElem? ht
      have htt : ByteArray.size ⟨t.text.toArray⟩ ≤ 4096 := htx t hmem
      obtain ⟨g, tcap', tcur, he, hBg, hg, hcp⟩ := owns_some Hts.out (by omega)
      simp only [Value.slice.injEq] at he
      obtain ⟨rfl, _, rfl⟩ := he
      have hgl := lt_of_block hg
      have tcell : ∀ j v, j < 3 → (tokCells t)[j]? = some v → wr.cell? ⟨g, k * 3 + j, none⟩ = some v := by
        intro j v hj hv
        exact (hbel.cell (p := ⟨g, k * 3 + j, none⟩) hgl).trans (owns_cell Hts.out (k * 3 + j) v (by rw [toksCells_at ts k t ht j hj]; exact hv))
      have tc0 : wr.cell? ⟨g, k * 3, none⟩ = some (.int .i64 t.kind) := tcell 0 _ (by omega) rfl
      have tc1 : wr.cell? ⟨g, k * 3 + 1, none⟩ = some (.string ⟨t.text.toArray⟩) := tcell 1 _ (by omega) rfl
      have tc2 : wr.cell? ⟨g, k * 3 + 2, none⟩ = some (.int .i64 t.pos) := tcell 2 _ (by omega) rfl
      have Hhere := hide' (lover_here ts k t L ht)
      have hwant := Hinv.out.want
      clear tcell ht hmem hg
      have hws : L.want = 0 ∨ L.want = 1 ∨ L.want = 2 ∨ L.want = 3 ∨ L.want = 4 ∨ L.want = 5 := by omega
      clear hwant
      rcases hws with hw | hw | hw | hw | hw | hw
      · rw [hw] at c0
        have Hw := hide' hw
        clear hw
        by_cases k4 : t.kind = 4
        · have Hh := hide' (Hhere.out.trans (if_pos ⟨k4, by rw [Hw.out]; omega⟩))
          have k4' : ((t.kind : Int) == 4) = true := by rw [beq_iff_eq]; omega
          clear k4
          go_wp2
          go_ret2
          refine ⟨ret_two ?_ ?_, ?_⟩
          · rw [← Hlov.out, Hh.out]; rfl
          · rw [← Hlov.out, Hh.out]; rfl
          · exact hbel.alloc hbel.size _
        · have Hn4 : Hid (¬ (t.kind = 4 ∧ (L.want = 5 ∨ L.want = 0))) := by rw [Hw.out]; intro h; omega
          have k4' : ((t.kind : Int) == 4) = false := by rw [beq_eq_false_iff_ne]; omega
          clear k4
          go_wp2_with fail
          refine (begins_all _ w.heap.size w.heap.size L ov t.kind _ ⟨t.text.toArray⟩ ?_ (Nat.le_refl _) (Hinv.out.mono (by omega)) (by rw [Hw.out]; omega) htt).mono ?_
          · exact Hlook.out.later (S := noBlock) ((Kept.refl _ _).alloc _) (fun h => h) (fun _ _ h => h)
          rintro e w1 ⟨rfl, ov', hkp, hlk⟩
          have hbel1 := over_kept hbel Hlook.out _ hkp
          have hbox2 : w1.cell? ⟨wr.heap.size, 2, none⟩ = some (.int .i64 t.pos) := over_box Hlook.out _ _ hkp 2 _ rfl
          have hstep : lbegins L t.kind (ByteArray.size ⟨t.text.toArray⟩) = lstep L t.kind t.text.length := by simp [lstep, Hw.out, ByteArray.size]
          rw [hstep] at hlk
          have Hlk := hide' hlk
          have d7 := hlk.facts.2.1.2.2.2.2.2.2.2
          have hb1 := hlk.facts.1
          have df := hlk.facts.2.2
          have Hst := hide' hstep
          have Hkp := hide' hkp
          clear hstep hkp hlk c0 c1 c2 c3 c4 c5 c6 c7 hf tc0 tc1 tc2
          by_cases he : (lstep L t.kind t.text.length).err = 0
          · rw [he] at d7
            have He := hide' he
            clear he
            go_wp2_with fail
            go_roundw
            case rel =>
              refine ⟨k + 1, lstep L t.kind t.text.length, ov', by omega, by go_num, hbel1, Hlk.out, lstep_inv Hinv.out _ _, He.out, ?_⟩
              rw [← Hlov.out, Hhere.out, if_neg Hn4.out, if_neg (by simp [He.out])]
            case measure => simp [intOf]; omega
          · have hne : (((lstep L t.kind t.text.length).err : Int) != 0) = true := by rw [bne_iff_ne]; omega
            have He := hide' he
            clear he
            go_wp2_with fail
            go_quiet (fail)
            go_wp2_with fail
            go_ret2
            refine ⟨ret_two ?_ ?_, ?_⟩
            · rw [← Hlov.out, Hhere.out, if_neg Hn4.out, if_pos He.out]
            · rw [← Hlov.out, Hhere.out, if_neg Hn4.out, if_pos He.out]
            · exact hbel1.trans ⟨rfl, rfl, rfl, Nat.le_refl _, fun _ _ => rfl⟩
      · rw [hw] at c0
        have Hw := hide' hw
        clear hw
        by_cases k4 : t.kind = 4
        · have Hn4 : Hid (¬ (t.kind = 4 ∧ (L.want = 5 ∨ L.want = 0))) := by rw [Hw.out]; intro h; omega
          have k4' : ((t.kind : Int) == 4) = true := by rw [beq_iff_eq]; omega
          clear k4
          go_wp2_with fail
          refine (begins_all _ w.heap.size w.heap.size L ov t.kind _ ⟨t.text.toArray⟩ ?_ (Nat.le_refl _) (Hinv.out.mono (by omega)) (by rw [Hw.out]; omega) htt).mono ?_
          · exact Hlook.out.later (S := noBlock) ((Kept.refl _ _).alloc _) (fun h => h) (fun _ _ h => h)
          rintro e w1 ⟨rfl, ov', hkp, hlk⟩
          have hbel1 := over_kept hbel Hlook.out _ hkp
          have hbox2 : w1.cell? ⟨wr.heap.size, 2, none⟩ = some (.int .i64 t.pos) := over_box Hlook.out _ _ hkp 2 _ rfl
          have hstep : lbegins L t.kind (ByteArray.size ⟨t.text.toArray⟩) = lstep L t.kind t.text.length := by simp [lstep, Hw.out, ByteArray.size]
          rw [hstep] at hlk
          have Hlk := hide' hlk
          have d7 := hlk.facts.2.1.2.2.2.2.2.2.2
          have hb1 := hlk.facts.1
          have df := hlk.facts.2.2
          have Hst := hide' hstep
          have Hkp := hide' hkp
          clear hstep hkp hlk c0 c1 c2 c3 c4 c5 c6 c7 hf tc0 tc1 tc2
          by_cases he : (lstep L t.kind t.text.length).err = 0
          · rw [he] at d7
            have He := hide' he
            clear he
            go_wp2_with fail
            go_roundw
            case rel =>
              refine ⟨k + 1, lstep L t.kind t.text.length, ov', by omega, by go_num, hbel1, Hlk.out, lstep_inv Hinv.out _ _, He.out, ?_⟩
              rw [← Hlov.out, Hhere.out, if_neg Hn4.out, if_neg (by simp [He.out])]
            case measure => simp [intOf]; omega
          · have hne : (((lstep L t.kind t.text.length).err : Int) != 0) = true := by rw [bne_iff_ne]; omega
            have He := hide' he
            clear he
            go_wp2_with fail
            go_quiet (fail)
            go_wp2_with fail
            go_ret2
            refine ⟨ret_two ?_ ?_, ?_⟩
            · rw [← Hlov.out, Hhere.out, if_neg Hn4.out, if_pos He.out]
            · rw [← Hlov.out, Hhere.out, if_neg Hn4.out, if_pos He.out]
            · exact hbel1.trans ⟨rfl, rfl, rfl, Nat.le_refl _, fun _ _ => rfl⟩
        · have Hn4 : Hid (¬ (t.kind = 4 ∧ (L.want = 5 ∨ L.want = 0))) := by rw [Hw.out]; intro h; omega
          have k4' : ((t.kind : Int) == 4) = false := by rw [beq_eq_false_iff_ne]; omega
          clear k4
          go_wp2_with fail
          refine (begins_all _ w.heap.size w.heap.size L ov t.kind _ ⟨t.text.toArray⟩ ?_ (Nat.le_refl _) (Hinv.out.mono (by omega)) (by rw [Hw.out]; omega) htt).mono ?_
          · exact Hlook.out.later (S := noBlock) ((Kept.refl _ _).alloc _) (fun h => h) (fun _ _ h => h)
          rintro e w1 ⟨rfl, ov', hkp, hlk⟩
          have hbel1 := over_kept hbel Hlook.out _ hkp
          have hbox2 : w1.cell? ⟨wr.heap.size, 2, none⟩ = some (.int .i64 t.pos) := over_box Hlook.out _ _ hkp 2 _ rfl
          have hstep : lbegins L t.kind (ByteArray.size ⟨t.text.toArray⟩) = lstep L t.kind t.text.length := by simp [lstep, Hw.out, ByteArray.size]
          rw [hstep] at hlk
          have Hlk := hide' hlk
          have d7 := hlk.facts.2.1.2.2.2.2.2.2.2
          have hb1 := hlk.facts.1
          have df := hlk.facts.2.2
          have Hst := hide' hstep
          have Hkp := hide' hkp
          clear hstep hkp hlk c0 c1 c2 c3 c4 c5 c6 c7 hf tc0 tc1 tc2
          by_cases he : (lstep L t.kind t.text.length).err = 0
          · rw [he] at d7
            have He := hide' he
            clear he
            go_wp2_with fail
            go_roundw
            case rel =>
              refine ⟨k + 1, lstep L t.kind t.text.length, ov', by omega, by go_num, hbel1, Hlk.out, lstep_inv Hinv.out _ _, He.out, ?_⟩
              rw [← Hlov.out, Hhere.out, if_neg Hn4.out, if_neg (by simp [He.out])]
            case measure => simp [intOf]; omega
          · have hne : (((lstep L t.kind t.text.length).err : Int) != 0) = true := by rw [bne_iff_ne]; omega
            have He := hide' he
            clear he
            go_wp2_with fail
            go_quiet (fail)
            go_wp2_with fail
            go_ret2
            refine ⟨ret_two ?_ ?_, ?_⟩
            · rw [← Hlov.out, Hhere.out, if_neg Hn4.out, if_pos He.out]
            · rw [← Hlov.out, Hhere.out, if_neg Hn4.out, if_pos He.out]
            · exact hbel1.trans ⟨rfl, rfl, rfl, Nat.le_refl _, fun _ _ => rfl⟩
      · rw [hw] at c0
        have Hw := hide' hw
        clear hw
        by_cases k4 : t.kind = 4
        · have Hn4 : Hid (¬ (t.kind = 4 ∧ (L.want = 5 ∨ L.want = 0))) := by rw [Hw.out]; intro h; omega
          have k4' : ((t.kind : Int) == 4) = true := by rw [beq_iff_eq]; omega
          clear k4
          go_wp2_with fail
          refine (begins_all _ w.heap.size w.heap.size L ov t.kind _ ⟨t.text.toArray⟩ ?_ (Nat.le_refl _) (Hinv.out.mono (by omega)) (by rw [Hw.out]; omega) htt).mono ?_
          · exact Hlook.out.later (S := noBlock) ((Kept.refl _ _).alloc _) (fun h => h) (fun _ _ h => h)
          rintro e w1 ⟨rfl, ov', hkp, hlk⟩
          have hbel1 := over_kept hbel Hlook.out _ hkp
          have hbox2 : w1.cell? ⟨wr.heap.size, 2, none⟩ = some (.int .i64 t.pos) := over_box Hlook.out _ _ hkp 2 _ rfl
          have hstep : lbegins L t.kind (ByteArray.size ⟨t.text.toArray⟩) = lstep L t.kind t.text.length := by simp [lstep, Hw.out, ByteArray.size]
          rw [hstep] at hlk
          have Hlk := hide' hlk
          have d7 := hlk.facts.2.1.2.2.2.2.2.2.2
          have hb1 := hlk.facts.1
          have df := hlk.facts.2.2
          have Hst := hide' hstep
          have Hkp := hide' hkp
          clear hstep hkp hlk c0 c1 c2 c3 c4 c5 c6 c7 hf tc0 tc1 tc2
          by_cases he : (lstep L t.kind t.text.length).err = 0
          · rw [he] at d7
            have He := hide' he
            clear he
            go_wp2_with fail
            go_roundw
            case rel =>
              refine ⟨k + 1, lstep L t.kind t.text.length, ov', by omega, by go_num, hbel1, Hlk.out, lstep_inv Hinv.out _ _, He.out, ?_⟩
              rw [← Hlov.out, Hhere.out, if_neg Hn4.out, if_neg (by simp [He.out])]
            case measure => simp [intOf]; omega
          · have hne : (((lstep L t.kind t.text.length).err : Int) != 0) = true := by rw [bne_iff_ne]; omega
            have He := hide' he
            clear he
            go_wp2_with fail
            go_quiet (fail)
            go_wp2_with fail
            go_ret2
            refine ⟨ret_two ?_ ?_, ?_⟩
            · rw [← Hlov.out, Hhere.out, if_neg Hn4.out, if_pos He.out]
            · rw [← Hlov.out, Hhere.out, if_neg Hn4.out, if_pos He.out]
            · exact hbel1.trans ⟨rfl, rfl, rfl, Nat.le_refl _, fun _ _ => rfl⟩
        · have Hn4 : Hid (¬ (t.kind = 4 ∧ (L.want = 5 ∨ L.want = 0))) := by rw [Hw.out]; intro h; omega
          have k4' : ((t.kind : Int) == 4) = false := by rw [beq_eq_false_iff_ne]; omega
          clear k4
          go_wp2_with fail
          refine (begins_all _ w.heap.size w.heap.size L ov t.kind _ ⟨t.text.toArray⟩ ?_ (Nat.le_refl _) (Hinv.out.mono (by omega)) (by rw [Hw.out]; omega) htt).mono ?_
          · exact Hlook.out.later (S := noBlock) ((Kept.refl _ _).alloc _) (fun h => h) (fun _ _ h => h)
          rintro e w1 ⟨rfl, ov', hkp, hlk⟩
          have hbel1 := over_kept hbel Hlook.out _ hkp
          have hbox2 : w1.cell? ⟨wr.heap.size, 2, none⟩ = some (.int .i64 t.pos) := over_box Hlook.out _ _ hkp 2 _ rfl
          have hstep : lbegins L t.kind (ByteArray.size ⟨t.text.toArray⟩) = lstep L t.kind t.text.length := by simp [lstep, Hw.out, ByteArray.size]
          rw [hstep] at hlk
          have Hlk := hide' hlk
          have d7 := hlk.facts.2.1.2.2.2.2.2.2.2
          have hb1 := hlk.facts.1
          have df := hlk.facts.2.2
          have Hst := hide' hstep
          have Hkp := hide' hkp
          clear hstep hkp hlk c0 c1 c2 c3 c4 c5 c6 c7 hf tc0 tc1 tc2
          by_cases he : (lstep L t.kind t.text.length).err = 0
          · rw [he] at d7
            have He := hide' he
            clear he
            go_wp2_with fail
            go_roundw
            case rel =>
              refine ⟨k + 1, lstep L t.kind t.text.length, ov', by omega, by go_num, hbel1, Hlk.out, lstep_inv Hinv.out _ _, He.out, ?_⟩
              rw [← Hlov.out, Hhere.out, if_neg Hn4.out, if_neg (by simp [He.out])]
            case measure => simp [intOf]; omega
          · have hne : (((lstep L t.kind t.text.length).err : Int) != 0) = true := by rw [bne_iff_ne]; omega
            have He := hide' he
            clear he
            go_wp2_with fail
            go_quiet (fail)
            go_wp2_with fail
            go_ret2
            refine ⟨ret_two ?_ ?_, ?_⟩
            · rw [← Hlov.out, Hhere.out, if_neg Hn4.out, if_pos He.out]
            · rw [← Hlov.out, Hhere.out, if_neg Hn4.out, if_pos He.out]
            · exact hbel1.trans ⟨rfl, rfl, rfl, Nat.le_refl _, fun _ _ => rfl⟩
      · rw [hw] at c0
        have Hw := hide' hw
        clear hw
        by_cases k4 : t.kind = 4
        · have Hn4 : Hid (¬ (t.kind = 4 ∧ (L.want = 5 ∨ L.want = 0))) := by rw [Hw.out]; intro h; omega
          have k4' : ((t.kind : Int) == 4) = true := by rw [beq_iff_eq]; omega
          clear k4
          go_wp2_with fail
          refine (follows_all _ w.heap.size w.heap.size L ov t.kind _ ⟨t.text.toArray⟩ ?_ (Nat.le_refl _) (Hinv.out.mono (by omega))).mono ?_
          · exact Hlook.out.later (S := noBlock) ((Kept.refl _ _).alloc _) (fun h => h) (fun _ _ h => h)
          rintro e w1 ⟨rfl, ov', hkp, hlk⟩
          have hbel1 := over_kept hbel Hlook.out _ hkp
          have hbox2 : w1.cell? ⟨wr.heap.size, 2, none⟩ = some (.int .i64 t.pos) := over_box Hlook.out _ _ hkp 2 _ rfl
          have hstep : lfollows L t.kind = lstep L t.kind t.text.length := by simp [lstep, Hw.out, ByteArray.size]
          rw [hstep] at hlk
          have Hlk := hide' hlk
          have d7 := hlk.facts.2.1.2.2.2.2.2.2.2
          have hb1 := hlk.facts.1
          have df := hlk.facts.2.2
          have Hst := hide' hstep
          have Hkp := hide' hkp
          clear hstep hkp hlk c0 c1 c2 c3 c4 c5 c6 c7 hf tc0 tc1 tc2
          by_cases he : (lstep L t.kind t.text.length).err = 0
          · rw [he] at d7
            have He := hide' he
            clear he
            go_wp2_with fail
            go_roundw
            case rel =>
              refine ⟨k + 1, lstep L t.kind t.text.length, ov', by omega, by go_num, hbel1, Hlk.out, lstep_inv Hinv.out _ _, He.out, ?_⟩
              rw [← Hlov.out, Hhere.out, if_neg Hn4.out, if_neg (by simp [He.out])]
            case measure => simp [intOf]; omega
          · have hne : (((lstep L t.kind t.text.length).err : Int) != 0) = true := by rw [bne_iff_ne]; omega
            have He := hide' he
            clear he
            go_wp2_with fail
            go_quiet (fail)
            go_wp2_with fail
            go_ret2
            refine ⟨ret_two ?_ ?_, ?_⟩
            · rw [← Hlov.out, Hhere.out, if_neg Hn4.out, if_pos He.out]
            · rw [← Hlov.out, Hhere.out, if_neg Hn4.out, if_pos He.out]
            · exact hbel1.trans ⟨rfl, rfl, rfl, Nat.le_refl _, fun _ _ => rfl⟩
        · have Hn4 : Hid (¬ (t.kind = 4 ∧ (L.want = 5 ∨ L.want = 0))) := by rw [Hw.out]; intro h; omega
          have k4' : ((t.kind : Int) == 4) = false := by rw [beq_eq_false_iff_ne]; omega
          clear k4
          go_wp2_with fail
          refine (follows_all _ w.heap.size w.heap.size L ov t.kind _ ⟨t.text.toArray⟩ ?_ (Nat.le_refl _) (Hinv.out.mono (by omega))).mono ?_
          · exact Hlook.out.later (S := noBlock) ((Kept.refl _ _).alloc _) (fun h => h) (fun _ _ h => h)
          rintro e w1 ⟨rfl, ov', hkp, hlk⟩
          have hbel1 := over_kept hbel Hlook.out _ hkp
          have hbox2 : w1.cell? ⟨wr.heap.size, 2, none⟩ = some (.int .i64 t.pos) := over_box Hlook.out _ _ hkp 2 _ rfl
          have hstep : lfollows L t.kind = lstep L t.kind t.text.length := by simp [lstep, Hw.out, ByteArray.size]
          rw [hstep] at hlk
          have Hlk := hide' hlk
          have d7 := hlk.facts.2.1.2.2.2.2.2.2.2
          have hb1 := hlk.facts.1
          have df := hlk.facts.2.2
          have Hst := hide' hstep
          have Hkp := hide' hkp
          clear hstep hkp hlk c0 c1 c2 c3 c4 c5 c6 c7 hf tc0 tc1 tc2
          by_cases he : (lstep L t.kind t.text.length).err = 0
          · rw [he] at d7
            have He := hide' he
            clear he
            go_wp2_with fail
            go_roundw
            case rel =>
              refine ⟨k + 1, lstep L t.kind t.text.length, ov', by omega, by go_num, hbel1, Hlk.out, lstep_inv Hinv.out _ _, He.out, ?_⟩
              rw [← Hlov.out, Hhere.out, if_neg Hn4.out, if_neg (by simp [He.out])]
            case measure => simp [intOf]; omega
          · have hne : (((lstep L t.kind t.text.length).err : Int) != 0) = true := by rw [bne_iff_ne]; omega
            have He := hide' he
            clear he
            go_wp2_with fail
            go_quiet (fail)
            go_wp2_with fail
            go_ret2
            refine ⟨ret_two ?_ ?_, ?_⟩
            · rw [← Hlov.out, Hhere.out, if_neg Hn4.out, if_pos He.out]
            · rw [← Hlov.out, Hhere.out, if_neg Hn4.out, if_pos He.out]
            · exact hbel1.trans ⟨rfl, rfl, rfl, Nat.le_refl _, fun _ _ => rfl⟩
      · rw [hw] at c0
        have Hw := hide' hw
        clear hw
        by_cases k4 : t.kind = 4
        · have Hn4 : Hid (¬ (t.kind = 4 ∧ (L.want = 5 ∨ L.want = 0))) := by rw [Hw.out]; intro h; omega
          have k4' : ((t.kind : Int) == 4) = true := by rw [beq_iff_eq]; omega
          clear k4
          go_wp2_with fail
          refine (follows_all _ w.heap.size w.heap.size L ov t.kind _ ⟨t.text.toArray⟩ ?_ (Nat.le_refl _) (Hinv.out.mono (by omega))).mono ?_
          · exact Hlook.out.later (S := noBlock) ((Kept.refl _ _).alloc _) (fun h => h) (fun _ _ h => h)
          rintro e w1 ⟨rfl, ov', hkp, hlk⟩
          have hbel1 := over_kept hbel Hlook.out _ hkp
          have hbox2 : w1.cell? ⟨wr.heap.size, 2, none⟩ = some (.int .i64 t.pos) := over_box Hlook.out _ _ hkp 2 _ rfl
          have hstep : lfollows L t.kind = lstep L t.kind t.text.length := by simp [lstep, Hw.out, ByteArray.size]
          rw [hstep] at hlk
          have Hlk := hide' hlk
          have d7 := hlk.facts.2.1.2.2.2.2.2.2.2
          have hb1 := hlk.facts.1
          have df := hlk.facts.2.2
          have Hst := hide' hstep
          have Hkp := hide' hkp
          clear hstep hkp hlk c0 c1 c2 c3 c4 c5 c6 c7 hf tc0 tc1 tc2
          by_cases he : (lstep L t.kind t.text.length).err = 0
          · rw [he] at d7
            have He := hide' he
            clear he
            go_wp2_with fail
            go_roundw
            case rel =>
              refine ⟨k + 1, lstep L t.kind t.text.length, ov', by omega, by go_num, hbel1, Hlk.out, lstep_inv Hinv.out _ _, He.out, ?_⟩
              rw [← Hlov.out, Hhere.out, if_neg Hn4.out, if_neg (by simp [He.out])]
            case measure => simp [intOf]; omega
          · have hne : (((lstep L t.kind t.text.length).err : Int) != 0) = true := by rw [bne_iff_ne]; omega
            have He := hide' he
            clear he
            go_wp2_with fail
            go_quiet (fail)
            go_wp2_with fail
            go_ret2
            refine ⟨ret_two ?_ ?_, ?_⟩
            · rw [← Hlov.out, Hhere.out, if_neg Hn4.out, if_pos He.out]
            · rw [← Hlov.out, Hhere.out, if_neg Hn4.out, if_pos He.out]
            · exact hbel1.trans ⟨rfl, rfl, rfl, Nat.le_refl _, fun _ _ => rfl⟩
        · have Hn4 : Hid (¬ (t.kind = 4 ∧ (L.want = 5 ∨ L.want = 0))) := by rw [Hw.out]; intro h; omega
          have k4' : ((t.kind : Int) == 4) = false := by rw [beq_eq_false_iff_ne]; omega
          clear k4
          go_wp2_with fail
          refine (follows_all _ w.heap.size w.heap.size L ov t.kind _ ⟨t.text.toArray⟩ ?_ (Nat.le_refl _) (Hinv.out.mono (by omega))).mono ?_
          · exact Hlook.out.later (S := noBlock) ((Kept.refl _ _).alloc _) (fun h => h) (fun _ _ h => h)
          rintro e w1 ⟨rfl, ov', hkp, hlk⟩
          have hbel1 := over_kept hbel Hlook.out _ hkp
          have hbox2 : w1.cell? ⟨wr.heap.size, 2, none⟩ = some (.int .i64 t.pos) := over_box Hlook.out _ _ hkp 2 _ rfl
          have hstep : lfollows L t.kind = lstep L t.kind t.text.length := by simp [lstep, Hw.out, ByteArray.size]
          rw [hstep] at hlk
          have Hlk := hide' hlk
          have d7 := hlk.facts.2.1.2.2.2.2.2.2.2
          have hb1 := hlk.facts.1
          have df := hlk.facts.2.2
          have Hst := hide' hstep
          have Hkp := hide' hkp
          clear hstep hkp hlk c0 c1 c2 c3 c4 c5 c6 c7 hf tc0 tc1 tc2
          by_cases he : (lstep L t.kind t.text.length).err = 0
          · rw [he] at d7
            have He := hide' he
            clear he
            go_wp2_with fail
            go_roundw
            case rel =>
              refine ⟨k + 1, lstep L t.kind t.text.length, ov', by omega, by go_num, hbel1, Hlk.out, lstep_inv Hinv.out _ _, He.out, ?_⟩
              rw [← Hlov.out, Hhere.out, if_neg Hn4.out, if_neg (by simp [He.out])]
            case measure => simp [intOf]; omega
          · have hne : (((lstep L t.kind t.text.length).err : Int) != 0) = true := by rw [bne_iff_ne]; omega
            have He := hide' he
            clear he
            go_wp2_with fail
            go_quiet (fail)
            go_wp2_with fail
            go_ret2
            refine ⟨ret_two ?_ ?_, ?_⟩
            · rw [← Hlov.out, Hhere.out, if_neg Hn4.out, if_pos He.out]
            · rw [← Hlov.out, Hhere.out, if_neg Hn4.out, if_pos He.out]
            · exact hbel1.trans ⟨rfl, rfl, rfl, Nat.le_refl _, fun _ _ => rfl⟩
      · rw [hw] at c0
        have Hw := hide' hw
        clear hw
        by_cases k4 : t.kind = 4
        · have Hh := hide' (Hhere.out.trans (if_pos ⟨k4, by rw [Hw.out]; omega⟩))
          have k4' : ((t.kind : Int) == 4) = true := by rw [beq_iff_eq]; omega
          clear k4
          go_wp2
          go_ret2
          refine ⟨ret_two ?_ ?_, ?_⟩
          · rw [← Hlov.out, Hh.out]; rfl
          · rw [← Hlov.out, Hh.out]; rfl
          · exact hbel.alloc hbel.size _
        · have Hn4 : Hid (¬ (t.kind = 4 ∧ (L.want = 5 ∨ L.want = 0))) := by rw [Hw.out]; intro h; omega
          have k4' : ((t.kind : Int) == 4) = false := by rw [beq_eq_false_iff_ne]; omega
          clear k4
          have He2 : Hid ((lstep L t.kind t.text.length).err = 2) := by show _ = 2; simp [lstep, Hw.out]
          go_wp2_with fail
          go_quiet (fail)
          go_wp2_with fail
          go_ret2
          refine ⟨ret_two ?_ ?_, ?_⟩
          · rw [← Hlov.out, Hhere.out, if_neg Hn4.out, if_pos (by rw [He2.out]; omega), He2.out]; rfl
          · rw [← Hlov.out, Hhere.out, if_neg Hn4.out, if_pos (by rw [He2.out]; omega)]
          · exact (((hbel.setCell (Nat.le_refl _) _).alloc (by have := hbel.size; simp; omega) _)).trans ⟨rfl, rfl, rfl, Nat.le_refl _, fun _ _ => rfl⟩
    · have Hend : Hid (lover (ts.drop k) L = (0, 0)) := by show _ = _; rw [List.drop_eq_nil_of_le (by omega)]; rfl
      go_wp2
      go_ret2
      refine ⟨ret_two ?_ ?_, hbel⟩
      · rw [← Hlov.out, Hend.out]; rfl
      · rw [← Hlov.out, Hend.out]; rfl

end Go.Proofs.YtlmjilpjmgjjcaaGreatDoor

namespace Go.Proofs.YtlmjilpjmgjjcaaGreatDoor
open Go.RowKit
set_option linter.unusedSimpArgs false
set_option linter.unusedVariables false

theorem lexF_facts (f : Nat) : ∀ (l : List UInt8) (p : Nat), (lexF f l p).length ≤ l.length ∧ ∀ t ∈ lexF f l p, t.text ≠ [] ∧ t.text.length ≤ l.length := by
  induction f with
  | zero => intro l p; exact ⟨by simp [lexF], fun t ht => by simp [lexF] at ht⟩
  | succ f ih =>
    intro l p
    cases l with
    | nil => exact ⟨by simp [lexF], fun t ht => by simp [lexF] at ht⟩
    | cons c r =>
      rw [lexF]
      split
      · have h := ih r (p + 1)
        exact ⟨by simp; omega, fun t ht => ⟨(h.2 t ht).1, by have := (h.2 t ht).2; simp; omega⟩⟩
      · have h := ih (r.drop (headOf c r).2) (p + (headOf c r).2 + 1)
        simp only [List.length_drop] at h
        refine ⟨by simp; omega, fun t ht => ?_⟩
        simp only [List.mem_cons] at ht
        rcases ht with rfl | ht
        · exact ⟨by simp, by simp; omega⟩
        · exact ⟨(h.2 t ht).1, by have := (h.2 t ht).2; simp; omega⟩
theorem toks_len (l : List UInt8) (p : Nat) : (toks l p).length ≤ l.length := (lexF_facts _ l p).1
theorem toks_text (l : List UInt8) (p : Nat) : ∀ t ∈ toks l p, t.text ≠ [] ∧ t.text.length ≤ l.length := (lexF_facts _ l p).2

/-- The tokens of a text, an End behind them. -/
def alltoks (s : ByteArray) : List Tok := toks s.data.toList 0 ++ [⟨4, [], s.size⟩]
theorem alltoks_len (s : ByteArray) : (alltoks s).length ≤ s.size + 1 := by
  have := toks_len s.data.toList 0
  simp [alltoks] at this ⊢
  exact this
theorem alltoks_text (s : ByteArray) : ∀ t ∈ alltoks s, t.text.length ≤ s.size := by
  intro t ht
  simp only [alltoks, List.mem_append, List.mem_singleton] at ht
  rcases ht with ht | rfl
  · have := (toks_text _ _ t ht).2
    simpa using this
  · simp
theorem alltoks_some (s : ByteArray) : ∀ i t, (alltoks s)[i]? = some t → i + 1 < (alltoks s).length → t.text ≠ [] := by
  intro i t ht hi
  simp only [alltoks, List.length_append, List.length_singleton] at hi
  rw [alltoks, List.getElem?_append_left (by omega)] at ht
  exact (toks_text _ _ t (List.mem_of_getElem? ht)).1

/-- The tokens' row, as 'Tokens' leaves it. -/
theorem tokens_row (s : ByteArray) (w : World) (hs : s.size ≤ 800) :
    Calls Tryz.prog 141 #[.string s] w fun e w' => ∃ v, e = .returned v ∧ Below w.heap.size w w' ∧ w'.ownsRow w.heap.size 243 3 v (alltoks s).length (toksCells (alltoks s)) := by
  refine (tokens_any s w (by omega)).mono ?_
  rintro e w' ⟨v, h1, h2, h3⟩
  refine ⟨v, h1, h2, ?_⟩
  simpa [alltoks] using h3

theorem over_query (w : World) (Bt : Nat) (s : ByteArray) (v : Value) (hs : s.size ≤ 800) (hts : w.ownsRow Bt 243 3 v (alltoks s).length (toksCells (alltoks s))) :
    Calls Tryz.prog 142 #[v, .bool true] w fun e w' =>
      e = .returned (.tuple #[.int .i64 (lover (alltoks s) (lstart0 true)).1, .int .i64 (lover (alltoks s) (lstart0 true)).2]) ∧ Below w.heap.size w w' :=
  over_true w Bt _ v hts (by have := alltoks_len s; omega) (fun t ht => by have := alltoks_text s t ht; omega)
theorem over_program (w : World) (Bt : Nat) (s : ByteArray) (v : Value) (hs : s.size ≤ 800) (hts : w.ownsRow Bt 243 3 v (alltoks s).length (toksCells (alltoks s))) :
    Calls Tryz.prog 142 #[v, .bool false] w fun e w' =>
      e = .returned (.tuple #[.int .i64 (lover (alltoks s) (lstart0 false)).1, .int .i64 (lover (alltoks s) (lstart0 false)).2]) ∧ Below w.heap.size w w' :=
  over_false w Bt _ v hts (by have := alltoks_len s; omega) (fun t ht => by have := alltoks_text s t ht; omega)

theorem below_owns {B : Nat} {w w' : World} (h : Below B w w') {base : Nat} {e : TypeId} {size : Nat} {v : Value} {n : Nat} {xs : List Value} (ho : w.ownsRow base e size v n xs) (hB : w.heap.size ≤ B) : w'.ownsRow base e size v n xs :=
  owns_same ho (fun k hk => h.block k (Nat.lt_of_lt_of_le (ho.lt k hk).2 hB))

set_option maxRecDepth 10000 in
set_option maxHeartbeats 1000000 in
theorem readQuery_long (s : ByteArray) (w : World) (hm : s.size ≤ maxLen) (hs : 120 < s.size) :
    Calls Tryz.prog 110 #[.string s] w fun e w' => e = .returned (.tuple #[.agg #[.slice none 0 0, .slice none 0 0], .int .i64 1, .int .i64 0]) ∧ Below w.heap.size w w' := by
  unfold maxLen at hm
  go_enter Tryz.func110, Tryz.ntmps110
  go_wp2
  exact bodyPost_ret (v := .tuple #[.agg #[.slice none 0 0, .slice none 0 0], .int .i64 1, .int .i64 0]) (by simp [results, Tryz.results110, go_sem]) rfl ⟨rfl, (Below.refl _ _).alloc (Nat.le_refl _) _⟩

set_option maxRecDepth 10000 in
set_option maxHeartbeats 1000000 in
theorem readQuery_err (s : ByteArray) (w : World) (hs : s.size ≤ 120) (he : (lover (alltoks s) (lstart0 true)).1 ≠ 0) :
    Calls Tryz.prog 110 #[.string s] w fun e w' => e = .returned (.tuple #[.agg #[.slice none 0 0, .slice none 0 0], .int .i64 (lover (alltoks s) (lstart0 true)).1, .int .i64 (lover (alltoks s) (lstart0 true)).2]) ∧ Below w.heap.size w w' := by
  have he' : (((lover (alltoks s) (lstart0 true)).1 : Int) != 0) = true := by rw [bne_iff_ne]; omega
  go_enter Tryz.func110, Tryz.ntmps110
  go_wp2_with fail
  refine (tokens_row s _ (by omega)).mono ?_
  rintro e w1 ⟨v, rfl, hb1, hts⟩
  have Hts := hide' hts
  have Hb1 := hide' hb1
  clear hts hb1
  go_wp2_with fail
  refine (over_query w1 _ s v (by omega) Hts.out).mono ?_
  rintro e w2 ⟨rfl, hb2⟩
  have hsz1 : w.heap.size + 1 ≤ w1.heap.size := by have := Hb1.out.size; simpa using this
  have hsz2 := hb2.size
  have hblk : w2.heap[w.heap.size]? = some (.cells #[.slice none 0 0, .slice none 0 0] 148 (0, 0)) :=
    (hb2.block w.heap.size (by omega)).trans ((Hb1.out.block w.heap.size (by simp)).trans (heap_alloc_new w _))
  have z0 : w2.cell? ⟨w.heap.size, 0, none⟩ = some (.slice none 0 0) := cell_of_block hblk 0 _ rfl
  have z1 : w2.cell? ⟨w.heap.size, 1, none⟩ = some (.slice none 0 0) := cell_of_block hblk 1 _ rfl
  have zf := fun i => thawed_of_block hblk i
  have Hb2 := hide' hb2
  clear hblk hb2
  go_wp2
  refine bodyPost_ret (v := .tuple #[.agg #[.slice none 0 0, .slice none 0 0], .int .i64 (lover (alltoks s) (lstart0 true)).1, .int .i64 (lover (alltoks s) (lstart0 true)).2]) (by simp [results, Tryz.results110, go_sem, z0, z1, zf]) rfl ⟨rfl, ?_⟩
  refine Below.setCell (Below.setCell ?_ (p := ⟨w.heap.size, 0, none⟩) (Nat.le_refl _) _) (p := ⟨w.heap.size, 1, none⟩) (Nat.le_refl _) _
  exact (((Below.refl _ w).alloc (Nat.le_refl _) _).trans (Hb1.out.mono (by simp))).trans (Hb2.out.mono (by omega))

set_option maxRecDepth 10000 in
set_option maxHeartbeats 1000000 in
theorem readQuery_ok (s : ByteArray) (w : World) (q : List (List Sym) × List Tok × Names) (hs : s.size ≤ 120) (he : (lover (alltoks s) (lstart0 true)).1 = 0) (hq : pterms 1000 1000 (alltoks s) [] [] = some q) :
    Calls Tryz.prog 110 #[.string s] w fun e w' => ∃ lv nv lo xs, e = .returned (.tuple #[.agg #[lv, nv], .int .i64 0, .int .i64 0]) ∧ w.heap.size < lo ∧ lo ≤ w'.heap.size ∧ Kids 1000 w' lo lv q.1 xs ∧
      w'.ownsRow lo 9 1 nv q.2.2.length (strs q.2.2) ∧ Below w.heap.size w w' := by
  have he' : (((lover (alltoks s) (lstart0 true)).1 : Int) != 0) = false := by rw [he]; rfl
  have hal := alltoks_len s
  go_enter Tryz.func110, Tryz.ntmps110
  go_wp2_with fail
  refine (tokens_row s _ (by omega)).mono ?_
  rintro e w1 ⟨v, rfl, hb1, hts⟩
  have Hts := hide' hts
  have Hb1 := hide' hb1
  clear hts hb1
  go_wp2_with fail
  refine (over_query w1 _ s v (by omega) Hts.out).mono ?_
  rintro e w2 ⟨rfl, hb2⟩
  have hsz1 : w.heap.size + 1 ≤ w1.heap.size := by have := Hb1.out.size; simpa using this
  have hsz2 := hb2.size
  have Hts2 := hide' (below_owns hb2 Hts.out (Nat.le_refl _))
  have Hblk : Hid (w2.heap[w.heap.size]? = some (.cells #[.slice none 0 0, .slice none 0 0] 148 (0, 0))) :=
    (hb2.block w.heap.size (by omega)).trans ((Hb1.out.block w.heap.size (by simp)).trans (heap_alloc_new w _))
  have Hb2 := hide' hb2
  clear hb2
  go_wp2_with fail
  refine (terms_any 1000 1000 w2 (alltoks s) 0 v _ w2.heap.size [] (.slice none 0 0) q hq Hts2.out (World.ownsRow_nil _ _ _ _) (Nat.le_refl _) (by omega) (by simp; omega) (fun t ht => by have := alltoks_text s t ht; omega) (alltoks_some s)).mono ?_
  rintro e w3 ⟨lv, nv, j, xs, rfl, hrest, hj1, hj2, hkids, hap⟩
  obtain ⟨la, lcap, rfl⟩ := owns_slice hkids.owns
  obtain ⟨na, ncap, rfl⟩ := owns_slice hap.owns
  have hsz3 := hap.kept.size
  have hblk3 := (hap.kept.block w.heap.size (by omega) (fun h => by simp [ownOf, Value.ownBlock] at h)).trans Hblk.out
  have z0 : w3.cell? ⟨w.heap.size, 0, none⟩ = some (.slice none 0 0) := cell_of_block hblk3 0 _ rfl
  have z1 : w3.cell? ⟨w.heap.size, 1, none⟩ = some (.slice none 0 0) := cell_of_block hblk3 1 _ rfl
  have zf := fun i => thawed_of_block hblk3 i
  have Hkids := hide' hkids
  have Hap := hide' hap
  clear hblk3 hkids hap hrest
  go_wp2
  refine bodyPost_ret (v := .tuple #[.agg #[.slice la q.1.length lcap, .slice na q.2.2.length ncap], .int .i64 0, .int .i64 0]) (by simp [results, Tryz.results110, go_sem, z0, z1, zf]) rfl ?_
  have hk5 := ((Kept.refl (only w.heap.size) w3).put 0 (.slice la q.1.length lcap)).put 1 (.slice na q.2.2.length ncap)
  have hs5 := hk5.size
  have hb3 : Below w2.heap.size w2 w3 := Hap.out.kept.below (Nat.le_refl _) (fun k h => by simp [ownOf, Value.ownBlock] at h)
  refine ⟨_, _, w2.heap.size, xs, rfl, by omega, by omega, ?_, ?_, ?_⟩
  · refine ⟨hk5.owns Hkids.out.owns (fun k hk e => ?_), fun i l' hl => ?_⟩
    · have e : k = w.heap.size := e
      have := (Hkids.out.owns.lt k hk).1
      omega
    · obtain ⟨a', b', c', l1, h1, y1, y2, y3, g1, g2, g3, g4⟩ := Hkids.out.all i l' hl
      refine ⟨a', b', c', l1, h1, y1, y2, y3, g1, by omega, g3, RepT.later 1000 g4 (fun k hk1 hk2 _ => hk5.block k (by omega) (fun e => ?_))⟩
      have e : k = w.heap.size := e
      omega
  · refine hk5.owns Hap.out.owns (fun k hk e => ?_)
    have e : k = w.heap.size := e
    have := (Hap.out.owns.lt k hk).1
    omega
  · refine Below.setCell (Below.setCell ?_ (p := ⟨w.heap.size, 0, none⟩) (Nat.le_refl _) _) (p := ⟨w.heap.size, 1, none⟩) (Nat.le_refl _) _
    exact ((((Below.refl _ w).alloc (Nat.le_refl _) _).trans (Hb1.out.mono (by simp))).trans (Hb2.out.mono (by omega))).trans (hb3.mono (by omega))

end Go.Proofs.YtlmjilpjmgjjcaaGreatDoor

namespace Go.Proofs.YtlmjilpjmgjjcaaGreatDoor
open Go.RowKit
set_option linter.unusedSimpArgs false
set_option linter.unusedVariables false

theorem pargs_syms {p : List Tok → Names → Option (List Sym × List Tok × Names)} {M : Nat}
    (hp : ∀ ts names r, (∀ t ∈ ts, t.text.length ≤ M) → p ts names = some r → r.1.length + r.2.1.length ≤ ts.length ∧ (∀ s ∈ r.1, s.name.length ≤ M) ∧ (∀ t ∈ r.2.1, t.text.length ≤ M)) :
    ∀ (g : Nat) (ts : List Tok) (names : Names) (acc : List (List Sym)) r, (∀ t ∈ ts, t.text.length ≤ M) → (∀ s ∈ acc.flatten, s.name.length ≤ M) → pargs p g ts names acc = some r →
      r.1.flatten.length + r.2.1.length ≤ acc.flatten.length + ts.length ∧ (∀ s ∈ r.1.flatten, s.name.length ≤ M) ∧ (∀ t ∈ r.2.1, t.text.length ≤ M) := by
  intro g
  induction g with
  | zero => intro ts names acc r _ _ h; simp [pargs] at h
  | succ g ih =>
    intro ts names acc r hM hA h
    cases ts with
    | nil => simp [pargs] at h
    | cons t ts =>
      rw [pargs] at h
      split at h
      · simp at h; subst h
        exact ⟨by simp, hA, fun t ht => hM t (by simp [ht])⟩
      · split at h
        · simp at h
        · rename_i q hq
          obtain ⟨h1, h2, h3⟩ := hp _ _ _ (fun t ht => hM t (by simp [ht])) hq
          obtain ⟨h4, h5, h6⟩ := ih _ _ _ _ h3 (fun s hs => by
            simp only [List.flatten_append, List.flatten_cons, List.flatten_nil, List.append_nil, List.mem_append] at hs
            rcases hs with hs | hs
            · exact hA s hs
            · exact h2 s hs) h
          refine ⟨?_, h5, h6⟩
          simp only [List.flatten_append, List.flatten_cons, List.flatten_nil, List.append_nil, List.length_append, List.length_cons] at h4 ⊢
          omega

theorem pterm_syms {M : Nat} : ∀ (f : Nat) (ts : List Tok) (names : Names) r, (∀ t ∈ ts, t.text.length ≤ M) → pterm f ts names = some r → r.1.length + r.2.1.length ≤ ts.length ∧ (∀ s ∈ r.1, s.name.length ≤ M) ∧ (∀ t ∈ r.2.1, t.text.length ≤ M) := by
  intro f
  induction f with
  | zero => intro ts names r _ h; simp [pterm] at h
  | succ f ih =>
    intro ts names r hM h
    cases ts with
    | nil => simp [pterm] at h
    | cons t ts =>
      rw [pterm] at h
      split at h
      · simp at h; subst h
        exact ⟨by simp; omega, by simp, fun t ht => hM t (by simp [ht])⟩
      · cases ts with
        | nil => simp [pname] at h
        | cons u us =>
          rw [pname] at h
          split at h
          · simp at h; subst h
            exact ⟨by simp; omega, by simp; exact hM t (by simp), fun t ht => hM t (by simp at ht ⊢; exact Or.inr ht)⟩
          · rw [Option.map_eq_some_iff] at h
            obtain ⟨q, hq, rfl⟩ := h
            obtain ⟨h1, h2, h3⟩ := pargs_syms ih _ _ _ _ _ (fun t ht => hM t (List.mem_cons_of_mem _ ht)) (by simp) hq
            refine ⟨by simp at h1 ⊢; omega, ?_, h3⟩
            intro s hs
            simp only [List.mem_cons] at hs
            rcases hs with rfl | hs
            · exact hM t (by simp)
            · exact h2 s hs

theorem pterms_syms {M f : Nat} : ∀ (g : Nat) (ts : List Tok) (names : Names) (acc : List (List Sym)) r, (∀ t ∈ ts, t.text.length ≤ M) → (∀ s ∈ acc.flatten, s.name.length ≤ M) → pterms f g ts names acc = some r →
      r.1.flatten.length + r.2.1.length ≤ acc.flatten.length + ts.length ∧ (∀ s ∈ r.1.flatten, s.name.length ≤ M) ∧ (∀ t ∈ r.2.1, t.text.length ≤ M) := by
  intro g
  induction g with
  | zero => intro ts names acc r _ _ h; simp [pterms] at h
  | succ g ih =>
    intro ts names acc r hM hA h
    rw [pterms] at h
    split at h
    · simp at h
    · rename_i q hq
      obtain ⟨h1, h2, h3⟩ := pterm_syms f _ _ _ hM hq
      have hA' : ∀ s ∈ (acc ++ [q.1]).flatten, s.name.length ≤ M := fun s hs => by
        simp only [List.flatten_append, List.flatten_cons, List.flatten_nil, List.append_nil, List.mem_append] at hs
        rcases hs with hs | hs
        · exact hA s hs
        · exact h2 s hs
      split at h
      · simp at h
      · rename_i x rest hx
        rw [hx] at h1 h3
        split at h
        · simp at h; subst h
          refine ⟨?_, hA', fun t ht => h3 t (by simp [ht])⟩
          simp only [List.flatten_append, List.flatten_cons, List.flatten_nil, List.append_nil, List.length_append, List.length_cons] at h1 ⊢
          omega
        · obtain ⟨h4, h5, h6⟩ := ih _ _ _ _ (fun t ht => h3 t (by simp [ht])) hA' h
          refine ⟨?_, h5, h6⟩
          simp only [List.flatten_append, List.flatten_cons, List.flatten_nil, List.append_nil, List.length_append, List.length_cons] at h1 h4 ⊢
          omega

/-- What the reference's 'Query' answers: the text, the error, the place. -/
def refQuery (s : ByteArray) : List UInt8 × Nat × Nat :=
  if 120 < s.size then ([], 1, 0)
  else if (lover (alltoks s) (lstart0 true)).1 ≠ 0 then ([], (lover (alltoks s) (lstart0 true)).1, (lover (alltoks s) (lstart0 true)).2)
  else match pterms 1000 1000 (alltoks s) [] [] with
    | none => ([], 0, 0)
    | some q => (wlisted 1000 [] q.1 [] ++ [46], 0, 0)

set_option maxRecDepth 10000 in
set_option maxHeartbeats 1000000 in
theorem query_ref (s : ByteArray) (w : World) (hm : s.size ≤ maxLen) (hok : s.size ≤ 120 → (lover (alltoks s) (lstart0 true)).1 = 0 → ∃ q, pterms 1000 1000 (alltoks s) [] [] = some q) :
    Calls Tryz.prog 86 #[.string s] w fun e w' => e = .returned (.tuple #[.string ⟨(refQuery s).1.toArray⟩, .int .i64 (refQuery s).2.1, .int .i64 (refQuery s).2.2]) ∧ Below w.heap.size w w' := by
  by_cases hs : 120 < s.size
  · have hr : refQuery s = ([], 1, 0) := by rw [refQuery, if_pos hs]
    rw [hr]
    clear hr
    go_enter Tryz.func86, Tryz.ntmps86
    go_wp2_with fail
    refine (readQuery_long s _ hm hs).mono ?_
    rintro e w1 ⟨rfl, hb⟩
    have Hb := hide' hb
    clear hb
    go_wp2
    go_ret3
    exact ⟨rfl, Hb.out.alloc Hb.out.size _⟩
  · by_cases he : (lover (alltoks s) (lstart0 true)).1 ≠ 0
    · have hr : refQuery s = ([], (lover (alltoks s) (lstart0 true)).1, (lover (alltoks s) (lstart0 true)).2) := by rw [refQuery, if_neg hs, if_pos he]
      rw [hr]
      clear hr
      have he' : (((lover (alltoks s) (lstart0 true)).1 : Int) != 0) = true := by rw [bne_iff_ne]; omega
      go_enter Tryz.func86, Tryz.ntmps86
      go_wp2_with fail
      refine (readQuery_err s _ (by omega) he).mono ?_
      rintro e w1 ⟨rfl, hb⟩
      have Hb := hide' hb
      clear hb
      go_wp2
      go_ret3
      exact ⟨rfl, Hb.out.alloc Hb.out.size _⟩
    · have he0 : (lover (alltoks s) (lstart0 true)).1 = 0 := by omega
      obtain ⟨q, hq⟩ := hok (by omega) he0
      have hr : refQuery s = (wlisted 1000 [] q.1 [] ++ [46], 0, 0) := by rw [refQuery, if_neg hs, if_neg he, hq]
      rw [hr]
      clear hr
      have hal := alltoks_len s
      obtain ⟨y1, y2, _⟩ := pterms_syms 1000 (alltoks s) [] [] q (fun t ht => alltoks_text s t ht) (by simp) hq
      simp only [List.flatten_nil, List.length_nil] at y1
      have Hy2 := hide' y2
      have Hq := hide' hq
      clear y2 hq hok
      go_enter Tryz.func86, Tryz.ntmps86
      go_wp2_with fail
      refine (readQuery_ok s _ q (by omega) he0 Hq.out).mono ?_
      rintro e w1 ⟨lv, nv, lo, xs, rfl, hlo, hlo', hkids, hnv, hb⟩
      obtain ⟨la, lcap, rfl⟩ := owns_slice hkids.owns
      obtain ⟨na, ncap, rfl⟩ := owns_slice hnv
      have Hb := hide' hb
      have Hkids := hide' hkids
      clear hb hkids hnv
      go_wp2_with fail
      refine (listed_any 1000 _ (.slice la q.1.length lcap) 0 [] (.slice none 0 0) lo xs q.1 ?_ (World.ownsRow_nil _ _ _ _) (by omega) (fun s hs => by have := Hy2.out s hs; omega) (by simp only [List.length_nil]; omega)).mono ?_
      · refine ⟨Hkids.out.owns.alloc _, fun i l' hl => ?_⟩
        obtain ⟨a', b', c', l1, h1, z1, z2, z3, g1, g2, g3, g4⟩ := Hkids.out.all i l' hl
        exact ⟨a', b', c', l1, h1, z1, z2, z3, g1, by simp; omega, g3, RepT.later 1000 g4 (fun k hk1 hk2 _ => Below.heap_alloc _ _ _ (by omega))⟩
      rintro e w2 ⟨rfl, hk2⟩
      have Hk2 := hide' hk2
      clear hk2
      go_wp2
      go_ret3
      refine ⟨rfl, (Hb.out.alloc Hb.out.size _).trans (Hk2.out.below ?_ (fun k h => by simp [ownOf, Value.ownBlock] at h))⟩
      have := Hb.out.size
      simp
      omega

end Go.Proofs.YtlmjilpjmgjjcaaGreatDoor

namespace Go.Proofs.YtlmjilpjmgjjcaaGreatDoor
open Go.RowKit
set_option linter.unusedSimpArgs false
set_option linter.unusedVariables false

theorem Tryz.infoClause : (Tryz.prog.info? 185).map (fun i => (i.zero, i.size, i.bytes)) = some (some (.agg #[.string ⟨#[]⟩, .int .i64 0, .slice none 0 0, .slice none 0 0, .int .i64 0]), 5, 80) := by kernel_rfl

/-- All blocks of terms are as they were. -/
structure KeepT (w w' : World) : Prop where
  size : w.heap.size ≤ w'.heap.size
  block : ∀ k, isTerms w k → w'.heap[k]? = w.heap[k]?
theorem KeepT.refl (w : World) : KeepT w w := ⟨Nat.le_refl _, fun _ _ => rfl⟩
theorem KeepT.trans {a b c : World} (h : KeepT a b) (h' : KeepT b c) : KeepT a c :=
  ⟨Nat.le_trans h.size h'.size, fun k hk => by
    have e := h.block k hk
    have : isTerms b k := by obtain ⟨cur, hc⟩ := hk; exact ⟨cur, e.trans hc⟩
    exact (h'.block k this).trans e⟩
theorem KeepT.of_kept {S : Nat → Prop} {w w' : World} (h : Kept S w w') (hs : ∀ k, isTerms w k → ¬ S k) : KeepT w w' :=
  ⟨h.size, fun k hk => h.block k (by obtain ⟨cur, hc⟩ := hk; exact lt_of_block hc) (hs k hk)⟩
theorem KeepT.of_apart {B : Nat} {e : TypeId} {size n : Nat} {v : Value} {xs : List Value} {w w' : World} (h : Kept (ownOf v) w w') (ho : w.ownsRow B e size v n xs) (he : e ≠ 183) : KeepT w w' :=
  KeepT.of_kept h (fun k hk => by obtain ⟨cur, hc⟩ := hk; exact owns_apart ho he hc)
theorem KeepT.alloc (w : World) (o : Obj) : KeepT w (w.alloc o) := ⟨by simp, fun k hk => by obtain ⟨cur, hc⟩ := hk; exact Below.heap_alloc _ _ _ (lt_of_block hc)⟩
theorem RepT.keep {f : Nat} {w w' : World} {lo hi : Nat} {a b c : Value} {l : List Sym} (h : RepT f w lo hi a b c l) (hk : KeepT w w') : RepT f w' lo hi a b c l := h.later f (fun k _ _ ht => hk.block k ht)
theorem Kids.keep {f : Nat} {w w' : World} {lo : Nat} {cv : Value} {acc : List (List Sym)} {xs : List Value} (h : Kids f w lo cv acc xs) (hk : KeepT w w') : Kids f w' lo cv acc xs :=
  ⟨owns_same h.owns (fun k e => hk.block k (owns_terms h.owns k e)), fun i l' hl => by
    obtain ⟨a', b', c', l1, h1, y1, y2, y3, g1, g2, g3, g4⟩ := h.all i l' hl
    exact ⟨a', b', c', l1, h1, y1, y2, y3, g1, Nat.le_trans g2 hk.size, g3, g4.keep hk⟩⟩

/-- A clause in memory: five cells. -/
def ClsAt (w : World) (xs : List Value) (c : Cls) : Prop := ∃ s n ca cl cc bv lo hi lo' ys, xs = [.string s, .int .i64 n, .slice ca cl cc, bv, .int .i64 c.n] ∧ RepT 1000 w lo hi (.string s) (.int .i64 n) (.slice ca cl cc) c.head ∧ Kids 1000 w lo' bv c.body ys
theorem ClsAt.keep {w w' : World} {xs : List Value} {c : Cls} (h : ClsAt w xs c) (hk : KeepT w w') : ClsAt w' xs c := by
  obtain ⟨s, n, ca, cl, cc, bv, lo, hi, lo', ys, h1, h2, h3⟩ := h
  exact ⟨s, n, ca, cl, cc, bv, lo, hi, lo', ys, h1, h2.keep hk, h3.keep hk⟩

/-- Clauses in memory. -/
structure ClsRow (w : World) (lo : Nat) (lv : Value) (cs : List Cls) (xs : List (List Value)) : Prop where
  owns : w.ownsRow lo 185 5 lv cs.length xs.flatten
  len : xs.length = cs.length
  five : ∀ x ∈ xs, x.length = 5
  all : ∀ (i : Nat) (c : Cls), cs[i]? = some c → ∃ x, xs[i]? = some x ∧ ClsAt w x c
theorem ClsRow.nil (w : World) (lo : Nat) : ClsRow w lo (.slice none 0 0) [] [] := ⟨World.ownsRow_nil _ _ _ _, rfl, by simp, fun i c h => by simp at h⟩

/-- A clause at the head of some tokens. -/
def pclause (ts : List Tok) : Option (Cls × List Tok) :=
  match pterm 1000 ts [] with
  | none => none
  | some r => match r.2.1 with
    | [] => none
    | x :: rest => if x.kind = 3 then (pterms 1000 1000 rest r.2.2 []).map (fun q => (⟨r.1, q.1, q.2.2⟩, q.2.1)) else some (⟨r.1, [], r.2.2⟩, rest)
/-- The clauses of a program. -/
def pprog : Nat → List Tok → List Cls → Option (List Cls)
  | 0, _, _ => none
  | _ + 1, [], _ => none
  | g + 1, t :: ts, acc =>
    if t.kind = 4 then some acc
    else match pclause (t :: ts) with
      | none => none
      | some r => pprog g r.2 (acc ++ [r.1])

theorem ClsRow.keep {w w' : World} {lo : Nat} {lv : Value} {cs : List Cls} {xs : List (List Value)} (h : ClsRow w lo lv cs xs) (hk : KeepT w w') (ho : w'.ownsRow lo 185 5 lv cs.length xs.flatten) : ClsRow w' lo lv cs xs :=
  ⟨ho, h.len, h.five, fun i c hc => by obtain ⟨x, h1, h2⟩ := h.all i c hc; exact ⟨x, h1, h2.keep hk⟩⟩

theorem ClsRow.add {w w' : World} {lo : Nat} {lv lv' : Value} {cs : List Cls} {xs : List (List Value)} {c : Cls} {x : List Value} (h : ClsRow w lo lv cs xs) (hx : ClsAt w x c) (hx5 : x.length = 5) (hk : KeepT w w')
    (ho : w'.ownsRow lo 185 5 lv' (cs.length + 1) (xs.flatten ++ x)) : ClsRow w' lo lv' (cs ++ [c]) (xs ++ [x]) := by
  refine ⟨by simpa using ho, by simp [h.len], ?_, ?_⟩
  · intro y hy
    simp at hy
    rcases hy with hy | rfl
    · exact h.five y hy
    · exact hx5
  · intro i d hd
    rcases Nat.lt_or_ge i cs.length with hi | hi
    · rw [List.getElem?_append_left hi] at hd
      obtain ⟨y, h1, h2⟩ := h.all i d hd
      exact ⟨y, by rw [List.getElem?_append_left (by rw [h.len]; exact hi)]; exact h1, h2.keep hk⟩
    · have hi' : i = cs.length := by
        have : i < (cs ++ [c]).length := (List.getElem?_eq_some_iff.1 hd).1
        simp at this; omega
      subst hi'
      simp at hd
      subst hd
      exact ⟨x, by rw [← h.len]; simp, hx.keep hk⟩

theorem cls_one {s : ByteArray} {n m : Int} {ca ba : Option Addr} {cl cc bl bc : Nat} : ∀ u ∈ (#[Value.string s, .int .i64 n, .slice ca cl cc, .slice ba bl bc, .int .i64 m] : Array Value).toList, u.oneCell' = true := by
  intro u hu
  simp at hu
  rcases hu with rfl | rfl | rfl | rfl | rfl <;> rfl

end Go.Proofs.YtlmjilpjmgjjcaaGreatDoor
