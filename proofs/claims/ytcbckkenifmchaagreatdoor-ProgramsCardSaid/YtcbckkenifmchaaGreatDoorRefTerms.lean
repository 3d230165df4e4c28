/-
  PROVED HERE: what the reference's 'terms' reads out of a row of tokens (the conditions stand in the statement).
-/
import Derived.Test.YtcbckkenifmchaaGreatDoorRefTermB
namespace Go.Proofs.YtcbckkenifmchaaGreatDoor
open Go.RowKit
set_option linter.unusedSimpArgs false
set_option linter.unusedVariables false

/-- A term more: the world behind the append. -/
theorem Kids.step0 {f : Nat} {wr w1 w3 : World} {lo : Nat} {nvj nv' cv cv' : Value} {B nn nn' : Nat} {ns ns' : List Value} {acc : List (List Sym)} {xs : List Value} {s : ByteArray} {n : Int} {ca : Option Addr} {cl cc : Nat} {l : List Sym} {o : Obj}
    (hk : Kids f wr lo cv acc xs) (hlo' : lo ≤ wr.heap.size) (hnv : wr.ownsRow B 9 1 nvj nn ns) (hap : Appended wr B 9 1 nvj nn' ns' nv' w1)
    (hr : RepT f w1 wr.heap.size w1.heap.size (.string s) (.int .i64 n) (.slice ca cl cc) l) (ha : Appended (w1.alloc o) lo 74 3 cv (acc.length + 1) (xs ++ [.string s, .int .i64 n, .slice ca cl cc]) cv' w3) :
    Kids f w3 lo cv' (acc ++ [l]) (xs ++ [.string s, .int .i64 n, .slice ca cl cc]) ∧ Kept (ownOf cv) w1 w3 := by
  have hcvlt : ∀ k, cv.ownBlock = some k → lo ≤ k ∧ k < wr.heap.size := hk.owns.lt
  have k13 : Kept (ownOf cv) w1 w3 := ((Kept.refl _ w1).alloc o).then ha.kept (fun _ _ e => e)
  have k14 := k13
  have hcv' : ∀ k, cv'.ownBlock = some k → (lo ≤ k ∧ k < wr.heap.size ∧ cv.ownBlock = some k) ∨ w1.heap.size < k := by
    intro k hk
    rcases ha.where_ with h | ⟨g, h, hg⟩
    · rw [hk] at h
      exact Or.inl ⟨(hcvlt k h.symm).1, (hcvlt k h.symm).2, h.symm⟩
    · rw [hk] at h
      simp at h hg
      exact Or.inr (by omega)
  have hxl : xs.length = acc.length * 3 := hk.owns.1
  have hw14 : w1.heap.size ≤ w3.heap.size := k14.size
  have hwr1 := hap.kept.size
  refine ⟨⟨?_, ?_⟩, k14⟩
  · have := ha.owns
    simpa using this
  · intro i l' hl
    rcases Nat.lt_or_ge i acc.length with hi | hi
    · rw [List.getElem?_append_left hi] at hl
      obtain ⟨a', b', c', l1, h1, x1, x2, x3, g1, g2, g3, g4⟩ := hk.all i l' hl
      refine ⟨a', b', c', l1, h1, ?_, ?_, ?_, g1, by omega, ?_, ?_⟩
      · rw [List.getElem?_append_left (by omega)]; exact x1
      · rw [List.getElem?_append_left (by omega)]; exact x2
      · rw [List.getElem?_append_left (by omega)]; exact x3
      · intro k hk' hin
        rcases hcv' k hk' with h | h
        · exact g3 k h.2.2 hin
        · omega
      · refine g4.later (w := wr) _ (fun k hk1 hk2 ht => ?_)
        obtain ⟨cur, hcur⟩ := ht
        have e1 : w1.heap[k]? = wr.heap[k]? := hap.kept.block k (by omega) (owns_apart hnv (by decide) hcur)
        have e2 := k14.block k (by omega) (fun h => g3 k h ⟨hk1, hk2⟩)
        exact e2.trans e1
    · have hi' : i = acc.length := by
        have : i < (acc ++ [l]).length := (List.getElem?_eq_some_iff.1 hl).1
        simp at this; omega
      subst hi'
      simp at hl
      subst hl
      refine ⟨.string s, .int .i64 n, .slice ca cl cc, wr.heap.size, w1.heap.size, ?_, ?_, ?_, hlo', by omega, ?_, ?_⟩
      · rw [List.getElem?_append_right (by omega), hxl]; simp
      · rw [List.getElem?_append_right (by omega), hxl]; simp
      · rw [List.getElem?_append_right (by omega), hxl]; simp
      · intro k hk' hin
        rcases hcv' k hk' with h | h <;> omega
      · refine hr.later _ (fun k hk1 hk2 _ => k14.block k hk2 (fun h => ?_))
        have := (hcvlt k h).2
        omega

/-- The terms up to the dot. -/
def pterms (f : Nat) : Nat → List Tok → Names → List (List Sym) → Option (List (List Sym) × List Tok × Names)
  | 0, _, _, _ => none
  | g + 1, ts, names, acc =>
    match pterm f ts names with
    | none => none
    | some r =>
      match r.2.1 with
      | [] => none
      | x :: rest => if x.kind = 46 then some (acc ++ [r.1], rest, r.2.2) else pterms f g rest r.2.2 (acc ++ [r.1])

set_option maxRecDepth 10000 in
set_option maxHeartbeats 1000000 in
theorem terms_any (f gn : Nat) (w : World) (ts : List Tok) (k : Nat) (tv : Value) (Bt B : Nat) (names : Names) (nv : Value) (q : List (List Sym) × List Tok × Names)
    (hq : pterms f gn (ts.drop k) names [] = some q) (hts : w.ownsRow Bt 121 3 tv ts.length (toksCells ts)) (hnv : w.ownsRow B 9 1 nv names.length (strs names)) (hB : B ≤ w.heap.size)
    (hl : ts.length ≤ 1000) (hn : names.length + (ts.length - k) ≤ 1000) (htx : ∀ t ∈ ts, t.text.length ≤ 4096) (htn : ∀ i t, ts[i]? = some t → i + 1 < ts.length → t.text ≠ []) :
    Calls Tryz.prog 63 #[tv, .int .i64 k, nv] w fun e w' => ∃ lv nv' j xs, e = .returned (.tuple #[lv, .int .i64 (j : Nat), nv']) ∧ q.2.1 = ts.drop j ∧ k < j ∧ j ≤ ts.length ∧
      Kids f w' w.heap.size lv q.1 xs ∧ Appended w B 9 1 nv q.2.2.length (strs q.2.2) nv' w' := by
  have Hq := hide' hq
  have Hnv := hide' hnv
  have Hts := hide' hts
  have Hih := hide' (term_any f)
  have Hap0 : Hid (Appended w B 9 1 nv names.length (strs names) nv w) := ⟨hnv, Kept.refl _ w, Or.inl rfl⟩
  obtain ⟨na, ncap, rfl⟩ := owns_slice hnv
  obtain ⟨tva, tcap, rfl⟩ := owns_slice hts
  clear hts hnv hq
  go_enter Tryz.func63, Tryz.ntmps63
  go_wp2
  go_loopg [1, 2, 9] gn (fun gk i nm lv wr => ∃ (j : Nat) (nms : Names) (acc : List (List Sym)) (xs : List Value), i = .int .i64 (j : Nat) ∧ k ≤ j ∧ j ≤ ts.length ∧ acc.length ≤ j ∧ nms.length + (ts.length - j) ≤ 1000 ∧
      pterms f gk (ts.drop j) nms acc = some q ∧ Kids f wr w.heap.size lv acc xs ∧ w.heap.size ≤ wr.heap.size ∧
      Appended w B 9 1 (.slice na names.length ncap) nms.length (strs nms) nm wr)
  case atStart =>
    rcases Nat.lt_or_ge ts.length k with hk | hk
    · exfalso
      have h := Hq.out
      rw [List.drop_eq_nil_of_le (by omega)] at h
      cases gn <;> cases f <;> simp [pterms, pterm] at h
    · exact ⟨k, names, [], [], rfl, by omega, by omega, by simp, by omega, Hq.out, Kids.nil _ _ _, by omega, Hap0.out⟩
  case round =>
    obtain ⟨j, nms, acc, xs, rfl, hkj, hjl, haj, hnm, hpa, hkids, hsz, hap⟩ := hrel
    have hnvr := hap.owns
    obtain ⟨nja, njcap, rfl⟩ := owns_slice hnvr
    obtain ⟨cva, cvcap, rfl⟩ := owns_slice hkids.owns
    have htsr : wr.ownsRow Bt 121 3 (.slice tva ts.length tcap) ts.length (toksCells ts) := hap.kept.owns Hts.out (fun k hk => by
      obtain ⟨cur, hc⟩ := owns_terms Hts.out k hk
      exact owns_apart Hnv.out (by decide) hc)
    cases gk with
    | zero => simp [pterms] at hpa
    | succ gk =>
      rw [pterms] at hpa
      cases hpt : pterm f (ts.drop j) nms with
      | none => rw [hpt] at hpa; simp at hpa
      | some r' =>
        rw [hpt] at hpa
        simp only at hpa
        obtain ⟨nb, hb1, hb2, hb3, hb4⟩ := pterm_behind f _ nms r' hpt
        simp only [List.length_drop] at hb2
        have HI := hide' (Hih.out wr ts j (.slice tva ts.length tcap) Bt B nms (.slice nja nms.length njcap) r' hpt htsr hnvr (by omega) hl (by omega) htx htn)
        have Hkids := hide' hkids
        have Hap := hide' hap
        have Hpa := hide' hpa
        have Hnvr := hide' hnvr
        have Htsr := hide' htsr
        have Hb3 := hide' hb3
        clear hkids hap hpa hnvr htsr hpt hb3
        go_wp2_with fail
        refine HI.out.mono ?_
        rintro e w1 ⟨a, b, c, nv', j', rfl, hrest, hj1, hj2, hrep, hap1⟩
        obtain ⟨sa, bn, ca, cl, cc, rfl, rfl, rfl⟩ := hrep.shape
        obtain ⟨nva, nvcap, rfl⟩ := owns_slice hap1.owns
        have hcvown : w1.ownsRow w.heap.size 74 3 (.slice cva acc.length cvcap) acc.length xs := hap1.kept.owns Hkids.out.owns (fun k hk => by
          obtain ⟨cur, hc⟩ := owns_terms Hkids.out.owns k hk
          exact owns_apart Hnvr.out (by decide) hc)
        have hts1 : w1.ownsRow Bt 121 3 (.slice tva ts.length tcap) ts.length (toksCells ts) := hap1.kept.owns Htsr.out (fun k hk => by
          obtain ⟨cur, hc⟩ := owns_terms Htsr.out k hk
          exact owns_apart Hnvr.out (by decide) hc)
        have hsz1 := hap1.kept.size
        have hj3 : j' = j + nb := by
          have h1 := congrArg List.length hrest
          rw [Hb3.out] at h1
          simp only [List.length_drop] at h1
          omega
        have Hcv := hide' hcvown
        have Hts1 := hide' hts1
        have Hrep := hide' hrep
        have Hap1 := hide' hap1
        have Hrest := hide' hrest
        have Hj3 := hide' hj3
        clear hcvown hrep hap1 hrest hts1 hj3
        go_wp2_with (at_builtin; refine wpList_append1 _ rfl (.tmp 21) (.tmp 23) 44 rfl w.heap.size 74 Tryz.infoTerm Tryz.underlying44 rfl (by decide) _ acc.length xs rfl (Hcv.out.alloc _) _ rfl (by simp) rfl term_one ?_ ?_ ?_)
        · omega
        · simp; omega
        intro cv' w3 hap3
        obtain ⟨c3a, c3cap, rfl⟩ := owns_slice hap3.owns
        have hstep := Hkids.out.step0 (by omega) Hnvr.out Hap1.out Hrep.out hap3
        have happ : Appended w B 9 1 (.slice na names.length ncap) r'.2.2.length (strs r'.2.2) (.slice nva r'.2.2.length nvcap) w3 := by
          refine (Hap.out.trans Hap1.out).around (Kept.refl _ w) (fun k e => (Hnv.out.lt k e).2) hstep.2 (fun k h => (Hkids.out.owns.lt k h).1) (fun k hk h => ?_)
          obtain ⟨cur, hc⟩ := owns_terms Hcv.out k h
          exact owns_apart Hap1.out.owns (by decide) hc hk
        have hts3 : w3.ownsRow Bt 121 3 (.slice tva ts.length tcap) ts.length (toksCells ts) := hstep.2.owns Hts1.out (fun k hk => by
          obtain ⟨cur, hc⟩ := owns_terms Hts1.out k hk
          exact owns_apart Hcv.out (by decide) hc)
        have Hpa' := Hpa.out
        rw [Hrest.out] at Hpa'
        have hs3 := hstep.2.size
        have hj3 := Hj3.out
        cases hdj : ts.drop j' with
        | nil => rw [hdj] at Hpa'; simp at Hpa'
        | cons x xr =>
          rw [hdj] at Hpa'
          simp only at Hpa'
          obtain ⟨hx, hxr, hxl⟩ := drop_at hdj
          obtain ⟨g', tcap', he, hg2, x0, _, _⟩ := tok_at hts3 hx
          simp only [Value.slice.injEq] at he
          obtain ⟨rfl, _, rfl⟩ := he
          have Hstep := hide' hstep
          have Happ := hide' happ
          have Hxr := hide' hxr
          have hn3 : r'.2.2.length + (ts.length - (j' + 1)) ≤ 1000 := by omega
          clear hap3 hstep happ hts3 hdj hx hxr hj3
          by_cases h46 : x.kind = 46
          · have HP : Hid ((acc ++ [r'.1], xr, r'.2.2) = q) := by rw [if_pos h46] at Hpa'; show _ = _; simpa using Hpa'
            clear Hpa'
            rw [h46] at x0
            go_wp2
            go_ret3
            rw [← HP.out]
            exact ⟨_, _, j' + 1, _, by go_num, Hxr.out.symm, by omega, by omega, Hstep.out.1, Happ.out⟩
          · have HP : Hid (pterms f gk xr r'.2.2 (acc ++ [r'.1]) = some q) := by rw [if_neg h46] at Hpa'; exact Hpa'
            have k46 : ((x.kind : Int) == 46) = false := by rw [beq_eq_false_iff_ne]; omega
            clear Hpa'
            go_wp2
            go_roundg gk
            case measure => omega
            case rel => exact ⟨j' + 1, r'.2.2, acc ++ [r'.1], _, by go_num, by omega, by omega, by simp; omega, hn3, by rw [Hxr.out]; exact HP.out, Hstep.out.1, by omega, Happ.out⟩

end Go.Proofs.YtcbckkenifmchaaGreatDoor
