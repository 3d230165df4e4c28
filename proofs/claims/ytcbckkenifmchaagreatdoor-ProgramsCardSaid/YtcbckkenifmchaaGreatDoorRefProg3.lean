/-
  PROVED HERE: what the reference's 'Program' answers, under the one condition that a program that is let by can be read (which is shown elsewhere).
-/
import Derived.Test.YtcbckkenifmchaaGreatDoorRefProg2
namespace Go.Proofs.YtcbckkenifmchaaGreatDoor
open Go.RowKit
set_option linter.unusedSimpArgs false
set_option linter.unusedVariables false

/-- A clause, written in order. -/
def wclause (c : Cls) : List UInt8 :=
  if c.body = [] then (wterm 1000 c.head []).1 ++ [46, 10]
  else (wterm 1000 c.head []).1 ++ [32, 58, 45, 32] ++ (wlisted 1000 [] c.body (wterm 1000 c.head []).2.1 ++ [46]) ++ [10]
/-- How many names and variables stand in a clause. -/
def csize (c : Cls) : Nat := c.head.length + c.body.flatten.length

theorem wclause_len (c : Cls) (h1 : IsT 1000 c.head) (h2 : ∀ l ∈ c.body, IsT 1000 l) (h3 : ∀ s ∈ c.head, s.name.length ≤ 4096) (h4 : ∀ s ∈ c.body.flatten, s.name.length ≤ 4096) (h5 : csize c ≤ 900) :
    (wclause c).length ≤ 4110 * csize c := by
  unfold csize at *
  have a1 := wterm_len 1000 c.head h1 h3 [] (by simp only [List.length_nil]; omega)
  have a2 := wlisted_len 1000 c.body h2 h4 [] (wterm 1000 c.head []).2.1 (by simp) (by simp only [List.length_nil] at a1; omega)
  have a3 := isT_pos 1000 c.head h1
  unfold wclause
  split
  · simp only [List.length_append, List.length_cons, List.length_nil]; omega
  · simp only [List.length_append, List.length_cons, List.length_nil]; omega

theorem ClsRow.cell {w : World} {lo g cap : Nat} {cs : List Cls} {xs : List (List Value)} (h : ClsRow w lo (.slice (some ⟨g, 0, none⟩) cs.length cap) cs xs) {i : Nat} {x : List Value} (hx : xs[i]? = some x) (j : Nat) (hj : j < 5) (v : Value) (hv : x[j]? = some v) :
    w.cell? ⟨g, i * 5 + j, none⟩ = some v := by
  refine owns_cell h.owns (i * 5 + j) v ?_
  have five := h.five
  clear h
  induction xs generalizing i with
  | nil => simp at hx
  | cons y ys ih =>
    have hy := five y (by simp)
    cases i with
    | zero =>
      simp at hx; subst hx
      rw [List.flatten_cons, List.getElem?_append_left (by omega)]
      simpa using hv
    | succ i =>
      rw [List.flatten_cons, List.getElem?_append_right (by omega)]
      rw [← ih (i := i) (by simpa using hx) (fun z hz => five z (by simp [hz]))]
      congr 1
      omega

theorem sum_take (f : Cls → Nat) (cs : List Cls) (k : Nat) (c : Cls) (h : cs[k]? = some c) : ((cs.take (k + 1)).map f).sum = ((cs.take k).map f).sum + f c := by
  have hk : k < cs.length := (List.getElem?_eq_some_iff.1 h).1
  rw [List.take_succ_eq_append_getElem hk, (List.getElem?_eq_some_iff.1 h).2]
  simp
theorem sum_take_le (f : Cls → Nat) (cs : List Cls) (k : Nat) : ((cs.take k).map f).sum ≤ (cs.map f).sum := by
  induction cs generalizing k with
  | nil => simp
  | cons c cs ih =>
    cases k with
    | zero => simp
    | succ k =>
      have := ih k
      simp only [List.take_succ_cons, List.map_cons, List.sum_cons]
      omega
theorem text_take (cs : List Cls) (k : Nat) (c : Cls) (h : cs[k]? = some c) : (cs.take (k + 1)).flatMap wclause = (cs.take k).flatMap wclause ++ wclause c := by
  have hk : k < cs.length := (List.getElem?_eq_some_iff.1 h).1
  rw [List.take_succ_eq_append_getElem hk, (List.getElem?_eq_some_iff.1 h).2]
  simp

set_option maxRecDepth 10000 in
set_option maxHeartbeats 1000000 in
theorem program_text (s : ByteArray) (w : World) (cs : List Cls) (hs : s.size ≤ 800) (he : (lover (alltoks s) (lstart0 false)).1 = 0) (hq : pprog 1000 (alltoks s) [] = some cs)
    (hsum : (cs.map csize).sum ≤ 900) (hcl : cs.length ≤ 900) (hnm : ∀ c ∈ cs, (∀ s ∈ c.head, s.name.length ≤ 4096) ∧ ∀ s ∈ c.body.flatten, s.name.length ≤ 4096) :
    Calls Tryz.prog 15 #[.string s] w fun e w' => e = .returned (.tuple #[.string ⟨(cs.flatMap wclause).toArray⟩, .int .i64 0, .int .i64 0]) ∧ Below w.heap.size w w' := by
  have Hw := hide' (written_any 1000)
  go_enter Tryz.func15, Tryz.ntmps15
  go_wp2_with fail
  refine (readProgram_ok s _ cs hs he hq).mono ?_
  rintro e w1 ⟨lv, xs, rfl, hrow, hb1⟩
  obtain ⟨la, lcap, rfl⟩ := owns_slice hrow.owns
  have Hrow := hide' hrow
  have Hb1 := hide' hb1
  have Hnm := hide' hnm
  have hsz1 := hb1.size
  clear hrow hb1 hnm hq he
  go_wp2
  go_loopw [8, 9] (fun tx i wr => ∃ (k : Nat), k ≤ cs.length ∧ i = .int .i64 k ∧ tx = .string ⟨((cs.take k).flatMap wclause).toArray⟩ ∧ ((cs.take k).flatMap wclause).length ≤ 4110 * ((cs.take k).map csize).sum ∧ Kept noBlock w1 wr) (fun _ i _ => cs.length - (intOf i).toNat)
  case atStart => exact ⟨0, Nat.zero_le _, rfl, by simp, by simp, Kept.refl _ _⟩
  case round =>
    obtain ⟨k, hk, rfl, rfl, hlen, hkept⟩ := hrel
    have hsk := sum_take_le csize cs k
    by_cases hlt : k < cs.length
    · obtain ⟨c, hc⟩ : ∃ c, cs[k]? = some c := ⟨_, List.getElem?_eq_getElem hlt⟩
      have hmem : c ∈ cs := List.mem_of_getElem? hc
      have hsk1 := sum_take csize cs k c hc
      have hsk2 := sum_take_le csize cs (k + 1)
      have htx := text_take cs k c hc
      have hktr : KeepT w1 wr := KeepT.of_kept hkept (fun _ _ h => h)
      have hrowr := Hrow.out.keep hktr (hkept.owns Hrow.out.owns (fun _ _ h => h))
      obtain ⟨g, lcap', lcur, he2, hBg, hg, hcp⟩ := owns_some hrowr.owns (by omega)
      simp only [Value.slice.injEq] at he2
      obtain ⟨rfl, _, rfl⟩ := he2
      obtain ⟨x, hx, hat⟩ := hrowr.all k c hc
      obtain ⟨sa, bn, ca, cl, cc, bv, lo, hi, lo', ys, rfl, hrep, hkids⟩ := hat
      obtain ⟨ba, bcap, rfl⟩ := owns_slice hkids.owns
      have y0 : wr.cell? ⟨g, k * 5, none⟩ = some (.string sa) := hrowr.cell hx 0 (by omega) _ rfl
      have y1 : wr.cell? ⟨g, k * 5 + 1, none⟩ = some (.int .i64 bn) := hrowr.cell hx 1 (by omega) _ rfl
      have y2 : wr.cell? ⟨g, k * 5 + 2, none⟩ = some (.slice ca cl cc) := hrowr.cell hx 2 (by omega) _ rfl
      have y3 : wr.cell? ⟨g, k * 5 + 3, none⟩ = some (.slice ba c.body.length bcap) := hrowr.cell hx 3 (by omega) _ rfl
      have hcs : csize c ≤ 900 := by omega
      have hcs' := hcs
      unfold csize at hcs'
      obtain ⟨hn1, hn2⟩ := Hnm.out c hmem
      have hwcl := wclause_len c (hrep.isT 1000) hkids.isT hn1 hn2 hcs
      have hwt := wterm_len 1000 c.head (hrep.isT 1000) hn1 [] (by simp only [List.length_nil]; omega)
      simp only [List.length_nil] at hwt
      have hwl := wlisted_len 1000 c.body hkids.isT hn2 [] (wterm 1000 c.head []).2.1 (by simp) (by omega)
      have hl1 : (wterm 1000 c.head []).1.length ≤ 5000000 := by omega
      have hl2 : (wlisted 1000 [] c.body (wterm 1000 c.head []).2.1).length ≤ 5000000 := by omega
      have hl3 : ((cs.take k).flatMap wclause).length ≤ 5000000 := by omega
      have Hn2 := hide' hn2
      have HI := hide' (Hw.out wr lo hi _ _ _ c.head 0 [] (.slice none 0 0) hrep (World.ownsRow_nil _ _ _ _) (by omega) hn1 (by simp only [List.length_nil]; omega))
      have Hkids := hide' hkids
      have Hkept := hide' hkept
      have Htx := hide' htx
      have Hlen : Hid (((cs.take (k + 1)).flatMap wclause).length ≤ 4110 * ((cs.take (k + 1)).map csize).sum) := by
        show _ ≤ _
        rw [htx, List.length_append, hsk1]; omega
      clear hlen hkept hktr hrowr hrep hkids htx hn1 hn2 hx hg hwcl hc
      generalize hdt : (cs.take k).flatMap wclause = dt at *
      have Hdt := hide' hdt
      clear hdt
      go_wp2_with fail
      refine HI.out.mono ?_
      rintro e w2 ⟨sv, rfl, hap⟩
      obtain ⟨sva, svcap, rfl⟩ := owns_slice hap.owns
      have hk2 : Kept noBlock wr w2 := hap.kept.mono (fun k _ h => by simp [ownOf, Value.ownBlock] at h)
      have y3' : w2.cell? ⟨g, k * 5 + 3, none⟩ = some (.slice ba c.body.length bcap) := hk2.cell y3 (fun h => h)
      have Hk2 := hide' hk2
      have Hap := hide' hap
      have Hkids2 := hide' (Hkids.out.keep (KeepT.of_kept hk2 (fun _ _ h => h)))
      have hsz2 := hk2.size
      clear hap hk2 y0 y1 y2 y3
      by_cases hbd : c.body = []
      · have hb0 : (((c.body.length : Nat) : Int) == 0) = true := by rw [hbd]; rfl
        have Hstr : Hid ((⟨dt.toArray⟩ : ByteArray) ++ ⟨(wterm 1000 c.head []).1.toArray⟩ ++ ⟨[46, 10].toArray⟩ = ⟨((cs.take (k + 1)).flatMap wclause).toArray⟩) := by
          show _ = _
          rw [str_cat, str_cat, Htx.out, wclause, if_pos hbd]
          simp
        have Hbd := hide' hbd
        clear hbd
        go_wp2
        go_roundw
        case rel => exact ⟨k + 1, by omega, by go_num, by rw [← Hstr.out], Hlen.out, Hkept.out.trans Hk2.out⟩
        case measure => simp [intOf]; omega
      · have hb0 : (((c.body.length : Nat) : Int) == 0) = false := by
          rw [beq_eq_false_iff_ne]
          intro h
          apply hbd
          apply List.eq_nil_of_length_eq_zero
          omega
        have Hstr : Hid ((⟨dt.toArray⟩ : ByteArray) ++ ⟨(wterm 1000 c.head []).1.toArray⟩ ++ ⟨[32, 58, 45, 32].toArray⟩ ++ ⟨(wlisted 1000 [] c.body (wterm 1000 c.head []).2.1 ++ [46]).toArray⟩ ++ ⟨[10].toArray⟩ = ⟨((cs.take (k + 1)).flatMap wclause).toArray⟩) := by
          show _ = _
          rw [str_cat, str_cat, str_cat, str_cat, Htx.out, wclause, if_neg hbd]
          simp
        clear hbd
        go_wp2_with fail
        refine (listed_any 1000 w2 _ 0 (wterm 1000 c.head []).2.1 (.slice sva (wterm 1000 c.head []).2.1.length svcap) lo' ys c.body Hkids2.out Hap.out.owns (by omega) Hn2.out (by omega)).mono ?_
        rintro e w3 ⟨rfl, hk3⟩
        have Hk3 : Hid (Kept noBlock wr w3) := Hk2.out.then hk3 (fun i hi h => by
          rcases Hap.out.where_ with h' | ⟨g', h', hg'⟩
          · have := h'.symm.trans h; simp [Value.ownBlock] at this
          · have := h'.symm.trans h; simp at this; omega)
        clear hk3
        go_wp2
        go_roundw
        case rel => exact ⟨k + 1, by omega, by go_num, by rw [← Hstr.out], Hlen.out, Hkept.out.trans Hk3.out⟩
        case measure => simp [intOf]; omega
    · have Hend : Hid ((cs.take k).flatMap wclause = cs.flatMap wclause) := by show _ = _; rw [List.take_of_length_le (by omega)]
      have Hkept := hide' hkept
      clear hkept
      go_wp2
      go_ret3
      rw [Hend.out]
      exact ⟨rfl, Hb1.out.trans (Hkept.out.below hsz1 (fun _ h => h.elim))⟩

end Go.Proofs.YtcbckkenifmchaaGreatDoor
