/-
  PROVED HERE: what the reference's 'Written' writes of a term that lies in memory (the conditions stand in the statement).
-/
import Derived.Test.YtcbckkenifmchaaGreatDoorRefWrite
import Derived.Test.YtcbckkenifmchaaGreatDoorRefTermA
import Derived.BigQuiet
import Derived.Deep.QuietTactic
namespace Go.Proofs.YtcbckkenifmchaaGreatDoor
open Go.RowKit
set_option linter.unusedSimpArgs false
set_option linter.unusedVariables false

theorem Kept.drewN {S : Nat → Prop} {a w : World} (h : Kept S a w) (n : Nat) : Kept S a (w.drewN n) := ⟨h.os, h.tape, h.output, h.size, h.block⟩

def WrittenSaid (f : Nat) : Prop := ∀ (w : World) (lo hi : Nat) (a b c : Value) (l : List Sym) (B : Nat) (seen : List Nat) (sv : Value),
  RepT f w lo hi a b c l → w.ownsRow B 3 1 sv seen.length (ints seen) → B ≤ w.heap.size → (∀ s ∈ l, s.name.length ≤ 4096) → seen.length + l.length ≤ 1000 →
  Calls Tryz.prog 34 #[.agg #[a, b, c], sv] w fun e w' => ∃ sv', e = .returned (.tuple #[.string ⟨(wterm f l seen).1.toArray⟩, sv']) ∧ Appended w B 3 1 sv (wterm f l seen).2.1.length (ints (wterm f l seen).2.1) sv' w'

theorem wvar_hit {seen : List Nat} {n k : Nat} (hk : k < seen.length) (h : seen[k] = n) (hn : n ∉ seen.take k) : wvar n seen = (calledL k, seen) := by
  have hm : n ∈ seen := by rw [← h]; exact List.getElem_mem _
  unfold wvar
  rw [if_pos hm]
  congr 2
  have h1 : seen.idxOf n ≤ k := by
    rcases Nat.lt_or_ge k (seen.idxOf n) with hl | hl
    · have := List.not_of_lt_findIdx (p := (· == n)) (xs := seen) hl
      simp [h] at this
    · exact hl
  rcases Nat.lt_or_ge (seen.idxOf n) k with hl | hl
  · exfalso
    apply hn
    have hlt : seen.idxOf n < seen.length := List.idxOf_lt_length_of_mem hm
    have : seen[seen.idxOf n] = n := List.getElem_idxOf hlt
    rw [← this]
    rw [List.mem_take_iff_getElem]
    exact ⟨seen.idxOf n, by omega, rfl⟩
  · omega
theorem wvar_miss {seen : List Nat} {n k : Nat} (hk : ¬ k < seen.length) (hn : n ∉ seen.take k) : wvar n seen = (calledL seen.length, seen ++ [n]) := by
  rw [List.take_of_length_le (by omega)] at hn
  unfold wvar
  rw [if_neg hn]
theorem seen_on {seen : List Nat} {n k : Nat} (hk : k < seen.length) (h : ¬ seen[k] = n) (hn : n ∉ seen.take k) : n ∉ seen.take (k + 1) := by
  rw [List.take_succ_eq_append_getElem hk]
  simp only [List.mem_append, List.mem_singleton, not_or]
  exact ⟨hn, fun e => h e.symm⟩

set_option maxRecDepth 10000 in
set_option maxHeartbeats 1000000 in
theorem written_var (w : World) (n : Nat) (B : Nat) (seen : List Nat) (sv : Value) (hsv : w.ownsRow B 3 1 sv seen.length (ints seen)) (hB : B ≤ w.heap.size) (hs : seen.length ≤ 999) :
    Calls Tryz.prog 34 #[.agg #[.string ⟨#[]⟩, .int .i64 n, .slice none 0 0], sv] w fun e w' => ∃ sv', e = .returned (.tuple #[.string ⟨(wvar n seen).1.toArray⟩, sv']) ∧ Appended w B 3 1 sv (wvar n seen).2.length (ints (wvar n seen).2) sv' w' := by
  obtain ⟨sa, scap, rfl⟩ := owns_slice hsv
  have Hsv := hide' hsv
  clear hsv
  go_enter Tryz.func34, Tryz.ntmps34
  go_wp2
  go_loopw [6] (fun i wr => ∃ k : Nat, k ≤ seen.length ∧ i = .int .i64 k ∧ n ∉ seen.take k ∧ Kept noBlock w wr ∧ wr.heap[w.heap.size]? = some (.cells #[.string ⟨#[]⟩, .int .i64 n, .slice none 0 0] 74 (0, 0))) (fun i _ => seen.length - (intOf i).toNat)
  case atStart => exact ⟨0, Nat.zero_le _, rfl, by simp, (Kept.refl _ w).alloc _, heap_alloc_new w _⟩
  case round =>
    obtain ⟨k, hk, rfl, hnot, hkept, hbox⟩ := hrel
    have Hnot := hide' hnot
    have Hkept := hide' hkept
    have Hbox := hide' hbox
    have Hsvr := hide' (hkept.owns Hsv.out (fun _ _ h => h))
    have b1 : wr.cell? ⟨w.heap.size, 1, none⟩ = some (.int .i64 n) := cell_of_block hbox 1 _ rfl
    have hsz := hkept.size
    clear hnot hkept hbox
    by_cases hlt : k < seen.length
    · obtain ⟨g, cap', cur, he, hBg, hg, hcp⟩ := owns_some Hsvr.out (by omega)
      simp only [Value.slice.injEq] at he
      obtain ⟨rfl, _, rfl⟩ := he
      obtain ⟨m, hm⟩ : ∃ m, m = seen[k] := ⟨_, rfl⟩
      have hc : wr.cell? ⟨g, k, none⟩ = some (.int .i64 m) := owns_cell Hsvr.out k _ (by simp [ints, hlt, hm])
      have Hm := hide' hm
      clear hg hm
      cases hmn : ((m : Int) == (n : Int))
      · have hq : ¬ m = n := by
          have := beq_eq_false_iff_ne.1 hmn
          omega
        go_wp2_with fail
        go_quiet (fail)
        go_wp2_with fail
        go_roundw
        case rel => exact ⟨k + 1, by omega, by go_num, seen_on hlt (fun h => hq (Hm.out.trans h)) Hnot.out, ⟨Hkept.out.os, Hkept.out.tape, Hkept.out.output, Hkept.out.size, Hkept.out.block⟩, Hbox.out⟩
        case measure => simp [intOf]; omega
      · have hq : m = n := by
          have := eq_of_beq hmn
          omega
        have Hw := hide' (wvar_hit hlt (Hm.out.symm.trans hq) Hnot.out)
        clear hq
        go_wp2_with fail
        go_quiet (fail)
        go_wp2_with fail
        refine (called_any k _ (by omega)).mono ?_
        rintro e w' ⟨rfl, rfl⟩
        go_wp2_with fail
        go_ret2
        rw [Hw.out]
        exact ⟨_, rfl, ⟨Hsvr.out, (Hkept.out.drewN _).mono (fun _ _ h => h.elim), Or.inl rfl⟩⟩
    · have Hw := hide' (wvar_miss hlt Hnot.out)
      go_wp2_with fail
      refine (called_any seen.length _ (by omega)).mono ?_
      rintro e w' ⟨rfl, rfl⟩
      go_wp2_with (at_builtin; refine wpList_append1 _ rfl (.tmp 36) (.tmp 39) 28 rfl B 3 Tryz.infoInt Tryz.underlying28 rfl (by decide) _ seen.length (ints seen) rfl Hsvr.out _ rfl rfl rfl (int_one _) ?_ ?_ ?_)
      · omega
      · omega
      intro v' w1 hap
      have Hap := hide' hap
      clear hap
      go_wp2
      go_ret2
      rw [Hw.out]
      refine ⟨v', rfl, ?_⟩
      have h := Hap.out.around (S := noBlock) (Hkept.out.mono (fun _ _ h => h.elim)) (fun k e => (Hsv.out.lt k e).2) (Kept.refl _ _) (fun _ h => h.elim) (fun _ _ h => h)
      simpa [ints] using h

set_option maxRecDepth 10000 in
set_option maxHeartbeats 1000000 in
theorem written_name (w : World) (nm : List UInt8) (hnm : nm ≠ []) (c : Value) (B : Nat) (seen : List Nat) (sv : Value) (lo : Nat) (xs : List Value) (hc : w.ownsRow lo 74 3 c 0 xs) (hsv : w.ownsRow B 3 1 sv seen.length (ints seen)) :
    Calls Tryz.prog 34 #[.agg #[.string ⟨nm.toArray⟩, .int .i64 0, c], sv] w fun e w' => ∃ sv', e = .returned (.tuple #[.string ⟨nm.toArray⟩, sv']) ∧ Appended w B 3 1 sv seen.length (ints seen) sv' w' := by
  obtain ⟨sa, scap, rfl⟩ := owns_slice hsv
  obtain ⟨ca, ccap, rfl⟩ := owns_slice hc
  have Hsv := hide' hsv
  clear hsv hc
  have he : nm.isEmpty = false := by simpa using hnm
  go_enter Tryz.func34, Tryz.ntmps34
  go_wp2
  go_ret2
  exact ⟨_, rfl, ⟨Hsv.out.alloc _, (Kept.refl _ w).alloc _, Or.inl rfl⟩⟩

set_option maxRecDepth 10000 in
set_option maxHeartbeats 1000000 in
theorem written_args (f : Nat) (IH : WrittenSaid f) (w : World) (nm : List UInt8) (hnm : nm ≠ []) (c : Value) (B : Nat) (seen : List Nat) (sv : Value) (lo hi : Nat) (xs : List Value) (ls : List (List Sym)) (hls : ls ≠ [])
    (hc : w.ownsRow lo 74 3 c ls.length xs) (hk : ∀ (i : Nat) (l' : List Sym), ls[i]? = some l' → ∃ a' b' c', xs[i * 3]? = some a' ∧ xs[i * 3 + 1]? = some b' ∧ xs[i * 3 + 2]? = some c' ∧ RepT f w lo hi a' b' c' l')
    (hsv : w.ownsRow B 3 1 sv seen.length (ints seen)) (hB : B ≤ w.heap.size) (hn : nm.length ≤ 4096) (hsn : ∀ s ∈ ls.flatten, s.name.length ≤ 4096) (hsl : seen.length + ls.flatten.length ≤ 999) :
    Calls Tryz.prog 34 #[.agg #[.string ⟨nm.toArray⟩, .int .i64 0, c], sv] w fun e w' => ∃ sv', e = .returned (.tuple #[.string ⟨(nm ++ (wkids f 40 ls seen).1 ++ [41]).toArray⟩, sv']) ∧
      Appended w B 3 1 sv (wkids f 40 ls seen).2.length (ints (wkids f 40 ls seen).2) sv' w' := by
  obtain ⟨sa, scap, rfl⟩ := owns_slice hsv
  obtain ⟨g, ccap, ccur, rfl, hgl, hgb, hgc⟩ := owns_some hc (by cases ls with | nil => exact absurd rfl hls | cons _ _ => simp)
  have Hsv := hide' hsv
  have Hc := hide' hc
  have Hk := hide' hk
  have Hih := hide' IH
  have he : nm.isEmpty = false := by simpa using hnm
  have hl0 : (((ls.length : Nat) : Int) == 0) = false := by
    rw [beq_eq_false_iff_ne]
    cases ls with
    | nil => exact absurd rfl hls
    | cons _ _ => simp; omega
  have Hisf : Hid (∀ l' ∈ ls, IsT f l') := fun l' hl => by
    obtain ⟨i, hi, rfl⟩ := List.getElem_of_mem hl
    obtain ⟨a', b', c', _, _, _, g⟩ := hk i _ (List.getElem?_eq_getElem hi)
    exact g.isT f
  have hfl := flat_len f ls Hisf.out
  have Hlen := hide' (wkids_len f (wterm_len f) ls Hisf.out hsn 40 seen (by omega))
  clear hsv hc hk IH hgb
  go_enter Tryz.func34, Tryz.ntmps34
  go_wp2
  go_loopw [1, 9, 10] (fun sl tx i wr => ∃ (k : Nat) (sk : List Nat) (dt : List UInt8), k ≤ ls.length ∧ i = .int .i64 k ∧ tx = .string ⟨(nm ++ dt).toArray⟩ ∧
      dt ++ (wkids f (if k = 0 then 40 else 44) (ls.drop k) sk).1 = (wkids f 40 ls seen).1 ∧ (wkids f (if k = 0 then 40 else 44) (ls.drop k) sk).2 = (wkids f 40 ls seen).2 ∧
      sk.length + (ls.drop k).flatten.length ≤ 999 ∧ Appended w B 3 1 (.slice sa seen.length scap) sk.length (ints sk) sl wr ∧
      wr.heap[w.heap.size]? = some (.cells #[.string ⟨nm.toArray⟩, .int .i64 0, .slice (some ⟨g, 0, none⟩) ls.length ccap] 74 (0, 0))) (fun _ _ i _ => ls.length - (intOf i).toNat)
  case atStart => exact ⟨0, seen, [], Nat.zero_le _, rfl, by simp, by simp, by simp, by simpa using hsl, ⟨Hsv.out.alloc _, (Kept.refl _ w).alloc _, Or.inl rfl⟩, heap_alloc_new w _⟩
  case round =>
    obtain ⟨k, sk, dt, hk, rfl, rfl, hdt, hsd, hsk, hap, hbox⟩ := hrel
    obtain ⟨ska, skcap, rfl⟩ := owns_slice hap.owns
    have b0 : wr.cell? ⟨w.heap.size, 0, none⟩ = some (.string ⟨nm.toArray⟩) := cell_of_block hbox 0 _ rfl
    have b2 : wr.cell? ⟨w.heap.size, 2, none⟩ = some (.slice (some ⟨g, 0, none⟩) ls.length ccap) := cell_of_block hbox 2 _ rfl
    have hdl : dt.length ≤ 5000000 := by
      have h1 := congrArg List.length hdt
      have h2 := Hlen.out
      simp only [List.length_append] at h1
      omega
    have Hap := hide' hap
    have Hbox := hide' hbox
    have Hdt := hide' hdt
    have Hsd := hide' hsd
    have hszr := hap.kept.size
    clear hap hbox hdt hsd
    by_cases hlt : k < ls.length
    · obtain ⟨l', hl'⟩ : ∃ l', ls[k]? = some l' := ⟨_, List.getElem?_eq_getElem hlt⟩
      have hdk : ls.drop k = l' :: ls.drop (k + 1) := by
        rw [List.drop_eq_getElem_cons hlt]
        rw [(List.getElem?_eq_some_iff.1 hl').2]
      obtain ⟨a', b', c', x0, x1, x2, hrep⟩ := Hk.out k l' hl'
      obtain ⟨s0, n0, c0a, c0l, c0c, rfl, rfl, rfl⟩ := hrep.shape
      have hkeep : ∀ (k : Nat), isTerms w k → wr.heap[k]? = w.heap[k]? := fun k ht => by
        obtain ⟨cur, hcur⟩ := ht
        exact Hap.out.kept.block k (lt_of_block hcur) (owns_apart Hsv.out (by decide) hcur)
      have hcr : wr.ownsRow lo 74 3 (.slice (some ⟨g, 0, none⟩) ls.length ccap) ls.length xs := owns_same Hc.out (fun k e => hkeep k (owns_terms Hc.out k e))
      have hrepr : RepT f wr lo hi _ _ _ l' := hrep.later f (fun k _ _ ht => hkeep k ht)
      have y0 : wr.cell? ⟨g, k * 3, none⟩ = some (.string s0) := owns_cell hcr _ _ x0
      have y1 : wr.cell? ⟨g, k * 3 + 1, none⟩ = some (.int .i64 n0) := owns_cell hcr _ _ x1
      have y2 : wr.cell? ⟨g, k * 3 + 2, none⟩ = some (.slice c0a c0l c0c) := owns_cell hcr _ _ x2
      have hsub : ∀ s ∈ l', s.name.length ≤ 4096 := fun s hs => hsn s (List.mem_flatten.2 ⟨l', List.mem_of_getElem? hl', hs⟩)
      have hsl2 : sk.length + l'.length + (ls.drop (k + 1)).flatten.length ≤ 999 := by
        rw [hdk] at hsk
        simp only [List.flatten_cons, List.length_append] at hsk
        omega
      have hwl := wterm_len f l' (hrep.isT f) hsub sk (by omega)
      have hwl1 : (wterm f l' sk).1.length ≤ 5000000 := by omega
      have HI := hide' (Hih.out wr lo hi _ _ _ l' B sk _ hrepr Hap.out.owns (by omega) hsub (by omega))
      have Hdk := hide' hdk
      have Hwl := hide' hwl
      clear x0 x1 x2 hrep hkeep hcr hrepr hdk hwl hl'
      go_wp2_with fail
      refine HI.out.mono ?_
      rintro e w1 ⟨sv', rfl, hap1⟩
      obtain ⟨s1a, s1cap, rfl⟩ := owns_slice hap1.owns
      have Hap1 := hide' hap1
      have hbox1 := (hap1.kept.block w.heap.size (lt_of_block Hbox.out) (owns_apart Hap.out.owns (by decide) Hbox.out)).trans Hbox.out
      have Hbox1 := hide' hbox1
      clear hap1 hbox1 y0 y1 y2 b0 b2
      have Hstr : Hid (∀ sep : UInt8, (⟨(nm ++ dt).toArray⟩ : ByteArray) ++ ⟨[sep].toArray⟩ ++ ⟨(wterm f l' sk).1.toArray⟩ = ⟨(nm ++ (dt ++ sep :: (wterm f l' sk).1)).toArray⟩) := fun sep => by
        rw [str_cat, str_cat]; simp
      by_cases h0 : k = 0
      · have hk0 : ((k : Int) == 0) = true := by rw [beq_iff_eq]; omega
        have Hd0 : Hid ((dt ++ 40 :: (wterm f l' sk).1) ++ (wkids f 44 (ls.drop (k + 1)) (wterm f l' sk).2.1).1 = (wkids f 40 ls seen).1 ∧ (wkids f 44 (ls.drop (k + 1)) (wterm f l' sk).2.1).2 = (wkids f 40 ls seen).2) := by
          have h1 := Hdt.out
          have h2 := Hsd.out
          rw [Hdk.out, if_pos h0] at h1 h2
          simp only [wkids] at h1 h2
          exact ⟨by rw [← h1]; simp, h2⟩
        have H0 := hide' h0
        clear h0
        go_wp2
        go_roundw
        case rel => exact ⟨k + 1, (wterm f l' sk).2.1, dt ++ 40 :: (wterm f l' sk).1, by omega, by go_num, by rw [← Hstr.out 40], by simpa using Hd0.out.1, by simpa using Hd0.out.2, by have := Hwl.out; omega, Hap.out.trans Hap1.out, Hbox1.out⟩
        case measure => simp [intOf]; omega
      · have hk0 : ((k : Int) == 0) = false := by rw [beq_eq_false_iff_ne]; omega
        have Hd0 : Hid ((dt ++ 44 :: (wterm f l' sk).1) ++ (wkids f 44 (ls.drop (k + 1)) (wterm f l' sk).2.1).1 = (wkids f 40 ls seen).1 ∧ (wkids f 44 (ls.drop (k + 1)) (wterm f l' sk).2.1).2 = (wkids f 40 ls seen).2) := by
          have h1 := Hdt.out
          have h2 := Hsd.out
          rw [Hdk.out, if_neg h0] at h1 h2
          simp only [wkids] at h1 h2
          exact ⟨by rw [← h1]; simp, h2⟩
        go_wp2
        go_roundw
        case rel => exact ⟨k + 1, (wterm f l' sk).2.1, dt ++ 44 :: (wterm f l' sk).1, by omega, by go_num, by rw [← Hstr.out 44], by simpa using Hd0.out.1, by simpa using Hd0.out.2, by have := Hwl.out; omega, Hap.out.trans Hap1.out, Hbox1.out⟩
        case measure => simp [intOf]; omega
    · have Hend : Hid ((wkids f 40 ls seen) = (dt, sk)) := by
        have h1 := Hdt.out
        have h2 := Hsd.out
        rw [List.drop_eq_nil_of_le (by omega)] at h1 h2
        simp only [wkids, List.append_nil] at h1 h2
        show _ = _
        rw [h1, h2]
      go_wp2
      go_ret2
      rw [Hend.out]
      refine ⟨_, ?_, Hap.out⟩
      show Ending.returned (.tuple #[.string ((⟨(nm ++ dt).toArray⟩ : ByteArray) ++ ⟨[41].toArray⟩), .slice ska sk.length skcap]) = _
      rw [str_cat]

theorem written_any : ∀ f, WrittenSaid f := by
  intro f
  induction f with
  | zero => intro w lo hi a b c l B seen sv h; exact h.elim
  | succ f ih =>
    intro w lo hi a b c l B seen sv h hsv hB hn hs
    have hT := h.isT
    rcases h with ⟨n, rfl, rfl, rfl, rfl⟩ | ⟨nm, ls, xs, h1, rfl, rfl, rfl, h5, h6, h7⟩
    · have hw : wterm (f + 1) [⟨[], n, 0⟩] seen = ((wvar n seen).1, (wvar n seen).2, []) := by simp [wterm]
      rw [hw]
      exact written_var w n B seen sv hsv hB (by simp at hs; omega)
    · by_cases hl : ls = []
      · subst hl
        have hw : wterm (f + 1) (⟨nm, 0, ([] : List (List Sym)).length⟩ :: ([] : List (List Sym)).flatten) seen = (nm, seen, []) := by simp [wterm, h1]
        rw [hw]
        exact written_name w nm h1 c B seen sv lo xs h5 hsv
      · have hT2 : ∀ l' ∈ ls, IsT f l' := fun l' hl => by
          obtain ⟨i, hi, rfl⟩ := List.getElem_of_mem hl
          obtain ⟨a', b', c', _, _, _, g⟩ := h7 i _ (List.getElem?_eq_getElem hi)
          exact g.isT f
        rw [wterm_name f nm ls h1 hT2 hl]
        exact written_args f ih w nm h1 c B seen sv lo hi xs ls hl h5 h7 hsv hB (hn _ (List.mem_cons_self ..)) (fun s hs => hn s (List.mem_cons_of_mem _ hs)) (by simp at hs ⊢; omega)

end Go.Proofs.YtcbckkenifmchaaGreatDoor
