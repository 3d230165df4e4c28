/-
  PROVED HERE: what the reference's 'listed' writes of terms that lie in memory (the conditions stand in the statement).
-/
import Derived.Test.YtcbckkenifmchaaGreatDoorRefWritten
namespace Go.Proofs.YtcbckkenifmchaaGreatDoor
open Go.RowKit
set_option linter.unusedSimpArgs false
set_option linter.unusedVariables false

/-- Terms, with a comma and a blank between. -/
def wlisted (f : Nat) : List UInt8 → List (List Sym) → List Nat → List UInt8
  | _, [], _ => []
  | sep, l :: ls, seen => sep ++ (wterm f l seen).1 ++ wlisted f [44, 32] ls (wterm f l seen).2.1

theorem wlisted_len (f : Nat) : ∀ (ls : List (List Sym)), (∀ l' ∈ ls, IsT f l') → (∀ s ∈ ls.flatten, s.name.length ≤ 4096) → ∀ sep seen, sep.length ≤ 2 → seen.length + ls.flatten.length ≤ 1000 → (wlisted f sep ls seen).length ≤ 4101 * ls.flatten.length := by
  intro ls
  induction ls with
  | nil => intro _ _ sep seen _ _; simp [wlisted]
  | cons l ls ih =>
    intro h hn sep seen hsep hs
    simp only [List.flatten_cons, List.length_append] at hs
    have h1 := wterm_len f l (h l (by simp)) (fun s hs => hn s (by simp [hs])) seen (by omega)
    have h2 := ih (fun l' hl => h l' (by simp [hl])) (fun s hs => hn s (by simp only [List.flatten_cons, List.mem_append]; exact Or.inr hs)) [44, 32] (wterm f l seen).2.1 (by simp) (by omega)
    have h3 := isT_pos f l (h l (by simp))
    simp only [wlisted, List.length_append, List.flatten_cons]
    omega

theorem Kids.isT {f : Nat} {w : World} {lo : Nat} {cv : Value} {ls : List (List Sym)} {xs : List Value} (h : Kids f w lo cv ls xs) : ∀ l' ∈ ls, IsT f l' := fun l' hl => by
  obtain ⟨i, hi, rfl⟩ := List.getElem_of_mem hl
  obtain ⟨a', b', c', _, _, _, _, _, _, _, _, g⟩ := h.all i _ (List.getElem?_eq_getElem hi)
  exact g.isT f

set_option maxRecDepth 10000 in
set_option maxHeartbeats 1000000 in
theorem listed_any (f : Nat) (w : World) (c : Value) (B : Nat) (seen : List Nat) (sv : Value) (lo : Nat) (xs : List Value) (ls : List (List Sym)) (hk : Kids f w lo c ls xs)
    (hsv : w.ownsRow B 3 1 sv seen.length (ints seen)) (hB : B ≤ w.heap.size) (hsn : ∀ s ∈ ls.flatten, s.name.length ≤ 4096) (hsl : seen.length + ls.flatten.length ≤ 999) :
    Calls Tryz.prog 35 #[c, sv] w fun e w' => e = .returned (.string ⟨(wlisted f [] ls seen ++ [46]).toArray⟩) ∧ Kept (ownOf sv) w w' := by
  obtain ⟨sa, scap, rfl⟩ := owns_slice hsv
  obtain ⟨ca, ccap, rfl⟩ := owns_slice hk.owns
  have Hsv := hide' hsv
  have Hk := hide' hk
  have Hih := hide' (written_any f)
  have hfl := flat_len f ls hk.isT
  have Hlen := hide' (wlisted_len f ls hk.isT hsn [] seen (by simp) (by omega))
  clear hsv hk
  go_enter Tryz.func35, Tryz.ntmps35
  go_wp2
  go_loopw [1, 5, 6] (fun sl tx i wr => ∃ (k : Nat) (sk : List Nat) (dt : List UInt8), k ≤ ls.length ∧ i = .int .i64 k ∧ tx = .string ⟨dt.toArray⟩ ∧
      dt ++ (wlisted f (if k = 0 then [] else [44, 32]) (ls.drop k) sk) = wlisted f [] ls seen ∧
      sk.length + (ls.drop k).flatten.length ≤ 999 ∧ Appended w B 3 1 (.slice sa seen.length scap) sk.length (ints sk) sl wr) (fun _ _ i _ => ls.length - (intOf i).toNat)
  case atStart => exact ⟨0, seen, [], Nat.zero_le _, rfl, by simp, by simp, by simpa using hsl, ⟨Hsv.out, Kept.refl _ w, Or.inl rfl⟩⟩
  case round =>
    obtain ⟨k, sk, dt, hk, rfl, rfl, hdt, hsk, hap⟩ := hrel
    obtain ⟨ska, skcap, rfl⟩ := owns_slice hap.owns
    have hdl : dt.length ≤ 5000000 := by
      have h1 := congrArg List.length hdt
      have h2 := Hlen.out
      simp only [List.length_append] at h1
      omega
    have Hap := hide' hap
    have Hdt := hide' hdt
    have hszr := hap.kept.size
    clear hap hdt
    by_cases hlt : k < ls.length
    · obtain ⟨l', hl'⟩ : ∃ l', ls[k]? = some l' := ⟨_, List.getElem?_eq_getElem hlt⟩
      have hdk : ls.drop k = l' :: ls.drop (k + 1) := by
        rw [List.drop_eq_getElem_cons hlt]
        rw [(List.getElem?_eq_some_iff.1 hl').2]
      obtain ⟨g, ccap', ccur, he, hgl, hgb, hgc⟩ := owns_some Hk.out.owns (by omega)
      simp only [Value.slice.injEq] at he
      obtain ⟨rfl, _, rfl⟩ := he
      obtain ⟨a', b', c', l1, h1, x0, x1, x2, g1, g2, g3, hrep⟩ := Hk.out.all k l' hl'
      obtain ⟨s0, n0, c0a, c0l, c0c, rfl, rfl, rfl⟩ := hrep.shape
      have hkeep : ∀ (k : Nat), isTerms w k → wr.heap[k]? = w.heap[k]? := fun k ht => by
        obtain ⟨cur, hcur⟩ := ht
        exact Hap.out.kept.block k (lt_of_block hcur) (owns_apart Hsv.out (by decide) hcur)
      have hcr : wr.ownsRow lo 74 3 (.slice (some ⟨g, 0, none⟩) ls.length ccap) ls.length xs := owns_same Hk.out.owns (fun k e => hkeep k (owns_terms Hk.out.owns k e))
      have hrepr : RepT f wr l1 h1 _ _ _ l' := hrep.later f (fun k _ _ ht => hkeep k ht)
      have y0 : wr.cell? ⟨g, k * 3, none⟩ = some (.string s0) := owns_cell hcr _ _ x0
      have y1 : wr.cell? ⟨g, k * 3 + 1, none⟩ = some (.int .i64 n0) := owns_cell hcr _ _ x1
      have y2 : wr.cell? ⟨g, k * 3 + 2, none⟩ = some (.slice c0a c0l c0c) := owns_cell hcr _ _ x2
      have hsub : ∀ s ∈ l', s.name.length ≤ 4096 := fun s hs => hsn s (List.mem_flatten.2 ⟨l', List.mem_of_getElem? hl', hs⟩)
      have hsl2 : sk.length + l'.length + (ls.drop (k + 1)).flatten.length ≤ 999 := by
        rw [hdk] at hsk
        simp only [List.flatten_cons, List.length_append] at hsk
        omega
      have hwl := wterm_len f l' (hrep.isT f) hsub sk (by omega)
      have hwl1 : (wterm f l' sk).1.length ≤ 5000000 := by omega
      have HI := hide' (Hih.out wr l1 h1 _ _ _ l' B sk _ hrepr Hap.out.owns (by omega) hsub (by omega))
      have Hdk := hide' hdk
      have Hwl := hide' hwl
      clear x0 x1 x2 hrep hkeep hcr hrepr hdk hwl hl' g1 g2 g3 hgb
      by_cases h0 : k = 0
      · have hk0 : ¬ (0 : Int) < (k : Int) := by omega
        have Hd0 : Hid ((dt ++ (wterm f l' sk).1) ++ wlisted f [44, 32] (ls.drop (k + 1)) (wterm f l' sk).2.1 = wlisted f [] ls seen) := by
          have h1 := Hdt.out
          rw [Hdk.out, if_pos h0] at h1
          simp only [wlisted] at h1
          show _ = _
          rw [← h1]; simp
        have Hstr := hide' (str_cat dt (wterm f l' sk).1)
        have H0 := hide' h0
        clear h0
        go_wp2_with fail
        refine HI.out.mono ?_
        rintro e w1 ⟨sv', rfl, hap1⟩
        obtain ⟨s1a, s1cap, rfl⟩ := owns_slice hap1.owns
        have Hap1 := hide' hap1
        clear hap1 y0 y1 y2
        go_wp2
        go_roundw
        case rel => exact ⟨k + 1, (wterm f l' sk).2.1, dt ++ (wterm f l' sk).1, by omega, by go_num, by rw [← Hstr.out], by simpa using Hd0.out, by have := Hwl.out; omega, Hap.out.trans Hap1.out⟩
        case measure => simp [intOf]; omega
      · have hk0 : (0 : Int) < (k : Int) := by omega
        have Hd0 : Hid ((dt ++ [44, 32] ++ (wterm f l' sk).1) ++ wlisted f [44, 32] (ls.drop (k + 1)) (wterm f l' sk).2.1 = wlisted f [] ls seen) := by
          have h1 := Hdt.out
          rw [Hdk.out, if_neg h0] at h1
          simp only [wlisted] at h1
          show _ = _
          rw [← h1]; simp
        have Hstr : Hid ((⟨dt.toArray⟩ : ByteArray) ++ ⟨[44, 32].toArray⟩ ++ ⟨(wterm f l' sk).1.toArray⟩ = ⟨(dt ++ [44, 32] ++ (wterm f l' sk).1).toArray⟩) := by
          show _ = _; rw [str_cat, str_cat]
        go_wp2_with fail
        refine HI.out.mono ?_
        rintro e w1 ⟨sv', rfl, hap1⟩
        obtain ⟨s1a, s1cap, rfl⟩ := owns_slice hap1.owns
        have Hap1 := hide' hap1
        clear hap1 y0 y1 y2
        go_wp2
        go_roundw
        case rel => exact ⟨k + 1, (wterm f l' sk).2.1, dt ++ [44, 32] ++ (wterm f l' sk).1, by omega, by go_num, by rw [← Hstr.out], by simpa using Hd0.out, by have := Hwl.out; omega, Hap.out.trans Hap1.out⟩
        case measure => simp [intOf]; omega
    · have Hend : Hid (wlisted f [] ls seen = dt) := by
        have h1 := Hdt.out
        rw [List.drop_eq_nil_of_le (by omega)] at h1
        simp only [wlisted, List.append_nil] at h1
        exact h1.symm
      go_wp2
      go_ret
      rw [Hend.out]
      exact ⟨ret_str (str_cat dt [46]), Hap.out.kept⟩

end Go.Proofs.YtcbckkenifmchaaGreatDoor
