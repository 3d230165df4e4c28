/-
  PROVED HERE: what the program's 'clause.bodyText', 'ruleText', 'ProgramText', 'QueryText' answer (the conditions stand in each statement).
-/
import Derived.Test.YtcbckkenifmchaaGreatDoorCodeAtom
import Derived.Test.YtcbckkenifmchaaGreatDoorCodeReader
namespace Go.Proofs.YtcbckkenifmchaaGreatDoor
open Go.RowKit
set_option linter.unusedSimpArgs false
set_option linter.unusedVariables false

def SymOk (l : List Sym) : Prop := l.length ≤ 4000 ∧ ∀ s ∈ l, s.num < 2600 ∧ s.args ≤ 4096
/-- How the program writes atoms, a sign ahead of the first. -/
def bodyC : List UInt8 → List (List Sym) → List UInt8
  | _, [] => []
  | sep, l :: ls => sep ++ (atomC l [] ++ bodyC [44, 32] ls)
def ruleC (c : CC) : List UInt8 := if c.body = [] then atomC c.head [] ++ [46] else atomC c.head [] ++ ([32, 58, 45, 32] ++ (bodyC [] c.body ++ [46]))
def progC : List CC → List UInt8
  | [] => []
  | c :: cs => ruleC c ++ 10 :: progC cs

theorem SymRow.fresh {w w' : World} {B Sa : Nat} {v : Value} {l : List Sym} (h : SymRow w B Sa v l) (hk : Kept noBlock w w') : SymRow w' B Sa v l := ⟨hk.owns h.1 (fun _ _ h => h), h.2⟩
theorem BodyRow.fresh {w w' : World} {B Sa : Nat} {v : Value} {ls : List (List Sym)} {us : List Value} (h : BodyRow w B Sa v ls us) (hk : Kept noBlock w w') : BodyRow w' B Sa v ls us := body_base h hk (fun _ h => h.elim)
theorem CCRow.fresh {w w' : World} {B Sa Sb : Nat} {v : Value} {cs : List CC} {xs : List (List Value)} (h : CCRow w B Sa Sb v cs xs) (hk : Kept noBlock w w') : CCRow w' B Sa Sb v cs xs := cls_kept h hk (fun _ _ _ _ h => h.elim)

theorem flat3_at (xs : List (List Value)) (h3 : ∀ x ∈ xs, x.length = 3) (k : Nat) (x : List Value) (hx : xs[k]? = some x) (j : Nat) (hj : j < 3) : xs.flatten[k * 3 + j]? = x[j]? := by
  induction xs generalizing k with
  | nil => simp at hx
  | cons a xs ih =>
    have ha := h3 a (by simp)
    cases k with
    | zero =>
      simp at hx; subst hx
      rw [List.flatten_cons, List.getElem?_append_left (by omega)]
      simp
    | succ k =>
      rw [List.flatten_cons, List.getElem?_append_right (by omega), ← ih (fun y hy => h3 y (by simp [hy])) k (by simpa using hx)]
      congr 1
      omega

set_option maxRecDepth 10000 in
set_option maxHeartbeats 2000000 in
theorem bodyText_any (w : World) (B Sa : Nat) (v : Value) (ls : List (List Sym)) (us : List Value) (ho : BodyRow w B Sa v ls us) (hl : ls.length ≤ 4000) (hn : ∀ l ∈ ls, SymOk l) (hL : (bodyC [] ls).length ≤ 100000000) :
    Calls Tryz.prog 65 #[v] w fun e w' => e = .returned (.string ⟨(bodyC [] ls).toArray⟩) ∧ Below w.heap.size w w' := by
  obtain ⟨F, hF⟩ : ∃ F, F = bodyC [] ls := ⟨_, rfl⟩
  rw [← hF] at hL ⊢
  obtain ⟨va, vcap, rfl⟩ := owns_slice ho.1
  have Ho := hide' ho
  have HF := hide' hF
  have Hn := hide' hn
  clear ho hF hn
  go_enter Tryz.func65, Tryz.ntmps65
  go_wp2
  go_loopg [3, 8] (ls.length + 1) (fun gk tx i wr => ∃ (k : Nat) (acc : List UInt8), i = .int .i64 k ∧ k ≤ ls.length ∧ ls.length - k < gk ∧ tx = .string ⟨acc.toArray⟩ ∧ acc ++ bodyC (if k = 0 then [] else [44, 32]) (ls.drop k) = F ∧ Below w.heap.size w wr)
  case atStart => exact ⟨0, [], rfl, Nat.zero_le _, by omega, rfl, by rw [HF.out]; rfl, Below.refl _ _⟩
  case round =>
    obtain ⟨k, acc, rfl, hk, hgk, rfl, hacc, hbw⟩ := hrel
    have hsz := hbw.size
    by_cases hlt : k < ls.length
    · obtain ⟨l, hs⟩ : ∃ l, ls[k]? = some l := ⟨_, List.getElem?_eq_getElem hlt⟩
      have hd : ls.drop k = l :: ls.drop (k + 1) := by
        rw [List.drop_eq_getElem_cons hlt]
        rw [List.getElem?_eq_getElem hlt] at hs
        simp at hs
        rw [hs]
      rw [hd, bodyC] at hacc
      have hok := Hn.out l (List.mem_of_getElem? hs)
      have hbr := Ho.out.fresh (Kept.untouched hbw)
      obtain ⟨x, hx, hrow⟩ := hbr.2 k l hs
      obtain ⟨xa, xcap, rfl⟩ := owns_slice hrow.1
      obtain ⟨g, cap', cur, he, hBg, hg, hcp⟩ := owns_some hbr.1 (by omega)
      simp only [Value.slice.injEq] at he
      obtain ⟨rfl, _, rfl⟩ := he
      have e0 : wr.cell? ⟨g, k, none⟩ = some (.slice xa l.length xcap) := owns_cell hbr.1 _ _ hx
      have hlen := cat_len hacc
      simp only [List.length_append] at hlen
      have HA := hide' (atomText_any wr B _ l hrow.1 hok.1 hok.2 (by omega))
      have Hacc := hide' hacc
      have Hbw := hide' hbw
      clear hacc hbw hd hs hg hbr hrow hx hok
      by_cases h0 : k = 0
      · subst h0
        have Hacc2 : Hid (acc ++ atomC l [] ++ bodyC [44, 32] (ls.drop (0 + 1)) = F) := by show _ = _; rw [← Hacc.out]; simp
        simp only [if_pos] at hlen
        go_wp2_with fail
        refine HA.out.mono ?_
        rintro e w1 ⟨rfl, hb1⟩
        have Hb1 := hide' hb1
        clear hb1
        go_wp2
        go_roundg (ls.length - 0)
        case measure => omega
        case rel =>
          exact ⟨0 + 1, acc ++ atomC l [], by go_num, by omega, by omega, congrArg Value.string (str_cat _ _), Hacc2.out, Hbw.out.trans (Hb1.out.mono hsz)⟩
      · have Hacc2 : Hid (acc ++ [44, 32] ++ atomC l [] ++ bodyC [44, 32] (ls.drop (k + 1)) = F) := by show _ = _; rw [← Hacc.out, if_neg h0]; simp
        rw [if_neg h0] at hlen
        simp only [List.length_cons, List.length_nil] at hlen
        have hpos : (0 : Int) < (k : Int) := by omega
        go_wp2_with fail
        refine HA.out.mono ?_
        rintro e w1 ⟨rfl, hb1⟩
        have Hb1 := hide' hb1
        clear hb1
        go_wp2
        go_roundg (ls.length - k)
        case measure => omega
        case rel =>
          refine ⟨k + 1, acc ++ [44, 32] ++ atomC l [], by go_num, by omega, by omega, ?_, by rw [if_neg (by omega)]; exact Hacc2.out, Hbw.out.trans (Hb1.out.mono hsz)⟩
          show Value.string (_ ++ (⟨[44, 32].toArray⟩ : ByteArray) ++ _) = _
          rw [str_cat, str_cat]
    · have hke : k = ls.length := by omega
      have Hacc : Hid (acc = F) := by
        show _ = _
        rw [hke, List.drop_eq_nil_of_le (Nat.le_refl _)] at hacc
        simpa [bodyC] using hacc
      have Hbw := hide' hbw
      clear hacc hbw
      go_wp2
      go_ret
      rw [← Hacc.out]
      exact ⟨rfl, Hbw.out⟩

set_option maxRecDepth 10000 in
set_option maxHeartbeats 1000000 in
theorem queryText_any (w : World) (B Sa : Nat) (hv bv vv : Value) (ls : List (List Sym)) (us : List Value) (hh : ∃ a n x, hv = .slice a n x) (hvv : ∃ a n x, vv = .slice a n x) (ho : BodyRow w B Sa bv ls us) (hl : ls.length ≤ 4000) (hn : ∀ l ∈ ls, SymOk l) (hL : (bodyC [] ls).length ≤ 100000000) :
    Calls Tryz.prog 37 #[.agg #[hv, bv, vv]] w fun e w' => e = .returned (.string ⟨(bodyC [] ls ++ [46]).toArray⟩) ∧ Below w.heap.size w w' := by
  obtain ⟨ha, hn', hx, rfl⟩ := hh
  obtain ⟨va, vn, vx, rfl⟩ := hvv
  obtain ⟨ba, bcap, rfl⟩ := owns_slice ho.1
  have HA := hide' (fun o => bodyText_any (w.alloc o) B Sa _ ls us (ho.fresh ((Kept.refl _ w).alloc o)) hl hn hL)
  clear ho
  go_enter Tryz.func37, Tryz.ntmps37
  go_wp2_with fail
  refine (HA.out _).mono ?_
  rintro e w1 ⟨rfl, hb1⟩
  have Hb1 := hide' hb1
  clear hb1
  go_wp2
  go_ret
  refine ⟨ret_str ?_, ((Below.refl _ w).alloc (Nat.le_refl _) _).trans (Hb1.out.mono (by simp))⟩
  exact str_cat _ [46]

set_option maxRecDepth 10000 in
set_option maxHeartbeats 1000000 in
theorem ruleText_any (w : World) (B Sa : Nat) (hv bv vv : Value) (c : CC) (us : List Value) (hvv : ∃ a n x, vv = .slice a n x) (hh : SymRow w B Sa hv c.head) (ho : BodyRow w B Sa bv c.body us) (hl : c.body.length ≤ 4000) (hn : SymOk c.head ∧ ∀ l ∈ c.body, SymOk l) (hL : (ruleC c).length ≤ 100000000) :
    Calls Tryz.prog 59 #[.agg #[hv, bv, vv]] w fun e w' => e = .returned (.string ⟨(ruleC c).toArray⟩) ∧ Below w.heap.size w w' := by
  obtain ⟨va, vn, vx, rfl⟩ := hvv
  obtain ⟨ha, hcap, rfl⟩ := owns_slice hh.1
  obtain ⟨ba, bcap, rfl⟩ := owns_slice ho.1
  have hlA : (atomC c.head []).length ≤ 100000000 := by
    unfold ruleC at hL
    split at hL <;> simp only [List.length_append] at hL <;> omega
  have HA := hide' (fun o => atomText_any (w.alloc o) B _ c.head (hh.fresh ((Kept.refl _ w).alloc o)).1 hn.1.1 hn.1.2 hlA)
  have HBr := hide' ho
  have Hn := hide' hn
  clear hh ho hn
  by_cases hb : c.body = []
  · have Hr : Hid (ruleC c = atomC c.head [] ++ [46]) := by show _ = _; rw [ruleC, if_pos hb]
    have hb0 : (((c.body.length : Nat) : Int) == 0) = true := by rw [hb]; rfl
    clear hb
    go_enter Tryz.func59, Tryz.ntmps59
    go_wp2_with fail
    refine (HA.out _).mono ?_
    rintro e w1 ⟨rfl, hb1⟩
    have hbox : w1.heap[w.heap.size]? = some (.cells #[.slice ha c.head.length hcap, .slice ba c.body.length bcap, .slice va vn vx] 81 (0, 0)) := (hb1.block _ (by simp)).trans (heap_alloc_new w _)
    have b1 : w1.cell? ⟨w.heap.size, 1, none⟩ = some (.slice ba c.body.length bcap) := cell_of_block hbox 1 _ rfl
    have Hb1 := hide' hb1
    clear hb1 hbox
    go_wp2
    go_ret
    rw [Hr.out]
    exact ⟨ret_str (str_cat _ [46]), ((Below.refl _ w).alloc (Nat.le_refl _) _).trans (Hb1.out.mono (by simp))⟩
  · have hr : ruleC c = atomC c.head [] ++ ([32, 58, 45, 32] ++ (bodyC [] c.body ++ [46])) := by rw [ruleC, if_neg hb]
    have hb0 : (((c.body.length : Nat) : Int) == 0) = false := by
      rw [beq_eq_false_iff_ne]
      cases hc : c.body with
      | nil => exact absurd hc hb
      | cons _ _ => simp; omega
    rw [hr] at hL
    simp only [List.length_append, List.length_cons, List.length_nil] at hL
    have Hr := hide' hr
    clear hb hr
    go_enter Tryz.func59, Tryz.ntmps59
    go_wp2_with fail
    refine (HA.out _).mono ?_
    rintro e w1 ⟨rfl, hb1⟩
    have hbox : w1.heap[w.heap.size]? = some (.cells #[.slice ha c.head.length hcap, .slice ba c.body.length bcap, .slice va vn vx] 81 (0, 0)) := (hb1.block _ (by simp)).trans (heap_alloc_new w _)
    have b1 : w1.cell? ⟨w.heap.size, 1, none⟩ = some (.slice ba c.body.length bcap) := cell_of_block hbox 1 _ rfl
    have hk1 : Kept noBlock w w1 := ((Kept.refl _ w).alloc _).trans (Kept.untouched hb1)
    have HT := hide' (bodyText_any w1 B Sa _ c.body us (HBr.out.fresh hk1) hl Hn.out.2 (by omega))
    have hs1 := hk1.size
    have Hb1 := hide' (hk1.below (Nat.le_refl _) (fun _ h => h.elim))
    clear hb1 hbox hk1
    go_wp2_with fail
    refine HT.out.mono ?_
    rintro e w2 ⟨rfl, hb2⟩
    have Hb2 := hide' hb2
    clear hb2
    go_wp2
    go_ret
    rw [Hr.out]
    refine ⟨ret_str ?_, Hb1.out.trans (Hb2.out.mono hs1)⟩
    show _ ++ (⟨[32, 58, 45, 32].toArray⟩ : ByteArray) ++ _ ++ (⟨[46].toArray⟩ : ByteArray) = _
    rw [str_cat, str_cat, str_cat]
    simp

set_option maxRecDepth 10000 in
set_option maxHeartbeats 2000000 in
theorem programText_any (w : World) (B Sa Sb : Nat) (v : Value) (cs : List CC) (xs : List (List Value)) (ho : CCRow w B Sa Sb v cs xs) (hl : cs.length ≤ 4000) (hn : ∀ c ∈ cs, c.body.length ≤ 4000 ∧ SymOk c.head ∧ ∀ l ∈ c.body, SymOk l) (hL : (progC cs).length ≤ 100000000) :
    Calls Tryz.prog 32 #[v] w fun e w' => e = .returned (.string ⟨(progC cs).toArray⟩) ∧ Below w.heap.size w w' := by
  obtain ⟨F, hF⟩ : ∃ F, F = progC cs := ⟨_, rfl⟩
  rw [← hF] at hL ⊢
  obtain ⟨va, vcap, rfl⟩ := owns_slice ho.1
  have Ho := hide' ho
  have HF := hide' hF
  have Hn := hide' hn
  clear ho hF hn
  go_enter Tryz.func32, Tryz.ntmps32
  go_wp2
  go_loopg [3, 8] (cs.length + 1) (fun gk tx i wr => ∃ (k : Nat) (acc : List UInt8), i = .int .i64 k ∧ k ≤ cs.length ∧ cs.length - k < gk ∧ tx = .string ⟨acc.toArray⟩ ∧ acc ++ progC (cs.drop k) = F ∧ Below w.heap.size w wr)
  case atStart => exact ⟨0, [], rfl, Nat.zero_le _, by omega, rfl, by rw [HF.out]; rfl, Below.refl _ _⟩
  case round =>
    obtain ⟨k, acc, rfl, hk, hgk, rfl, hacc, hbw⟩ := hrel
    have hsz := hbw.size
    by_cases hlt : k < cs.length
    · obtain ⟨c, hs⟩ : ∃ c, cs[k]? = some c := ⟨_, List.getElem?_eq_getElem hlt⟩
      have hd : cs.drop k = c :: cs.drop (k + 1) := by
        rw [List.drop_eq_getElem_cons hlt]
        rw [List.getElem?_eq_getElem hlt] at hs
        simp at hs
        rw [hs]
      rw [hd, progC] at hacc
      obtain ⟨hok1, hok2⟩ := Hn.out c (List.mem_of_getElem? hs)
      have hbr := Ho.out.fresh (Kept.untouched hbw)
      obtain ⟨hv, bv, vv, us, e1, e2, e3, e4, hvv⟩ := hbr.2.2.2 k c hs
      obtain ⟨ha, hcap, rfl⟩ := owns_slice e2.1
      obtain ⟨ba, bcap, rfl⟩ := owns_slice e3.1
      obtain ⟨vva, vn, vx, rfl⟩ := hvv
      obtain ⟨g, cap', cur, he, hBg, hg, hcp⟩ := owns_some hbr.1 (by omega)
      simp only [Value.slice.injEq] at he
      obtain ⟨rfl, _, rfl⟩ := he
      have hfl := fun j hj => flat3_at xs hbr.2.2.1 k _ e1 j hj
      have k0 : wr.cell? ⟨g, k * 3, none⟩ = some (.slice ha c.head.length hcap) := owns_cell hbr.1 _ _ (by have := hfl 0 (by omega); rw [Nat.add_zero] at this; rw [this]; rfl)
      have k1 : wr.cell? ⟨g, k * 3 + 1, none⟩ = some (.slice ba c.body.length bcap) := owns_cell hbr.1 _ _ (by rw [hfl 1 (by omega)]; rfl)
      have k2 : wr.cell? ⟨g, k * 3 + 2, none⟩ = some (.slice vva vn vx) := owns_cell hbr.1 _ _ (by rw [hfl 2 (by omega)]; rfl)
      have hgl := lt_of_block hg
      have hlen := cat_len hacc
      simp only [List.length_append, List.length_cons] at hlen
      have HA := hide' (fun o => ruleText_any (wr.alloc o) B Sa _ _ _ c us ⟨vva, vn, vx, rfl⟩ (e2.fresh ((Kept.refl _ wr).alloc o)) (e3.fresh ((Kept.refl _ wr).alloc o)) hok1 hok2 (by omega))
      have Hacc2 : Hid (acc ++ (ruleC c ++ [10]) ++ progC (cs.drop (k + 1)) = F) := by show _ = _; rw [← hacc]; simp
      have Hbw := hide' hbw
      clear hacc hbw hd hs hg hbr e1 e2 e3 e4 hfl hok1 hok2
      go_wp2_with fail
      refine (HA.out _).mono ?_
      rintro e w1 ⟨rfl, hb1⟩
      have Hb1 := hide' hb1
      clear hb1
      go_wp2
      go_roundg (cs.length - k)
      case measure => omega
      case rel =>
        refine ⟨k + 1, acc ++ (ruleC c ++ [10]), by go_num, by omega, by omega, ?_, Hacc2.out, Hbw.out.trans (((Below.refl _ wr).alloc hsz _).trans (Hb1.out.mono (by simp; omega)))⟩
        show Value.string (_ ++ (_ ++ (⟨[10].toArray⟩ : ByteArray))) = _
        rw [str_cat, str_cat]
    · have hke : k = cs.length := by omega
      have Hacc : Hid (acc = F) := by
        show _ = _
        rw [hke, List.drop_eq_nil_of_le (Nat.le_refl _)] at hacc
        simpa [progC] using hacc
      have Hbw := hide' hbw
      clear hacc hbw
      go_wp2
      go_ret
      rw [← Hacc.out]
      exact ⟨rfl, Hbw.out⟩

end Go.Proofs.YtcbckkenifmchaaGreatDoor
