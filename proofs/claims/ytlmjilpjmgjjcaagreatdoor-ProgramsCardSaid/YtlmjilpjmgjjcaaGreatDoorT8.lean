/-
  PROVED HERE: what the program's 'clause.bodyText', 'ruleText', 'ProgramText', 'QueryText' answer (the conditions stand in each statement). plain facts: the program's reader lets by what the reference's look lets by, token by token (the conditions stand in each statement). plain facts: what the program's reader has read of a text that is let by is what the reference reads (the conditions stand in each statement). plain facts: the program writes what it has read as the reference does (the conditions stand in each statement). plain facts: the program's own reading and writing of a whole text is the reference's (the conditions stand in each statement).
-/
import Derived.Test.YtlmjilpjmgjjcaaGreatDoorT7
namespace Go.Proofs.YtlmjilpjmgjjcaaGreatDoor
open Go.RowKit
set_option linter.unusedSimpArgs false
set_option linter.unusedVariables false

def SymOk (l : List Sym) : Prop := l.length ≤ 4000 ∧ ∀ s ∈ l, s.num < 2600 ∧ s.args ≤ 4096
/-- How the program writes atoms, a sign ahead of the first. -/
def bodyC : List UInt8 → List (List Sym) → List UInt8
  | _, [] => []
  | sep, l :: ls => sep ++ (atomC l [] ++ bodyC [44, 32] ls)
def ruleC (c : CC) : List UInt8 := if c.body = [] then atomC c.head [] ++ [46] else atomC c.head [] ++ ([32, 58, 45, 32] ++ (bodyC [] c.body ++ [46]))
def progC : List CC → List UInt8
  | [] => []
  | c :: cs => ruleC c ++ 10 :: progC cs

theorem SymRow.fresh {w w' : World} {B Sa : Nat} {v : Value} {l : List Sym} (h : SymRow w B Sa v l) (hk : Kept noBlock w w') : SymRow w' B Sa v l := ⟨hk.owns h.1 (fun _ _ h => h), h.2⟩
theorem BodyRow.fresh {w w' : World} {B Sa : Nat} {v : Value} {ls : List (List Sym)} {us : List Value} (h : BodyRow w B Sa v ls us) (hk : Kept noBlock w w') : BodyRow w' B Sa v ls us := body_base h hk (fun _ h => h.elim)
theorem CCRow.fresh {w w' : World} {B Sa Sb : Nat} {v : Value} {cs : List CC} {xs : List (List Value)} (h : CCRow w B Sa Sb v cs xs) (hk : Kept noBlock w w') : CCRow w' B Sa Sb v cs xs := cls_kept h hk (fun _ _ _ _ h => h.elim)

theorem flat3_at (xs : List (List Value)) (h3 : ∀ x ∈ xs, x.length = 3) (k : Nat) (x : List Value) (hx : xs[k]? = some x) (j : Nat) (hj : j < 3) : xs.flatten[k * 3 + j]? = x[j]? := by
  induction xs generalizing k with
  | nil => simp at hx
  | cons a xs ih =>
    have ha := h3 a (by simp)
    cases k with
    | zero =>
      simp at hx; subst hx
      rw [List.flatten_cons, List.getElem?_append_left (by omega)]
      simp
    | succ k =>
      rw [List.flatten_cons, List.getElem?_append_right (by omega), ← ih (fun y hy => h3 y (by simp [hy])) k (by simpa using hx)]
      congr 1
      omega

set_option maxRecDepth 10000 in
set_option maxHeartbeats 2000000 in
theorem bodyText_any (w : World) (B Sa : Nat) (v : Value) (ls : List (List Sym)) (us : List Value) (ho : BodyRow w B Sa v ls us) (hl : ls.length ≤ 4000) (hn : ∀ l ∈ ls, SymOk l) (hL : (bodyC [] ls).length ≤ 100000000) :
    Calls Tryz.prog 146 #[v] w fun e w' => e = .returned (.string ⟨(bodyC [] ls).toArray⟩) ∧ Below w.heap.size w w' := by
  obtain ⟨F, hF⟩ : ∃ F, F = bodyC [] ls := ⟨_, rfl⟩
  rw [← hF] at hL ⊢
  obtain ⟨va, vcap, rfl⟩ := owns_slice ho.1
  have Ho := hide' ho
  have HF := hide' hF
  have Hn := hide' hn
  clear ho hF hn
  go_enter Tryz.func146, Tryz.ntmps146
  go_wp2
  go_loopg [3, 8] (ls.length + 1) (fun gk tx i wr => ∃ (k : Nat) (acc : List UInt8), i = .int .i64 k ∧ k ≤ ls.length ∧ ls.length - k < gk ∧ tx = .string ⟨acc.toArray⟩ ∧ acc ++ bodyC (if k = 0 then [] else [44, 32]) (ls.drop k) = F ∧ Below w.heap.size w wr)
  case atStart => exact ⟨0, [], rfl, Nat.zero_le _, by omega, rfl, by rw [HF.out]; rfl, Below.refl _ _⟩
  case round =>
    obtain ⟨k, acc, rfl, hk, hgk, rfl, hacc, hbw⟩ := hrel
    have hsz := hbw.size
    by_cases hlt : k < ls.length
    · obtain ⟨l, hs⟩ : ∃ l, ls[k]? = some l := ⟨_, List.getElem?_eq_getElem hlt⟩
      have hd : ls.drop k = l :: ls.drop (k + 1) := by
        rw [List.drop_eq_getElem_cons hlt]
        rw [List.getElem?_eq_getElem hlt] at hs
        simp at hs
        rw [hs]
      rw [hd, bodyC] at hacc
      have hok := Hn.out l (List.mem_of_getElem? hs)
      have hbr := Ho.out.fresh (Kept.untouched hbw)
      obtain ⟨x, hx, hrow⟩ := hbr.2 k l hs
      obtain ⟨xa, xcap, rfl⟩ := owns_slice hrow.1
      obtain ⟨g, cap', cur, he, hBg, hg, hcp⟩ := owns_some hbr.1 (by omega)
      simp only [Value.slice.injEq] at he
      obtain ⟨rfl, _, rfl⟩ := he
      have e0 : wr.cell? ⟨g, k, none⟩ = some (.slice xa l.length xcap) := owns_cell hbr.1 _ _ hx
      have hlen := cat_len hacc
      simp only [List.length_append] at hlen
      have HA := hide' (atomText_any wr B _ l hrow.1 hok.1 hok.2 (by omega))
      have Hacc := hide' hacc
      have Hbw := hide' hbw
      clear hacc hbw hd hs hg hbr hrow hx hok
      by_cases h0 : k = 0
      · subst h0
        have Hacc2 : Hid (acc ++ atomC l [] ++ bodyC [44, 32] (ls.drop (0 + 1)) = F) := by show _ = _; rw [← Hacc.out]; simp
        simp only [if_pos] at hlen
        go_wp2_with fail
        refine HA.out.mono ?_
        rintro e w1 ⟨rfl, hb1⟩
        have Hb1 := hide' hb1
        clear hb1
        go_wp2
        go_roundg (ls.length - 0)
        case measure => omega
        case rel =>
          exact ⟨0 + 1, acc ++ atomC l [], by go_num, by omega, by omega, congrArg Value.string (str_cat _ _), Hacc2.out, Hbw.out.trans (Hb1.out.mono hsz)⟩
      · have Hacc2 : Hid (acc ++ [44, 32] ++ atomC l [] ++ bodyC [44, 32] (ls.drop (k + 1)) = F) := by show _ = _; rw [← Hacc.out, if_neg h0]; simp
        rw [if_neg h0] at hlen
        simp only [List.length_cons, List.length_nil] at hlen
        have hpos : (0 : Int) < (k : Int) := by omega
        go_wp2_with fail
        refine HA.out.mono ?_
        rintro e w1 ⟨rfl, hb1⟩
        have Hb1 := hide' hb1
        clear hb1
        go_wp2
        go_roundg (ls.length - k)
        case measure => omega
        case rel =>
          refine ⟨k + 1, acc ++ [44, 32] ++ atomC l [], by go_num, by omega, by omega, ?_, by rw [if_neg (by omega)]; exact Hacc2.out, Hbw.out.trans (Hb1.out.mono hsz)⟩
          show Value.string (_ ++ (⟨[44, 32].toArray⟩ : ByteArray) ++ _) = _
          rw [str_cat, str_cat]
    · have hke : k = ls.length := by omega
      have Hacc : Hid (acc = F) := by
        show _ = _
        rw [hke, List.drop_eq_nil_of_le (Nat.le_refl _)] at hacc
        simpa [bodyC] using hacc
      have Hbw := hide' hbw
      clear hacc hbw
      go_wp2
      go_ret
      rw [← Hacc.out]
      exact ⟨rfl, Hbw.out⟩

set_option maxRecDepth 10000 in
set_option maxHeartbeats 1000000 in
theorem queryText_any (w : World) (B Sa : Nat) (hv bv vv : Value) (ls : List (List Sym)) (us : List Value) (hh : ∃ a n x, hv = .slice a n x) (hvv : ∃ a n x, vv = .slice a n x) (ho : BodyRow w B Sa bv ls us) (hl : ls.length ≤ 4000) (hn : ∀ l ∈ ls, SymOk l) (hL : (bodyC [] ls).length ≤ 100000000) :
    Calls Tryz.prog 109 #[.agg #[hv, bv, vv]] w fun e w' => e = .returned (.string ⟨(bodyC [] ls ++ [46]).toArray⟩) ∧ Below w.heap.size w w' := by
  obtain ⟨ha, hn', hx, rfl⟩ := hh
  obtain ⟨va, vn, vx, rfl⟩ := hvv
  obtain ⟨ba, bcap, rfl⟩ := owns_slice ho.1
  have HA := hide' (fun o => bodyText_any (w.alloc o) B Sa _ ls us (ho.fresh ((Kept.refl _ w).alloc o)) hl hn hL)
  clear ho
  go_enter Tryz.func109, Tryz.ntmps109
  go_wp2_with fail
  refine (HA.out _).mono ?_
  rintro e w1 ⟨rfl, hb1⟩
  have Hb1 := hide' hb1
  clear hb1
  go_wp2
  go_ret
  refine ⟨ret_str ?_, ((Below.refl _ w).alloc (Nat.le_refl _) _).trans (Hb1.out.mono (by simp))⟩
  exact str_cat _ [46]

set_option maxRecDepth 10000 in
set_option maxHeartbeats 1000000 in
theorem ruleText_any (w : World) (B Sa : Nat) (hv bv vv : Value) (c : CC) (us : List Value) (hvv : ∃ a n x, vv = .slice a n x) (hh : SymRow w B Sa hv c.head) (ho : BodyRow w B Sa bv c.body us) (hl : c.body.length ≤ 4000) (hn : SymOk c.head ∧ ∀ l ∈ c.body, SymOk l) (hL : (ruleC c).length ≤ 100000000) :
    Calls Tryz.prog 140 #[.agg #[hv, bv, vv]] w fun e w' => e = .returned (.string ⟨(ruleC c).toArray⟩) ∧ Below w.heap.size w w' := by
  obtain ⟨va, vn, vx, rfl⟩ := hvv
  obtain ⟨ha, hcap, rfl⟩ := owns_slice hh.1
  obtain ⟨ba, bcap, rfl⟩ := owns_slice ho.1
  have hlA : (atomC c.head []).length ≤ 100000000 := by
    unfold ruleC at hL
    split at hL <;> simp only [List.length_append] at hL <;> omega
  have HA := hide' (fun o => atomText_any (w.alloc o) B _ c.head (hh.fresh ((Kept.refl _ w).alloc o)).1 hn.1.1 hn.1.2 hlA)
  have HBr := hide' ho
  have Hn := hide' hn
  clear hh ho hn
  by_cases hb : c.body = []
  · have Hr : Hid (ruleC c = atomC c.head [] ++ [46]) := by show _ = _; rw [ruleC, if_pos hb]
    have hb0 : (((c.body.length : Nat) : Int) == 0) = true := by rw [hb]; rfl
    clear hb
    go_enter Tryz.func140, Tryz.ntmps140
    go_wp2_with fail
    refine (HA.out _).mono ?_
    rintro e w1 ⟨rfl, hb1⟩
    have hbox : w1.heap[w.heap.size]? = some (.cells #[.slice ha c.head.length hcap, .slice ba c.body.length bcap, .slice va vn vx] 107 (0, 0)) := (hb1.block _ (by simp)).trans (heap_alloc_new w _)
    have b1 : w1.cell? ⟨w.heap.size, 1, none⟩ = some (.slice ba c.body.length bcap) := cell_of_block hbox 1 _ rfl
    have Hb1 := hide' hb1
    clear hb1 hbox
    go_wp2
    go_ret
    rw [Hr.out]
    exact ⟨ret_str (str_cat _ [46]), ((Below.refl _ w).alloc (Nat.le_refl _) _).trans (Hb1.out.mono (by simp))⟩
  · have hr : ruleC c = atomC c.head [] ++ ([32, 58, 45, 32] ++ (bodyC [] c.body ++ [46])) := by rw [ruleC, if_neg hb]
    have hb0 : (((c.body.length : Nat) : Int) == 0) = false := by
      rw [beq_eq_false_iff_ne]
      cases hc : c.body with
      | nil => exact absurd hc hb
      | cons _ _ => simp; omega
    rw [hr] at hL
    simp only [List.length_append, List.length_cons, List.length_nil] at hL
    have Hr := hide' hr
    clear hb hr
    go_enter Tryz.func140, Tryz.ntmps140
    go_wp2_with fail
    refine (HA.out _).mono ?_
    rintro e w1 ⟨rfl, hb1⟩
    have hbox : w1.heap[w.heap.size]? = some (.cells #[.slice ha c.head.length hcap, .slice ba c.body.length bcap, .slice va vn vx] 107 (0, 0)) := (hb1.block _ (by simp)).trans (heap_alloc_new w _)
    have b1 : w1.cell? ⟨w.heap.size, 1, none⟩ = some (.slice ba c.body.length bcap) := cell_of_block hbox 1 _ rfl
    have hk1 : Kept noBlock w w1 := ((Kept.refl _ w).alloc _).trans (Kept.untouched hb1)
    have HT := hide' (bodyText_any w1 B Sa _ c.body us (HBr.out.fresh hk1) hl Hn.out.2 (by omega))
    have hs1 := hk1.size
    have Hb1 := hide' (hk1.below (Nat.le_refl _) (fun _ h => h.elim))
    clear hb1 hbox hk1
    go_wp2_with fail
    refine HT.out.mono ?_
    rintro e w2 ⟨rfl, hb2⟩
    have Hb2 := hide' hb2
    clear hb2
    go_wp2
    go_ret
    rw [Hr.out]
    refine ⟨ret_str ?_, Hb1.out.trans (Hb2.out.mono hs1)⟩
    show _ ++ (⟨[32, 58, 45, 32].toArray⟩ : ByteArray) ++ _ ++ (⟨[46].toArray⟩ : ByteArray) = _
    rw [str_cat, str_cat, str_cat]
    simp

set_option maxRecDepth 10000 in
set_option maxHeartbeats 2000000 in
theorem programText_any (w : World) (B Sa Sb : Nat) (v : Value) (cs : List CC) (xs : List (List Value)) (ho : CCRow w B Sa Sb v cs xs) (hl : cs.length ≤ 4000) (hn : ∀ c ∈ cs, c.body.length ≤ 4000 ∧ SymOk c.head ∧ ∀ l ∈ c.body, SymOk l) (hL : (progC cs).length ≤ 100000000) :
    Calls Tryz.prog 105 #[v] w fun e w' => e = .returned (.string ⟨(progC cs).toArray⟩) ∧ Below w.heap.size w w' := by
  obtain ⟨F, hF⟩ : ∃ F, F = progC cs := ⟨_, rfl⟩
  rw [← hF] at hL ⊢
  obtain ⟨va, vcap, rfl⟩ := owns_slice ho.1
  have Ho := hide' ho
  have HF := hide' hF
  have Hn := hide' hn
  clear ho hF hn
  go_enter Tryz.func105, Tryz.ntmps105
  go_wp2
  go_loopg [3, 8] (cs.length + 1) (fun gk tx i wr => ∃ (k : Nat) (acc : List UInt8), i = .int .i64 k ∧ k ≤ cs.length ∧ cs.length - k < gk ∧ tx = .string ⟨acc.toArray⟩ ∧ acc ++ progC (cs.drop k) = F ∧ Below w.heap.size w wr)
  case atStart => exact ⟨0, [], rfl, Nat.zero_le _, by omega, rfl, by rw [HF.out]; rfl, Below.refl _ _⟩
  case round =>
    obtain ⟨k, acc, rfl, hk, hgk, rfl, hacc, hbw⟩ := hrel
    have hsz := hbw.size
    by_cases hlt : k < cs.length
    · obtain ⟨c, hs⟩ : ∃ c, cs[k]? = some c := ⟨_, List.getElem?_eq_getElem hlt⟩
      have hd : cs.drop k = c :: cs.drop (k + 1) := by
        rw [List.drop_eq_getElem_cons hlt]
        rw [List.getElem?_eq_getElem hlt] at hs
        simp at hs
        rw [hs]
      rw [hd, progC] at hacc
      obtain ⟨hok1, hok2⟩ := Hn.out c (List.mem_of_getElem? hs)
      have hbr := Ho.out.fresh (Kept.untouched hbw)
      obtain ⟨hv, bv, vv, us, e1, e2, e3, e4, hvv, _⟩ := hbr.2.2.2 k c hs
      obtain ⟨ha, hcap, rfl⟩ := owns_slice e2.1
      obtain ⟨ba, bcap, rfl⟩ := owns_slice e3.1
      obtain ⟨vva, vx, rfl⟩ := owns_slice hvv
      obtain ⟨g, cap', cur, he, hBg, hg, hcp⟩ := owns_some hbr.1 (by omega)
      simp only [Value.slice.injEq] at he
      obtain ⟨rfl, _, rfl⟩ := he
      have hfl := fun j hj => flat3_at xs hbr.2.2.1 k _ e1 j hj
      have k0 : wr.cell? ⟨g, k * 3, none⟩ = some (.slice ha c.head.length hcap) := owns_cell hbr.1 _ _ (by have := hfl 0 (by omega); rw [Nat.add_zero] at this; rw [this]; rfl)
      have k1 : wr.cell? ⟨g, k * 3 + 1, none⟩ = some (.slice ba c.body.length bcap) := owns_cell hbr.1 _ _ (by rw [hfl 1 (by omega)]; rfl)
      have k2 : wr.cell? ⟨g, k * 3 + 2, none⟩ = some (.slice vva c.names.length vx) := owns_cell hbr.1 _ _ (by rw [hfl 2 (by omega)]; rfl)
      have hgl := lt_of_block hg
      have hlen := cat_len hacc
      simp only [List.length_append, List.length_cons] at hlen
      have HA := hide' (fun o => ruleText_any (wr.alloc o) B Sa _ _ _ c us ⟨vva, c.names.length, vx, rfl⟩ (e2.fresh ((Kept.refl _ wr).alloc o)) (e3.fresh ((Kept.refl _ wr).alloc o)) hok1 hok2 (by omega))
      have Hacc2 : Hid (acc ++ (ruleC c ++ [10]) ++ progC (cs.drop (k + 1)) = F) := by show _ = _; rw [← hacc]; simp
      have Hbw := hide' hbw
      clear hacc hbw hd hs hg hbr e1 e2 e3 e4 hfl hok1 hok2 hvv
      go_wp2_with fail
      refine (HA.out _).mono ?_
      rintro e w1 ⟨rfl, hb1⟩
      have Hb1 := hide' hb1
      clear hb1
      go_wp2
      go_roundg (cs.length - k)
      case measure => omega
      case rel =>
        refine ⟨k + 1, acc ++ (ruleC c ++ [10]), by go_num, by omega, by omega, ?_, Hacc2.out, Hbw.out.trans (((Below.refl _ wr).alloc hsz _).trans (Hb1.out.mono (by simp; omega)))⟩
        show Value.string (_ ++ (_ ++ (⟨[10].toArray⟩ : ByteArray))) = _
        rw [str_cat, str_cat]
    · have hke : k = cs.length := by omega
      have Hacc : Hid (acc = F) := by
        show _ = _
        rw [hke, List.drop_eq_nil_of_le (Nat.le_refl _)] at hacc
        simpa [progC] using hacc
      have Hbw := hide' hbw
      clear hacc hbw
      go_wp2
      go_ret
      rw [← Hacc.out]
      exact ⟨rfl, Hbw.out⟩

end Go.Proofs.YtlmjilpjmgjjcaaGreatDoor

namespace Go.Proofs.YtlmjilpjmgjjcaaGreatDoor
set_option linter.unusedSimpArgs false
set_option linter.unusedVariables false

/-- How many terms stand behind the symbol at a place. -/
def argAt (l : List Sym) (n : Nat) : Nat := (l[n]?.map (fun s => s.args)).getD 0
/-- How far both have come. -/
structure Sim (st : RS) (L : LookS) : Prop where
  want : L.want = st.next
  query : L.query = st.query
  err : L.err = 0
  n5 : st.next ≤ 5
  stk : L.stk = st.opn.map (argAt st.atom)
  opn : ∀ n ∈ st.opn, n < st.atom.length
  down : st.opn.Pairwise (fun a b => b < a)
  flat : st.next = 0 ∨ st.next = 1 ∨ st.next = 5 → st.atom = [] ∧ st.opn = []
  size : st.next = 2 ∨ st.next = 3 ∨ st.next = 4 → L.size = st.atom.length
  open2 : st.next = 2 → st.opn ≠ []
  name : st.next = 3 → 0 < st.atom.length ∧ argAt st.atom (st.atom.length - 1) = 0 ∧ ∀ n ∈ st.opn, n < st.atom.length - 1
  inb : st.next ≠ 0 → st.next ≠ 5 → L.body = st.inBody
  inb1 : st.next = 1 → st.inBody = true
  goals : st.inBody = true → st.next ≠ 0 → st.next ≠ 5 → L.goals = st.body.length + (if st.next = 1 then 0 else 1)
  heads : st.query = false → L.heads = st.clauses.length + (if st.next = 0 then 0 else 1)
  hd : st.inBody = false → st.body = []
  q0 : st.query = true → st.next ≠ 0
  h0 : st.next = 0 → st.inBody = false

theorem argAt_bump (l : List Sym) (n : Nat) (s : Sym) (h : n < l.length) : argAt (l.modify n (fun s => { s with args := s.args + 1 }) ++ [s]) n = argAt l n + 1 := by
  unfold argAt
  rw [List.getElem?_append_left (by simpa using h), List.getElem?_modify, List.getElem?_eq_getElem h]
  simp
theorem argAt_other (l : List Sym) (n m : Nat) (s : Sym) (h : m < l.length) (hm : m ≠ n) : argAt (l.modify n (fun s => { s with args := s.args + 1 }) ++ [s]) m = argAt l m := by
  unfold argAt
  rw [List.getElem?_append_left (by simpa using h), List.getElem?_modify]
  have : ¬ n = m := fun e => hm e.symm
  cases l[m]? <;> simp [this]
theorem argAt_last (l : List Sym) (s : Sym) : argAt (l ++ [s]) l.length = s.args := by
  unfold argAt; simp

theorem kmap1 : kmap 1 = 1 := rfl
theorem kmap2 : kmap 2 = 2 := rfl
theorem kmap40 : kmap 40 = 3 := rfl
theorem kmap41 : kmap 41 = 4 := rfl
theorem kmap44 : kmap 44 = 5 := rfl
theorem kmap46 : kmap 46 = 6 := rfl
theorem kmap3 : kmap 3 = 7 := rfl
theorem kmap5 : kmap 5 = 8 := rfl

theorem kmap_name {k : Nat} (hk : isKind k) : (kmap k = 1 ↔ k = 1) ∧ (kmap k = 2 ↔ k = 2) := by
  rcases hk with rfl | rfl | rfl | rfl | rfl | rfl | rfl | rfl <;> simp [kmap]

/-- Ahead of an atom. -/
theorem sim_begin {st : RS} {L : LookS} (h : Sim st L) (k len : Nat) (t : List UInt8) (hk : isKind k) (hn : st.next = 0 ∨ st.next = 1) :
    checkC st (kmap k) len = (lstep L k len).err ∧ ((lstep L k len).err = 0 → Sim (takeS st (kmap k) t) (lstep L k len)) := by
  obtain ⟨ha, ho⟩ := h.flat (by omega)
  have hs := h.stk
  rw [ho] at hs
  simp only [List.map_nil] at hs
  have hw := h.want
  have he := h.err
  have hlst : lstep L k len = lbegins L k len := by rw [lstep, if_pos (by omega)]
  rw [hlst]
  by_cases hk1 : k = 1
  · subst hk1
    have hst : standC st 1 = true := by unfold standC; rw [if_pos (by omega)]; rfl
    have hbk : bumpS st = [] := by simp [bumpS, ho, ha]
    rcases hn with hn | hn
    · have hq : st.query = false := by
        cases hq : st.query
        · rfl
        · exact absurd hn (h.q0 hq)
      have hh := h.heads hq
      rw [if_pos hn] at hh
      have hfull : fullC st = decide (24 ≤ st.clauses.length) := by simp [fullC, hn]
      have hl : lbegins L 1 len = { L with heads := L.heads + 1, body := false, size := 1, err := if 8 < len ∨ 30 < 0 + 1 then 3 else if 24 < L.heads + 1 then 3 else L.err, want := 3 } := by
        simp [lbegins, lsized, lstart, hw, hn]
      rw [hl, kmap1]
      constructor
      · simp only [checkC, hst, hfull, he]
        rw [hh]
        by_cases h8 : 8 < len
        · simp [h8]
        · by_cases hc : 24 ≤ st.clauses.length
          · rw [if_neg (by simp), if_pos (by simp [hc]), if_neg (by omega), if_pos (by omega)]
          · rw [if_neg (by simp), if_neg (by simp [h8, hc] <;> omega), if_neg (by omega), if_neg (by omega)]
      · intro he2
        have hst2 : takeS st 1 t = { st with atom := [⟨t, 0, 0⟩], next := 3 } := by simp [takeS, addS, hbk]
        rw [hst2]
        exact {
          want := rfl
          query := h.query
          err := he2
          n5 := by simp
          stk := by simp [ho, hs]
          opn := by simp [ho]
          down := by simp [ho]
          flat := by simp
          size := by simp
          open2 := by simp
          name := by simp [ho, argAt]
          inb := by simp [h.h0 hn]
          inb1 := by simp
          goals := by simp [h.h0 hn]
          heads := by simp [hh]
          hd := h.hd
          q0 := by simp
          h0 := by simp }
    · have hib := h.inb1 hn
      have hg := h.goals hib (by omega) (by omega)
      rw [if_pos hn] at hg
      have hfull : fullC st = decide (6 ≤ st.body.length) := by simp [fullC, hn]
      have hl : lbegins L 1 len = { L with goals := L.goals + 1, size := 1, err := if 8 < len ∨ 30 < 0 + 1 then 3 else if 6 < L.goals + 1 then 3 else L.err, want := 3 } := by
        simp [lbegins, lsized, lstart, hw, hn]
      rw [hl, kmap1]
      constructor
      · simp only [checkC, hst, hfull, he]
        rw [hg]
        by_cases h8 : 8 < len
        · simp [h8]
        · by_cases hc : 6 ≤ st.body.length
          · rw [if_neg (by simp), if_pos (by simp [hc]), if_neg (by omega), if_pos (by omega)]
          · rw [if_neg (by simp), if_neg (by simp [h8, hc] <;> omega), if_neg (by omega), if_neg (by omega)]
      · intro he2
        have hst2 : takeS st 1 t = { st with atom := [⟨t, 0, 0⟩], next := 3 } := by simp [takeS, addS, hbk]
        have hh := h.heads
        rw [if_neg (by omega)] at hh
        rw [hst2]
        exact {
          want := rfl
          query := h.query
          err := he2
          n5 := by simp
          stk := by simp [ho, hs]
          opn := by simp [ho]
          down := by simp [ho]
          flat := by simp
          size := by simp
          open2 := by simp
          name := by simp [ho, argAt]
          inb := fun _ _ => h.inb (by omega) (by omega)
          inb1 := by simp
          goals := by simp [hg]
          heads := by simpa using hh
          hd := h.hd
          q0 := by simp
          h0 := by simp }
  · have hkm : ¬ kmap k = 1 := fun e => hk1 ((kmap_name hk).1.1 e)
    have hst : standC st (kmap k) = false := by unfold standC; rw [if_pos (by omega)]; simpa using hkm
    have hl : lbegins L k len = { L with err := 2 } := by
      unfold lbegins
      rw [if_pos ⟨hk1, Or.inr (by omega)⟩]
    rw [hl]
    exact ⟨by simp [checkC, hst], by simp⟩

/-- A term inside brackets. -/
theorem sim_arg {st : RS} {L : LookS} (h : Sim st L) (k len : Nat) (t : List UInt8) (hk : isKind k) (hn : st.next = 2) :
    checkC st (kmap k) len = (lstep L k len).err ∧ ((lstep L k len).err = 0 → Sim (takeS st (kmap k) t) (lstep L k len)) := by
  have hw := h.want
  have he := h.err
  have hlst : lstep L k len = lbegins L k len := by rw [lstep, if_pos (by omega)]
  rw [hlst]
  obtain ⟨n, r, ho⟩ : ∃ n r, st.opn = n :: r := by
    cases hc : st.opn with
    | nil => exact absurd hc (h.open2 hn)
    | cons n r => exact ⟨n, r, rfl⟩
  have hs := h.stk
  rw [ho, List.map_cons] at hs
  have hnl := h.opn n (by rw [ho]; simp)
  have hsz := h.size (by omega)
  have hd := h.down
  rw [ho, List.pairwise_cons] at hd
  by_cases hk12 : k = 1 ∨ k = 2
  · have hst : standC st (kmap k) = true := by
      unfold standC
      rw [if_neg (by omega), if_pos hn]
      rcases hk12 with rfl | rfl <;> rfl
    have hargs : argsN st = argAt st.atom n := by
      unfold argsN argAt
      rw [ho]
      simp only
      cases st.atom[n]? <;> rfl
    have hfull : fullC st = (decide (30 ≤ st.atom.length) || decide (4 ≤ argAt st.atom n)) := by simp [fullC, hn, hargs]
    have hl : lbegins L k len = { L with stk := (argAt st.atom n + 1) :: r.map (argAt st.atom), size := L.size + 1, err := if 8 < len ∨ 30 < L.size + 1 then 3 else if 4 < argAt st.atom n + 1 then 3 else L.err, want := if k = 1 then 3 else 4 } := by
      unfold lbegins
      rw [if_neg (by omega)]
      simp [lsized, lstart, hw, hn, hs]
    rw [hl]
    have hkm : kmap k = 1 ∨ kmap k = 2 := by rcases hk12 with rfl | rfl <;> simp [kmap]
    have hbump : bumpS st = st.atom.modify n (fun s => { s with args := s.args + 1 }) := by simp [bumpS, ho]
    constructor
    · simp only [checkC, hst, hfull, he]
      rw [hsz]
      by_cases h8 : 8 < len
      · simp [h8, hkm]
      · by_cases hc : 30 ≤ st.atom.length
        · rw [if_neg (by simp), if_pos ⟨hkm, Or.inr (by simp [hc])⟩, if_pos (by omega)]
        · by_cases hd4 : 4 ≤ argAt st.atom n
          · rw [if_neg (by simp), if_pos ⟨hkm, Or.inr (by simp [hd4])⟩, if_neg (by omega), if_pos (by omega)]
          · rw [if_neg (by simp), if_neg (by simp [h8, hc, hd4] <;> omega), if_neg (by omega), if_neg (by omega)]
    · intro he2
      have hmap : ∀ (s : Sym), st.opn.map (argAt (bumpS st ++ [s])) = (argAt st.atom n + 1) :: r.map (argAt st.atom) := by
        intro s
        rw [ho, List.map_cons, hbump, argAt_bump _ _ _ hnl]
        congr 1
        apply List.map_congr_left
        intro m hm
        exact argAt_other _ _ _ _ (h.opn m (by rw [ho]; simp [hm])) (by have := hd.1 m hm; omega)
      have hbl := bump_len st
      have hopn' : ∀ m ∈ st.opn, m < st.atom.length + 1 := fun m hm => Nat.lt_succ_of_lt (h.opn m hm)
      have hh := h.heads
      rw [if_neg (by omega)] at hh
      have hg := h.goals
      rcases hk12 with rfl | rfl
      · have hst2 : takeS st (kmap 1) t = { st with atom := bumpS st ++ [⟨t, 0, 0⟩], next := 3 } := by simp [kmap1, takeS, addS]
        rw [hst2]
        exact {
          want := rfl
          query := h.query
          err := he2
          n5 := by simp
          stk := (hmap _).symm
          opn := by simpa [hbl] using hopn'
          down := h.down
          flat := by simp
          size := by simp [hsz, hbl]
          open2 := by simp
          name := by
            intro _
            refine ⟨by simp, ?_, ?_⟩
            · have := argAt_last (bumpS st) ⟨t, 0, 0⟩
              simpa using this
            · simpa [hbl] using h.opn
          inb := fun _ _ => h.inb (by omega) (by omega)
          inb1 := by simp
          goals := fun hi _ _ => by have := hg hi (by omega) (by omega); rw [if_neg (by omega)] at this; simpa using this
          heads := by simpa using hh
          hd := h.hd
          q0 := by simp
          h0 := by simp }
      · have hst2 : takeS st (kmap 2) t = { st with atom := bumpS st ++ [⟨[], (numberOf st.vars t).2, 0⟩], vars := (numberOf st.vars t).1, next := 4 } := by simp [kmap2, takeS, addS, varS, bumpS, ho]
        rw [hst2]
        exact {
          want := rfl
          query := h.query
          err := he2
          n5 := by simp
          stk := (hmap _).symm
          opn := by simpa [hbl] using hopn'
          down := h.down
          flat := by simp
          size := by simp [hsz, hbl]
          open2 := by simp
          name := by simp
          inb := fun _ _ => h.inb (by omega) (by omega)
          inb1 := by simp
          goals := fun hi _ _ => by have := hg hi (by omega) (by omega); rw [if_neg (by omega)] at this; simpa using this
          heads := by simpa using hh
          hd := h.hd
          q0 := by simp
          h0 := by simp }
  · have hkm : ¬ kmap k = 1 ∧ ¬ kmap k = 2 := ⟨fun e => hk12 (Or.inl ((kmap_name hk).1.1 e)), fun e => hk12 (Or.inr ((kmap_name hk).2.1 e))⟩
    have hst : standC st (kmap k) = false := by unfold standC; rw [if_neg (by omega), if_pos hn]; simpa using hkm
    have hl : lbegins L k len = { L with err := 2 } := by
      unfold lbegins
      rw [if_pos (by omega)]
    rw [hl]
    exact ⟨by simp [checkC, hst], by simp⟩

/-- Behind a term. -/
theorem sim_follow {st : RS} {L : LookS} (h : Sim st L) (k len : Nat) (t : List UInt8) (hk : isKind k) (hn : st.next = 3 ∨ st.next = 4) :
    checkC st (kmap k) len = (lstep L k len).err ∧ ((lstep L k len).err = 0 → Sim (takeS st (kmap k) t) (lstep L k len)) := by
  have hw := h.want
  have he := h.err
  have hlst : lstep L k len = lfollows L k := by rw [lstep, if_neg (by omega), if_neg (by omega)]
  rw [hlst]
  have hsz := h.size (by omega)
  have hib := h.inb (by omega) (by omega)
  have hs := h.stk
  have hh := h.heads
  rw [if_neg (by omega)] at hh
  have hq := h.query
  have hse : L.stk = [] ↔ st.opn = [] := by rw [hs]; simp
  have chk : ∀ b, standC st (kmap k) = b → (kmap k ≠ 1 ∧ kmap k ≠ 2) → checkC st (kmap k) len = if b then 0 else 2 := by
    intro b hb hkm
    subst hb
    unfold checkC
    cases standC st (kmap k) <;> simp [hkm]
  have stand : ∀ kd, standC st kd = ((kd == 3 && decide (st.next = 3)) || followC st kd) := by
    intro kd
    unfold standC
    rw [if_neg (by omega), if_neg (by omega)]
    rcases hn with hn | hn <;> simp [hn]
  by_cases h12 : k = 1 ∨ k = 2 ∨ k = 5
  · have hst : standC st (kmap k) = false := by
      rw [stand]
      rcases h12 with rfl | rfl | rfl <;> (unfold followC; simp [kmap])
    have hl : lfollows L k = { L with err := 2 } := by
      rcases h12 with rfl | rfl | rfl <;> (unfold lfollows; simp)
    rw [hl]
    exact ⟨by simp [checkC, hst], by simp⟩
  · have hkm : kmap k ≠ 1 ∧ kmap k ≠ 2 := ⟨fun e => h12 (Or.inl ((kmap_name hk).1.1 e)), fun e => h12 (Or.inr (Or.inl ((kmap_name hk).2.1 e)))⟩
    by_cases h40 : k = 40
    · subst h40
      by_cases h3 : st.next = 3
      · have hst : standC st (kmap 40) = true := by rw [stand]; simp [kmap40, h3]
        have hl : lfollows L 40 = { L with stk := 0 :: L.stk, want := 2 } := by simp [lfollows, hw, h3]
        rw [hl, chk true hst hkm]
        refine ⟨he.symm, fun _ => ?_⟩
        obtain ⟨n1, n2, n3⟩ := h.name h3
        have hst2 : takeS st (kmap 40) t = { st with opn := (st.atom.length - 1) :: st.opn, next := 2 } := by simp [kmap40, takeS]
        rw [hst2]
        exact {
          want := rfl
          query := hq
          err := he
          n5 := by simp
          stk := by simp [hs, n2]
          opn := by
            intro m hm
            simp only [List.mem_cons] at hm
            rcases hm with rfl | hm
            · show st.atom.length - 1 < st.atom.length
              omega
            · exact h.opn m hm
          down := by
            rw [List.pairwise_cons]
            exact ⟨n3, h.down⟩
          flat := by simp
          size := fun _ => hsz
          open2 := by simp
          name := by simp
          inb := fun _ _ => hib
          inb1 := by simp
          goals := fun hi _ _ => by have := h.goals hi (by omega) (by omega); rw [if_neg (by omega)] at this; simpa using this
          heads := by simpa using hh
          hd := h.hd
          q0 := by simp
          h0 := by simp }
      · have hst : standC st (kmap 40) = false := by
          rw [stand]
          unfold followC
          simp [kmap40, h3]
        have hl : lfollows L 40 = { L with err := 2 } := by
          unfold lfollows
          have : ¬ L.want = 3 := by omega
          simp [this]
        rw [hl]
        exact ⟨by simp [checkC, hst], by simp⟩
    · cases ho : st.opn with
      | nil =>
        have hsn : L.stk = [] := hse.2 ho
        cases hb : st.inBody with
        | false =>
          have hfo : ∀ kd, followC st kd = (kd == 7 || kd == 6) := by intro kd; simp [followC, ho, hb]
          have hLb : L.body = false := hib.trans hb
          by_cases hk3 : k = 3
          · subst hk3
            have hst : standC st (kmap 3) = true := by rw [stand, hfo]; rfl
            have hl : lfollows L 3 = { L with body := true, goals := 0, want := 1 } := by simp [lfollows, hsn, hLb]
            rw [hl, chk true hst hkm]
            refine ⟨he.symm, fun _ => ?_⟩
            have hst2 : takeS st (kmap 3) t = { st with head := st.atom, atom := [], inBody := true, next := 1 } := by simp [kmap3, takeS, endAtomS, hb]
            rw [hst2]
            exact {
              want := rfl
              query := hq
              err := he
              n5 := by simp
              stk := by simp [hsn, ho]
              opn := by simp [ho]
              down := by simp [ho]
              flat := by simp [ho]
              size := by simp
              open2 := by simp
              name := by simp
              inb := by simp
              inb1 := by simp
              goals := by simp [h.hd hb]
              heads := by simpa using hh
              hd := by simp
              q0 := by simp
              h0 := by simp }
          · by_cases hk46 : k = 46
            · subst hk46
              have hst : standC st (kmap 46) = true := by rw [stand, hfo]; rfl
              have hl : lfollows L 46 = { L with want := if L.query then 5 else 0 } := by cases hq : L.query <;> simp [lfollows, hsn, hLb, hq]
              rw [hl, chk true hst hkm]
              refine ⟨he.symm, fun _ => ?_⟩
              have hst2 : takeS st (kmap 46) t = { st with clauses := st.clauses ++ [⟨st.atom, st.body, st.vars⟩], atom := [], head := [], body := [], vars := [], inBody := false, next := if st.query then 5 else 0 } := by simp [kmap46, takeS, endAtomS, endClauseS, hb]
              rw [hst2]
              have hnx : (if st.query then 5 else 0 : Nat) = 0 ∨ (if st.query then 5 else 0 : Nat) = 5 := by split <;> simp
              exact {
                want := by rw [hq]
                query := hq
                err := he
                n5 := by simp only; omega
                stk := by simp [hsn, ho]
                opn := by simp [ho]
                down := by simp [ho]
                flat := by simp [ho]
                size := by simp only; omega
                open2 := by simp only; omega
                name := by simp only; omega
                inb := by simp only; omega
                inb1 := by simp only; omega
                goals := by simp
                heads := by
                  intro hqf
                  have hqf : st.query = false := hqf
                  have := hh hqf
                  simp [hqf, this]
                hd := by simp
                q0 := by intro hqt; have hqt : st.query = true := hqt; simp [hqt]
                h0 := by simp }
            · have hst : standC st (kmap k) = false := by
                rw [stand, hfo]
                rcases hk with rfl | rfl | rfl | rfl | rfl | rfl | rfl | rfl <;> simp_all [kmap]
              have hl : lfollows L k = { L with err := 2 } := by
                unfold lfollows
                simp [h40, hsn, hLb, hk3, hk46]
              rw [hl]
              exact ⟨by simp [checkC, hst], by simp⟩
        | true =>
          have hfo : ∀ kd, followC st kd = (kd == 5 || kd == 6) := by intro kd; simp [followC, ho, hb]
          have hLb : L.body = true := hib.trans hb
          have hg := h.goals hb (by omega) (by omega)
          rw [if_neg (by omega)] at hg
          by_cases hk44 : k = 44
          · subst hk44
            have hst : standC st (kmap 44) = true := by rw [stand, hfo]; rfl
            have hl : lfollows L 44 = { L with want := 1 } := by simp [lfollows, hsn, hLb]
            rw [hl, chk true hst hkm]
            refine ⟨he.symm, fun _ => ?_⟩
            have hst2 : takeS st (kmap 44) t = { st with body := st.body ++ [st.atom], atom := [], next := 1 } := by simp [kmap44, takeS, commaS, endAtomS, ho, hb]
            rw [hst2]
            exact {
              want := rfl
              query := hq
              err := he
              n5 := by simp
              stk := by simp [hsn, ho]
              opn := by simp [ho]
              down := by simp [ho]
              flat := by simp [ho]
              size := by simp
              open2 := by simp
              name := by simp
              inb := fun _ _ => hib
              inb1 := fun _ => hb
              goals := by simp [hg]
              heads := by simpa using hh
              hd := by simp [hb]
              q0 := by simp
              h0 := by simp }
          · by_cases hk46 : k = 46
            · subst hk46
              have hst : standC st (kmap 46) = true := by rw [stand, hfo]; rfl
              have hl : lfollows L 46 = { L with want := if L.query then 5 else 0 } := by cases hq : L.query <;> simp [lfollows, hsn, hLb, hq]
              rw [hl, chk true hst hkm]
              refine ⟨he.symm, fun _ => ?_⟩
              have hst2 : takeS st (kmap 46) t = { st with clauses := st.clauses ++ [⟨st.head, st.body ++ [st.atom], st.vars⟩], atom := [], head := [], body := [], vars := [], inBody := false, next := if st.query then 5 else 0 } := by simp [kmap46, takeS, endAtomS, endClauseS, hb]
              rw [hst2]
              have hnx : (if st.query then 5 else 0 : Nat) = 0 ∨ (if st.query then 5 else 0 : Nat) = 5 := by split <;> simp
              exact {
                want := by rw [hq]
                query := hq
                err := he
                n5 := by simp only; omega
                stk := by simp [hsn, ho]
                opn := by simp [ho]
                down := by simp [ho]
                flat := by simp [ho]
                size := by simp only; omega
                open2 := by simp only; omega
                name := by simp only; omega
                inb := by simp only; omega
                inb1 := by simp only; omega
                goals := by simp
                heads := by
                  intro hqf
                  have hqf : st.query = false := hqf
                  have := hh hqf
                  simp [hqf, this]
                hd := by simp
                q0 := by intro hqt; have hqt : st.query = true := hqt; simp [hqt]
                h0 := by simp }
            · have hst : standC st (kmap k) = false := by
                rw [stand, hfo]
                rcases hk with rfl | rfl | rfl | rfl | rfl | rfl | rfl | rfl <;> simp_all [kmap]
              have hl : lfollows L k = { L with err := 2 } := by
                unfold lfollows
                simp [h40, hsn, hLb, hk44, hk46]
              rw [hl]
              exact ⟨by simp [checkC, hst], by simp⟩
      | cons n r =>
        have hsn : L.stk = argAt st.atom n :: r.map (argAt st.atom) := by rw [hs, ho]; rfl
        have hfo : ∀ kd, followC st kd = (kd == 5 || kd == 4) := by intro kd; simp [followC, ho]
        by_cases hk44 : k = 44
        · subst hk44
          have hst : standC st (kmap 44) = true := by rw [stand, hfo]; rfl
          have hl : lfollows L 44 = { L with want := 2 } := by simp [lfollows, hsn]
          rw [hl, chk true hst hkm]
          refine ⟨he.symm, fun _ => ?_⟩
          have hst2 : takeS st (kmap 44) t = { st with next := 2 } := by simp [kmap44, takeS, commaS, ho]
          rw [hst2]
          exact {
            want := rfl
            query := hq
            err := he
            n5 := by simp
            stk := hs
            opn := h.opn
            down := h.down
            flat := by simp
            size := fun _ => hsz
            open2 := by simp [ho]
            name := by simp
            inb := fun _ _ => hib
            inb1 := by simp
            goals := fun hi _ _ => by have := h.goals hi (by omega) (by omega); rw [if_neg (by omega)] at this; simpa using this
            heads := by simpa using hh
            hd := h.hd
            q0 := by simp
            h0 := by simp }
        · by_cases hk41 : k = 41
          · subst hk41
            have hst : standC st (kmap 41) = true := by rw [stand, hfo]; rfl
            have hl : lfollows L 41 = { L with stk := r.map (argAt st.atom), want := 4 } := by simp [lfollows, hsn]
            rw [hl, chk true hst hkm]
            refine ⟨he.symm, fun _ => ?_⟩
            have hst2 : takeS st (kmap 41) t = { st with opn := r, next := 4 } := by simp [kmap41, takeS, closeS, ho]
            rw [hst2]
            have hd := h.down
            rw [ho, List.pairwise_cons] at hd
            exact {
              want := rfl
              query := hq
              err := he
              n5 := by simp
              stk := rfl
              opn := fun m hm => h.opn m (by rw [ho]; simp [hm])
              down := hd.2
              flat := by simp
              size := fun _ => hsz
              open2 := by simp
              name := by simp
              inb := fun _ _ => hib
              inb1 := by simp
              goals := fun hi _ _ => by have := h.goals hi (by omega) (by omega); rw [if_neg (by omega)] at this; simpa using this
              heads := by simpa using hh
              hd := h.hd
              q0 := by simp
              h0 := by simp }
          · have hst : standC st (kmap k) = false := by
              rw [stand, hfo]
              rcases hk with rfl | rfl | rfl | rfl | rfl | rfl | rfl | rfl <;> simp_all [kmap]
            have hl : lfollows L k = { L with err := 2 } := by
              unfold lfollows
              simp [h40, hsn, hk44, hk41]
            rw [hl]
            exact ⟨by simp [checkC, hst], by simp⟩

theorem sim_step {st : RS} {L : LookS} (h : Sim st L) (k len : Nat) (t : List UInt8) (hk : isKind k) :
    checkC st (kmap k) len = (lstep L k len).err ∧ ((lstep L k len).err = 0 → Sim (takeS st (kmap k) t) (lstep L k len)) := by
  have h5 := h.n5
  have hw := h.want
  have hc : (st.next = 0 ∨ st.next = 1) ∨ st.next = 2 ∨ (st.next = 3 ∨ st.next = 4) ∨ st.next = 5 := by omega
  rcases hc with hn | hn | hn | hn
  · exact sim_begin h k len t hk hn
  · exact sim_arg h k len t hk hn
  · exact sim_follow h k len t hk hn
  · have hl : lstep L k len = { L with err := 2 } := by rw [lstep, if_neg (by omega), if_pos (by omega)]
    have hst : standC st (kmap k) = false := by unfold standC; simp [hn]
    rw [hl]
    exact ⟨by simp [checkC, hst], by simp⟩

/-- The tokens, taken one after another. -/
def takes : List Tok → RS → RS
  | [], st => st
  | t :: ts, st => takes ts (takeS st (kmap t.kind) t.text)
theorem takes_append (a b : List Tok) (st : RS) : takes (a ++ b) st = takes b (takes a st) := by
  induction a generalizing st with
  | nil => rfl
  | cons t a ih => exact ih _

theorem sim_end {st : RS} {L : LookS} (h : Sim st L) (hn : st.next ≠ 0 ∧ st.next ≠ 5) : (lstep L 4 0).err = 2 := by
  have h5 := h.n5
  have hw := h.want
  unfold lstep
  by_cases h2 : L.want ≤ 2
  · rw [if_pos h2]
    simp [lbegins]
  · rw [if_neg h2, if_neg (by omega)]
    unfold lfollows
    simp

theorem run_lover (e : Nat) : ∀ (ts : List Tok) (st : RS) (L : LookS), Sim st L → (∀ t ∈ ts, isKind t.kind) →
    (runT e ts st).1 = (lover (ts ++ [⟨4, [], e⟩]) L).1 ∧ ((runT e ts st).1 ≠ 0 → (runT e ts st).2.1 = (lover (ts ++ [⟨4, [], e⟩]) L).2) ∧ ((runT e ts st).1 = 0 → (runT e ts st).2.2 = takes ts st) := by
  intro ts
  induction ts with
  | nil =>
    intro st L h _
    have hw := h.want
    simp only [List.nil_append, lover, runT, takes]
    by_cases hn : st.next ≠ 0 ∧ st.next ≠ 5
    · have he := sim_end h hn
      simp only [List.length_nil, he]
      rw [if_pos hn, if_neg (by omega)]
      simp
    · rw [if_neg hn, if_pos (by refine ⟨trivial, ?_⟩; omega)]
      simp
  | cons t ts ih =>
    intro st L h hk
    have hkt := hk t (by simp)
    obtain ⟨h1, h2⟩ := sim_step h t.kind t.text.length t.text hkt
    have h4 : ¬ (t.kind = 4 ∧ (L.want = 5 ∨ L.want = 0)) := by
      rintro ⟨h4, _⟩
      rcases hkt with h | h | h | h | h | h | h | h <;> omega
    simp only [List.cons_append, lover, runT, takes]
    rw [h1, if_neg h4]
    by_cases he : (lstep L t.kind t.text.length).err = 0
    · rw [if_neg (by simp [he]), if_neg (by simp [he])]
      exact ih _ _ (h2 he) (fun t' ht => hk t' (by simp [ht]))
    · rw [if_pos he, if_pos he]
      exact ⟨rfl, fun _ => rfl, fun h => absurd h he⟩

theorem sim0 (q : Bool) : Sim ⟨q, if q then 1 else 0, q, [], [], [], [], [], []⟩ (lstart0 q) := by
  cases q
  · exact ⟨rfl, rfl, rfl, by simp, rfl, by simp, by simp, by simp, by simp, by simp, by simp, by simp, by simp, by simp, by simp [lstart0], by simp, by simp, by simp⟩
  · exact ⟨rfl, rfl, rfl, by simp, rfl, by simp, by simp, by simp, by simp, by simp, by simp, by simp [lstart0], by simp, by simp [lstart0], by simp, by simp, by simp, by simp⟩

theorem lex_kinds : ∀ (f : Nat) (l : List UInt8) (p : Nat), ∀ t ∈ lexF f l p, isKind t.kind := by
  intro f
  induction f with
  | zero => intro l p t ht; simp [lexF] at ht
  | succ f ih =>
    intro l p t ht
    cases l with
    | nil => simp [lexF] at ht
    | cons c r =>
      rw [lexF] at ht
      split at ht
      · exact ih _ _ t ht
      · simp only [List.mem_cons] at ht
        rcases ht with rfl | ht
        · exact (head_kind c r).2
        · exact ih _ _ t ht
theorem toks_kinds (l : List UInt8) (p : Nat) : ∀ t ∈ toks l p, isKind t.kind := lex_kinds _ l p

end Go.Proofs.YtlmjilpjmgjjcaaGreatDoor

namespace Go.Proofs.YtlmjilpjmgjjcaaGreatDoor
set_option linter.unusedSimpArgs false
set_option linter.unusedVariables false

/-- The reader behind a term. -/
def termS (st : RS) (l : List Sym) (names : Names) (nx : Nat) : RS := { st with atom := bumpS st ++ l, vars := names, next := nx }

def TermRun (n : Nat) : Prop := ∀ (ts : List Tok) (L : LookS) (f : Nat) (st : RS), ts.length ≤ n → ts.length ≤ f → okk ts L → fin ts → L.want ≤ 2 → L.err = 0 → (L.want = 2 → L.stk ≠ []) → (∀ t r, ts = t :: r → t.kind ≠ 4) →
  ∃ r L' m, pterm f ts st.vars = some r ∧ Aft r.2.1 L L' (lstart L).stk ∧ r.2.1 = ts.drop m ∧ r.2.1.length < ts.length ∧ takes (ts.take m) st = termS st r.1 r.2.2 L'.want

theorem takes_split {xs ys : List Tok} {y : Tok} {m1 : Nat} (h : xs.drop m1 = y :: ys) (m2 : Nat) (st : RS) : takes (xs.take (m1 + (1 + m2))) st = takes (ys.take m2) (takeS (takes (xs.take m1) st) (kmap y.kind) y.text) ∧ xs.drop (m1 + (1 + m2)) = ys.drop m2 := by
  constructor
  · rw [List.take_add, takes_append, h, Nat.add_comm 1 m2]
    rfl
  · rw [← List.drop_drop, h, Nat.add_comm 1 m2]
    rfl

theorem bump_at (A : List Sym) (nm : List UInt8) (k : Nat) (B : List Sym) : (A ++ (⟨nm, 0, k⟩ : Sym) :: B).modify A.length (fun s => { s with args := s.args + 1 }) = A ++ ⟨nm, 0, k + 1⟩ :: B := by
  induction A with
  | nil => simp
  | cons a A ih => simp [ih]

theorem args_run (n f : Nat) (IH : TermRun n) : ∀ (g : Nat) (x : Tok) (xs : List Tok) (L : LookS) (m : Nat) (r : List Nat) (acc : List (List Sym)) (st : RS) (A : List Sym) (nm : List UInt8) (o : List Nat), xs.length ≤ n → xs.length ≤ f → xs.length + 1 ≤ g → x.kind ≠ 41 →
    okk xs L → fin xs → L.want = 2 → L.stk = m :: r → L.err = 0 → st.atom = A ++ ⟨nm, 0, acc.length⟩ :: acc.flatten → st.opn = A.length :: o →
    ∃ q L' i, pargs (pterm f) g (x :: xs) st.vars acc = some q ∧ Aft q.2.1 L L' r ∧ L'.want = 4 ∧ q.2.1 = xs.drop i ∧ q.2.1.length < xs.length ∧
      takes (xs.take i) st = { st with atom := A ++ ⟨nm, 0, q.1.length⟩ :: q.1.flatten, opn := o, vars := q.2.2, next := 4 } := by
  intro g
  induction g with
  | zero => intro x xs L m r acc st A nm o h1 h1' h2; omega
  | succ g ih =>
    intro x xs L m r acc st A nm o h1 h1' h2 h41 hok hfin hw hst he hat hop
    have hx4 : ∀ t r, xs = t :: r → t.kind ≠ 4 := by
      rintro t r rfl h4
      have := (okk_cons hok (by omega)).1
      unfold lstep at this
      rw [if_pos (by omega)] at this
      rcases lbegins_err he this with h | h <;> omega
    obtain ⟨r1, L1, m1, hp, ha, hd, hl, htk⟩ := IH xs L f st h1 (by omega) hok hfin (by omega) he (by rw [hst]; simp) hx4
    have hls : (lstart L).stk = (m + 1) :: r := by simp [lstart, hw, hst]
    rw [hls] at ha
    rw [pargs, if_neg h41, hp]
    simp only
    have hbump : bumpS st = A ++ ⟨nm, 0, acc.length + 1⟩ :: acc.flatten := by
      unfold bumpS
      rw [hop]
      simp only
      rw [hat, bump_at]
    cases hr : r1.2.1 with
    | nil => rw [hr] at ha; exact ha.fin.elim
    | cons y ys =>
      rw [hr] at ha hl hd
      simp only [List.length_cons] at hl
      have hat1 : (termS st r1.1 r1.2.2 L1.want).atom = A ++ ⟨nm, 0, (acc ++ [r1.1]).length⟩ :: (acc ++ [r1.1]).flatten := by
        unfold termS
        simp [hbump]
      rcases aft_in ha with ⟨hy, ho, hf, hE⟩ | ⟨hy, ho, hf, hE⟩
      · have hst1 : takeS (termS st r1.1 r1.2.2 L1.want) (kmap y.kind) y.text = { termS st r1.1 r1.2.2 L1.want with next := 2 } := by
          rw [hy]
          simp [kmap44, takeS, commaS, termS, hop]
        obtain ⟨q, L2, i, h5, h6, h6', h7, h7', h8⟩ := ih y ys (lfollows L1 44) (m + 1) r (acc ++ [r1.1]) { termS st r1.1 r1.2.2 L1.want with next := 2 } A nm o (by omega) (by omega) (by omega) (by omega) ho hf (by rw [hE]) (by rw [hE]; exact ha.stk) (by rw [hE]; exact ha.err) hat1 hop
        obtain ⟨hs1, hs2⟩ := takes_split hd.symm i st
        refine ⟨q, L2, m1 + (1 + i), h5, ⟨h6.ok, h6.fin, h6.want, h6.stk, h6.err, ?_, ?_⟩, h6', ?_, by omega, ?_⟩
        · rw [h6.query, hE]; exact ha.query
        · rw [h6.body, hE]
          have := ha.body
          simp [hw] at this ⊢
          exact this
        · rw [hs2]; exact h7
        · rw [hs1, htk, hst1, h8]
          rfl
      · have hst1 : takeS (termS st r1.1 r1.2.2 L1.want) (kmap y.kind) y.text = { termS st r1.1 r1.2.2 L1.want with opn := o, next := 4 } := by
          rw [hy]
          simp [kmap41, takeS, closeS, termS, hop]
        obtain ⟨hs1, hs2⟩ := takes_split hd.symm 0 st
        refine ⟨(acc ++ [r1.1], ys, r1.2.2), lfollows L1 41, m1 + (1 + 0), ?_, ⟨ho, hf, Or.inl (by rw [hE]), by rw [hE], by rw [hE]; exact ha.err, by rw [hE]; exact ha.query, by rw [hE]; exact ha.body⟩, by rw [hE], ?_, by simp; omega, ?_⟩
        · cases g with
          | zero => omega
          | succ g => rw [pargs, if_pos hy]
        · rw [hs2]; rfl
        · rw [hs1, htk, hst1]
          show ({ termS st r1.1 r1.2.2 L1.want with opn := o, next := 4 } : RS) = _
          have : ({ termS st r1.1 r1.2.2 L1.want with opn := o, next := 4 } : RS) = { st with atom := (termS st r1.1 r1.2.2 L1.want).atom, opn := o, vars := r1.2.2, next := 4 } := rfl
          rw [this, hat1]

theorem term_run : ∀ n, TermRun n := by
  intro n
  induction n with
  | zero =>
    intro ts L f st h1 h2 hok hfin
    cases ts with
    | nil => exact hfin.elim
    | cons t ts => simp at h1
  | succ n IH =>
    intro ts L f st h1 h2 hok hfin hw he hst hne
    cases ts with
    | nil => exact hfin.elim
    | cons t ts =>
      have h4 := hne t ts rfl
      simp only [List.length_cons] at h1 h2
      cases f with
      | zero => omega
      | succ f =>
        obtain ⟨he1, ho1⟩ := okk_cons hok (by omega)
        unfold lstep at he1 ho1
        rw [if_pos hw] at he1 ho1
        have hk := lbegins_err he he1
        obtain ⟨k1, k2, k3, k4⟩ := lbegins_keeps he1 hk
        have hfin1 : fin ts := by
          rcases hfin with h | h
          · exact absurd h h4
          · exact h
        by_cases hv : t.kind = 2
        · rw [pterm, if_pos hv]
          refine ⟨_, lbegins L t.kind t.text.length, 1, rfl, ⟨ho1, hfin1, Or.inl (by rw [k1, hv]; rfl), k2, he1, k3, k4⟩, rfl, by simp, ?_⟩
          have ht : takeS st (kmap t.kind) t.text = { st with atom := bumpS st ++ [⟨[], (numberOf st.vars t.text).2, 0⟩], vars := (numberOf st.vars t.text).1, next := 4 } := by rw [hv]; simp [kmap2, takeS, addS, varS, bumpS]
          show takeS st (kmap t.kind) t.text = _
          rw [ht, k1, if_neg (by omega)]
          rfl
        · have hk1 : t.kind = 1 := by omega
          have ht1 : takeS st (kmap t.kind) t.text = { st with atom := bumpS st ++ [⟨t.text, 0, 0⟩], next := 3 } := by rw [hk1]; simp [kmap1, takeS, addS]
          rw [pterm, if_neg hv]
          cases ts with
          | nil => exact hfin1.elim
          | cons u us =>
            rw [pname]
            simp only [List.length_cons] at h1 h2
            rw [if_pos hk1] at k1
            by_cases hu : u.kind = 40
            · rw [if_neg (by simp [hu])]
              obtain ⟨he2, ho2⟩ := okk_cons ho1 (by omega)
              unfold lstep at he2 ho2
              rw [if_neg (by omega), if_neg (by omega), hu] at he2 ho2
              have hE : lfollows (lbegins L t.kind t.text.length) 40 = { lbegins L t.kind t.text.length with stk := 0 :: (lbegins L t.kind t.text.length).stk, want := 2 } := by
                simp [lfollows, k1]
              have hfin2 : fin us := by
                rcases hfin1 with h | h
                · omega
                · exact h
              have ht2 : takeS { st with atom := bumpS st ++ [⟨t.text, 0, 0⟩], next := 3 } (kmap u.kind) u.text = { st with atom := bumpS st ++ [⟨t.text, 0, 0⟩], opn := (bumpS st).length :: st.opn, next := 2 } := by
                rw [hu]; simp [kmap40, takeS]
              obtain ⟨q, L2, i, h5, h6, h6', h7, h7', h8⟩ := args_run n f IH (us.length + 1) u us _ 0 (lstart L).stk [] { st with atom := bumpS st ++ [⟨t.text, 0, 0⟩], opn := (bumpS st).length :: st.opn, next := 2 } (bumpS st) t.text st.opn (by omega) (by omega) (by omega) (by omega) ho2 hfin2 (by rw [hE]) (by rw [hE, ← k2]) (by rw [hE]; exact he1) rfl rfl
              rw [show pargs (pterm f) (us.length + 1) (u :: us) st.vars [] = some q from h5]
              refine ⟨_, L2, i + 2, rfl, ⟨h6.ok, h6.fin, h6.want, h6.stk, h6.err, ?_, ?_⟩, ?_, by simp; omega, ?_⟩
              · rw [h6.query, hE]; exact k3
              · rw [h6.body, hE]
                simpa using k4
              · exact h7
              · show takes (us.take i) (takeS (takeS st (kmap t.kind) t.text) (kmap u.kind) u.text) = _
                rw [ht1, ht2, h8, h6']
                rfl
            · rw [if_pos hu]
              refine ⟨_, lbegins L t.kind t.text.length, 1, rfl, ⟨ho1, hfin1, Or.inr ⟨k1, ?_⟩, k2, he1, k3, k4⟩, rfl, by simp, ?_⟩
              · intro y ys hy
                simp at hy
                rw [← hy.1]; exact hu
              · show takeS st (kmap t.kind) t.text = _
                rw [ht1, k1]
                rfl

/-- The reader behind a clause. -/
def clsS (st : RS) (hd : List Sym) (bd : List (List Sym)) (vs : Names) : RS := { st with clauses := st.clauses ++ [⟨hd, bd, vs⟩], atom := [], opn := [], head := [], body := [], vars := [], inBody := false, next := if st.query then 5 else 0 }

theorem terms_run : ∀ (g : Nat) (ts : List Tok) (L : LookS) (acc : List (List Sym)) (st : RS), ts.length ≤ g → ts.length ≤ 1000 → okk ts L → fin ts → L.want = 1 → L.stk = [] → L.body = true → L.err = 0 → st.opn = [] → st.atom = [] → st.inBody = true →
    ∃ q L' i ex, pterms 1000 g ts st.vars acc = some q ∧ okk q.2.1 L' ∧ fin q.2.1 ∧ L'.want = (if L.query then 5 else 0) ∧ L'.stk = [] ∧ L'.err = 0 ∧ L'.query = L.query ∧ q.2.1.length < ts.length ∧ q.2.1 = ts.drop i ∧ q.1 = acc ++ ex ∧
      takes (ts.take i) st = clsS st st.head (st.body ++ ex) q.2.2 := by
  intro g
  induction g with
  | zero =>
    intro ts L acc st h1 h2 hok hfin
    cases ts with
    | nil => exact hfin.elim
    | cons t ts => simp at h1
  | succ g ih =>
    intro ts L acc st h1 h2 hok hfin hw hst hb he hop hat hib
    obtain ⟨r1, L1, m1, hp, ha, hd, hl, htk⟩ := term_run ts.length ts L 1000 st (Nat.le_refl _) h2 hok hfin (by omega) he (by omega) (not_end hok hw he)
    have hls : (lstart L).stk = [] := by simp [lstart, hw, hst]
    rw [hls] at ha
    have hb1 : L1.body = true := by rw [ha.body, if_neg (by omega)]; exact hb
    have hbump : bumpS st = [] := by simp [bumpS, hop, hat]
    rw [pterms, hp]
    simp only
    cases hr : r1.2.1 with
    | nil => rw [hr] at ha; exact ha.fin.elim
    | cons y ys =>
      rw [hr] at ha hl hd
      simp only [List.length_cons] at hl
      simp only
      rcases aft_out ha with ⟨hy, _, ho, hf, hE⟩ | ⟨hy, hb2, _⟩ | ⟨hy, ho, hf, hE⟩
      · rw [if_neg (by omega)]
        have hst1 : takeS (termS st r1.1 r1.2.2 L1.want) (kmap y.kind) y.text = { st with body := st.body ++ [r1.1], atom := [], vars := r1.2.2, next := 1 } := by
          rw [hy]
          simp [kmap44, takeS, commaS, endAtomS, termS, hop, hib, hbump]
        obtain ⟨q, L2, i, ex, h5, h6, h7, h8, h9, h10, h11, h12, h13, h14, h15⟩ := ih ys (lfollows L1 44) (acc ++ [r1.1]) { st with body := st.body ++ [r1.1], atom := [], vars := r1.2.2, next := 1 } (by omega) (by omega) ho hf (by rw [hE]) (by rw [hE]; exact ha.stk) (by rw [hE]; exact hb1) (by rw [hE]; exact ha.err) hop rfl hib
        have hq : (lfollows L1 44).query = L.query := by rw [hE]; exact ha.query
        rw [hq] at h8 h11
        obtain ⟨hs1, hs2⟩ := takes_split hd.symm i st
        refine ⟨q, L2, m1 + (1 + i), r1.1 :: ex, h5, h6, h7, h8, h9, h10, h11, by omega, by rw [hs2]; exact h13, by rw [h14]; simp, ?_⟩
        rw [hs1, htk, hst1, h15]
        simp [clsS]
      · rw [hb1] at hb2; cases hb2
      · rw [if_pos hy]
        have hst1 : takeS (termS st r1.1 r1.2.2 L1.want) (kmap y.kind) y.text = clsS st st.head (st.body ++ [r1.1]) r1.2.2 := by
          rw [hy]
          simp [kmap46, takeS, endClauseS, endAtomS, termS, hop, hib, hbump, clsS]
        obtain ⟨hs1, hs2⟩ := takes_split hd.symm 0 st
        refine ⟨_, _, m1 + (1 + 0), [r1.1], rfl, ho, hf, by rw [hE, ha.query], by rw [hE]; exact ha.stk, by rw [hE]; exact ha.err, by rw [hE]; exact ha.query, by simp; omega, by rw [hs2]; rfl, rfl, ?_⟩
        rw [hs1, htk, hst1]
        rfl

/-- Between two clauses. -/
structure Clean (st : RS) : Prop where
  query : st.query = false
  next : st.next = 0
  inb : st.inBody = false
  atom : st.atom = []
  opn : st.opn = []
  head : st.head = []
  body : st.body = []
  vars : st.vars = []

theorem clause_run (ts : List Tok) (L : LookS) (st : RS) (h2 : ts.length ≤ 1000) (hok : okk ts L) (hfin : fin ts) (hw : L.want = 0) (hst : L.stk = []) (he : L.err = 0) (hq : L.query = false) (hne : ∀ t r, ts = t :: r → t.kind ≠ 4) (hc : Clean st) :
    ∃ c L' i, pclause ts = some c ∧ okk c.2 L' ∧ fin c.2 ∧ L'.want = 0 ∧ L'.stk = [] ∧ L'.err = 0 ∧ L'.query = false ∧ c.2.length < ts.length ∧ c.2 = ts.drop i ∧ takes (ts.take i) st = { st with clauses := st.clauses ++ [c.1] } := by
  obtain ⟨r1, L1, m1, hp, ha, hd, hl, htk⟩ := term_run ts.length ts L 1000 st (Nat.le_refl _) h2 hok hfin (by omega) he (by omega) hne
  have hls : (lstart L).stk = [] := by simp [lstart, hw, hst]
  rw [hls] at ha
  have hb1 : L1.body = false := by rw [ha.body, if_pos hw]
  have hbump : bumpS st = [] := by simp [bumpS, hc.opn, hc.atom]
  have hback : ∀ hd bd vs, clsS st hd bd vs = { st with clauses := st.clauses ++ [⟨hd, bd, vs⟩] } := by
    intro hd bd vs
    obtain ⟨c1, c2, c3, c4, c5, c6, c7, c8⟩ := hc
    cases st
    simp only at c1 c2 c3 c4 c5 c6 c7 c8
    subst c1 c2 c3 c4 c5 c6 c7 c8
    rfl
  rw [hc.vars] at hp
  rw [pclause, hp]
  simp only
  cases hr : r1.2.1 with
  | nil => rw [hr] at ha; exact ha.fin.elim
  | cons y ys =>
    rw [hr] at ha hl hd
    simp only [List.length_cons] at hl
    simp only
    rcases aft_out ha with ⟨hy, hb2, _⟩ | ⟨hy, _, ho, hf, hE⟩ | ⟨hy, ho, hf, hE⟩
    · rw [hb1] at hb2; cases hb2
    · rw [if_pos hy]
      have hst1 : takeS (termS st r1.1 r1.2.2 L1.want) (kmap y.kind) y.text = { st with head := r1.1, atom := [], vars := r1.2.2, inBody := true, next := 1 } := by
        rw [hy]
        simp [kmap3, takeS, endAtomS, termS, hc.inb, hbump]
      obtain ⟨q, L2, i, ex, h5, h6, h7, h8, h9, h10, h11, h12, h13, h14, h15⟩ := terms_run 1000 ys (lfollows L1 3) [] { st with head := r1.1, atom := [], vars := r1.2.2, inBody := true, next := 1 } (by omega) (by omega) ho hf (by rw [hE]) (by rw [hE]; exact ha.stk) (by rw [hE]) (by rw [hE]; exact ha.err) hc.opn rfl rfl
      have hq2 : (lfollows L1 3).query = false := by rw [hE]; exact ha.query.trans hq
      rw [hq2] at h8 h11
      rw [h5]
      obtain ⟨hs1, hs2⟩ := takes_split hd.symm i st
      refine ⟨_, L2, m1 + (1 + i), rfl, h6, h7, by simpa using h8, h9, h10, h11, by simp; omega, by rw [hs2]; exact h13, ?_⟩
      rw [hs1, htk, hst1, h15, ← hback]
      simp only [List.nil_append] at h14
      simp [clsS, hc.body, h14]
    · rw [if_neg (by omega)]
      have hq2 : L1.query = false := ha.query.trans hq
      have hst1 : takeS (termS st r1.1 r1.2.2 L1.want) (kmap y.kind) y.text = clsS st r1.1 [] r1.2.2 := by
        rw [hy]
        simp [kmap46, takeS, endClauseS, endAtomS, termS, hc.opn, hc.inb, hc.body, hbump, clsS]
      obtain ⟨hs1, hs2⟩ := takes_split hd.symm 0 st
      refine ⟨_, _, m1 + (1 + 0), rfl, ho, hf, by rw [hE, hq2]; rfl, by rw [hE]; exact ha.stk, by rw [hE]; exact ha.err, by rw [hE]; exact hq2, by simp; omega, by rw [hs2]; rfl, ?_⟩
      rw [hs1, htk, hst1, hback]
      rfl

theorem prog_run : ∀ (g : Nat) (ts : List Tok) (L : LookS) (acc : List Cls) (st : RS), ts.length ≤ g → ts.length ≤ 1000 → okk ts L → fin ts → L.want = 0 → L.stk = [] → L.err = 0 → L.query = false → Clean st →
    ∃ cs i ex, pprog g ts acc = some cs ∧ (∃ t r, ts.drop i = t :: r ∧ t.kind = 4) ∧ cs = acc ++ ex ∧ takes (ts.take i) st = { st with clauses := st.clauses ++ ex } := by
  intro g
  induction g with
  | zero =>
    intro ts L acc st h1 h2 hok hfin
    cases ts with
    | nil => exact hfin.elim
    | cons t ts => simp at h1
  | succ g ih =>
    intro ts L acc st h1 h2 hok hfin hw hst he hq hc
    cases ts with
    | nil => exact hfin.elim
    | cons t ts =>
      rw [pprog]
      by_cases h4 : t.kind = 4
      · rw [if_pos h4]
        exact ⟨_, 0, [], rfl, ⟨t, ts, rfl, h4⟩, by simp, by simp [takes]⟩
      · rw [if_neg h4]
        obtain ⟨c, L1, i, hp, h5, h6, h7, h8, h9, h10, h11, h12, h13⟩ := clause_run (t :: ts) L st h2 hok hfin hw hst he hq (fun t' r' e => by simp at e; rw [← e.1]; exact h4) hc
        rw [hp]
        simp only
        simp only [List.length_cons] at h1 h2 h11
        obtain ⟨cs, j, ex, k1, k2, k3, k4⟩ := ih c.2 L1 (acc ++ [c.1]) { st with clauses := st.clauses ++ [c.1] } (by omega) (by omega) h5 h6 h7 h8 h9 h10 ⟨hc.query, hc.next, hc.inb, hc.atom, hc.opn, hc.head, hc.body, hc.vars⟩
        refine ⟨cs, i + j, c.1 :: ex, k1, ?_, by rw [k3]; simp, ?_⟩
        · rw [← List.drop_drop, ← h12]; exact k2
        · rw [List.take_add, takes_append, h13, ← h12, k4]
          simp

/-- The End is the last of the tokens. -/
theorem end_is {ts : List Tok} {e : Tok} {i : Nat} (hk : ∀ t ∈ ts, isKind t.kind) (h : ∃ t r, (ts ++ [e]).drop i = t :: r ∧ t.kind = 4) : (ts ++ [e]).take i = ts := by
  obtain ⟨t, r, hd, h4⟩ := h
  rcases Nat.lt_trichotomy i ts.length with hi | hi | hi
  · exfalso
    rw [List.drop_append_of_le_length (by omega), List.drop_eq_getElem_cons hi, List.cons_append] at hd
    simp only [List.cons.injEq] at hd
    have := hk ts[i] (List.getElem_mem hi)
    rw [hd.1] at this
    rcases this with h | h | h | h | h | h | h | h <;> omega
  · subst hi
    simp
  · exfalso
    rw [List.drop_eq_nil_of_le (by simp; omega)] at hd
    simp at hd

end Go.Proofs.YtlmjilpjmgjjcaaGreatDoor

namespace Go.Proofs.YtlmjilpjmgjjcaaGreatDoor
set_option linter.unusedSimpArgs false
set_option linter.unusedVariables false

/-- The variables are numbered in the order in which they first stand: from k variables on, as many as it tells then. -/
def scan : List Sym → Nat → Option Nat
  | [], k => some k
  | s :: r, k => if s.name = [] then (if s.num < k then scan r k else if s.num = k then scan r (k + 1) else none) else scan r k

theorem scan_append (a b : List Sym) (k : Nat) : scan (a ++ b) k = (scan a k).bind (scan b) := by
  induction a generalizing k with
  | nil => rfl
  | cons s a ih =>
    simp only [List.cons_append, scan]
    split
    · split
      · exact ih k
      · split
        · exact ih (k + 1)
        · rfl
    · exact ih k
theorem scan_cut {a b : List Sym} {k k' : Nat} (h : scan (a ++ b) k = some k') : ∃ j, scan a k = some j ∧ scan b j = some k' := by
  rw [scan_append] at h
  cases ha : scan a k with
  | none => rw [ha] at h; simp at h
  | some j => rw [ha] at h; exact ⟨j, rfl, h⟩
theorem scan_bound : ∀ (l : List Sym) (k k' : Nat), scan l k = some k' → k ≤ k' ∧ k' ≤ k + l.length ∧ ∀ s ∈ l, s.name = [] → s.num < k' := by
  intro l
  induction l with
  | nil => intro k k' h; simp [scan] at h; subst h; simp
  | cons s l ih =>
    intro k k' h
    simp only [scan] at h
    split at h
    · split at h
      · rename_i h1 h2
        obtain ⟨g1, g2, g3⟩ := ih _ _ h
        refine ⟨g1, by simp; omega, ?_⟩
        intro x hx hn
        simp at hx
        rcases hx with rfl | hx
        · omega
        · exact g3 x hx hn
      · split at h
        · rename_i h1 h2 h3
          obtain ⟨g1, g2, g3⟩ := ih _ _ h
          refine ⟨by omega, by simp; omega, ?_⟩
          intro x hx hn
          simp at hx
          rcases hx with rfl | hx
          · omega
          · exact g3 x hx hn
        · simp at h
    · rename_i h1
      obtain ⟨g1, g2, g3⟩ := ih _ _ h
      refine ⟨g1, by simp; omega, ?_⟩
      intro x hx hn
      simp at hx
      rcases hx with rfl | hx
      · exact absurd hn h1
      · exact g3 x hx hn

theorem idx_range (n k : Nat) (h : n < k) : (List.range k).idxOf n = n := by
  have hm : n ∈ List.range k := by simpa using h
  have h1 := List.idxOf_lt_length_of_mem hm
  have h2 := List.getElem_idxOf h1
  rw [List.getElem_range] at h2
  exact h2

theorem writes_kids (f : Nat) (IH : ∀ l, IsT f l → ∀ k k', scan l k = some k' → (wterm f l (List.range k)).2.1 = List.range k' ∧ ∀ rest miss, atomC (l ++ rest) miss = (wterm f l (List.range k)).1 ++ ((closes miss).1 ++ atomC rest (closes miss).2)) :
    ∀ (ls : List (List Sym)), ls ≠ [] → (∀ l ∈ ls, IsT f l) → ∀ (k k' : Nat) (sep : UInt8), scan ls.flatten k = some k' → (wkids f sep ls (List.range k)).2 = List.range k' ∧
      ∀ rest miss, sep :: atomC (ls.flatten ++ rest) (ls.length :: miss) = (wkids f sep ls (List.range k)).1 ++ (41 :: ((closes miss).1 ++ atomC rest (closes miss).2)) := by
  intro ls
  induction ls with
  | nil => intro h; exact absurd rfl h
  | cons l ls ih =>
    intro _ hls k k' sep hsc
    rw [List.flatten_cons] at hsc
    obtain ⟨j, h1, h2⟩ := scan_cut hsc
    obtain ⟨w1, w2⟩ := IH l (hls l (by simp)) k j h1
    cases ls with
    | nil =>
      simp only [List.flatten_nil, scan, Option.some.injEq] at h2
      subst h2
      simp only [wkids, w1, List.flatten_cons, List.flatten_nil, List.append_nil]
      refine ⟨trivial, fun rest miss => ?_⟩
      rw [w2]
      simp [closes]
    | cons l2 ls2 =>
      obtain ⟨v1, v2⟩ := ih (by simp) (fun x hx => hls x (by simp [hx])) j k' 44 h2
      have hk : wkids f sep (l :: l2 :: ls2) (List.range k) = (sep :: ((wterm f l (List.range k)).1 ++ (wkids f 44 (l2 :: ls2) (List.range j)).1), (wkids f 44 (l2 :: ls2) (List.range j)).2) := by
        rw [wkids, w1]
      rw [hk]
      refine ⟨v1, fun rest miss => ?_⟩
      rw [List.flatten_cons, List.append_assoc, w2]
      have hc : closes ((l :: l2 :: ls2).length :: miss) = ([44], (l2 :: ls2).length :: miss) := by simp [closes]
      rw [hc]
      have := v2 rest miss
      simp only [List.cons_append, List.nil_append, List.append_assoc]
      rw [this]

theorem writes : ∀ (f : Nat) (l : List Sym), IsT f l → ∀ k k', scan l k = some k' → (wterm f l (List.range k)).2.1 = List.range k' ∧ ∀ rest miss, atomC (l ++ rest) miss = (wterm f l (List.range k)).1 ++ ((closes miss).1 ++ atomC rest (closes miss).2) := by
  intro f
  induction f with
  | zero => intro l h; exact h.elim
  | succ f ih =>
    intro l h k k' hsc
    rcases h with ⟨n, rfl⟩ | ⟨nm, ls, h1, rfl, h2⟩
    · simp only [scan, if_true] at hsc
      split at hsc
      · rename_i hn
        simp at hsc; subst hsc
        have hv : wvar n (List.range k) = (calledL n, List.range k) := by
          unfold wvar
          rw [if_pos (by simpa using hn), idx_range n k hn]
        simp [wterm, hv, atomC, symC]
      · split at hsc
        · rename_i hn1 hn2
          simp at hsc; subst hsc
          have hv : wvar n (List.range k) = (calledL n, List.range (k + 1)) := by
            unfold wvar
            rw [if_neg (by simpa using hn1), List.range_succ, hn2]
            simp
          simp [wterm, hv, atomC, symC]
        · simp at hsc
    · have hsc' : scan ls.flatten k = some k' := by simpa [scan, h1] using hsc
      cases hls : ls with
      | nil =>
        rw [hls] at hsc'
        simp [scan] at hsc'
        subst hsc'
        simp [wterm, atomC, symC, h1]
      | cons l0 ls0 =>
        rw [← hls]
        have hne : ls ≠ [] := by rw [hls]; simp
        have hw := wterm_name f nm ls h1 h2 hne (List.range k)
        obtain ⟨v1, v2⟩ := writes_kids f ih ls hne h2 k k' 40 hsc'
        rw [hw]
        refine ⟨v1, fun rest miss => ?_⟩
        have hpos : 0 < ls.length := by rw [hls]; simp
        have := v2 rest miss
        simp only [List.cons_append, atomC, hpos, if_true, symC, h1, if_false, List.append_assoc]
        rw [this]
        simp

theorem body_writes (f : Nat) : ∀ (ls : List (List Sym)), (∀ l ∈ ls, IsT f l) → ∀ (k k' : Nat) (sep : List UInt8), scan ls.flatten k = some k' → bodyC sep ls = wlisted f sep ls (List.range k) := by
  intro ls
  induction ls with
  | nil => intro _ k k' sep _; rfl
  | cons l ls ih =>
    intro hls k k' sep hsc
    rw [List.flatten_cons] at hsc
    obtain ⟨j, h1, h2⟩ := scan_cut hsc
    obtain ⟨w1, w2⟩ := writes f l (hls l (by simp)) k j h1
    have h3 := w2 [] []
    simp only [List.append_nil, closes, atomC, List.nil_append] at h3
    rw [bodyC, wlisted, w1, h3, ih (fun x hx => hls x (by simp [hx])) j k' _ h2]
    simp

/-- Every token but the last has a text. -/
def Worded (ts : List Tok) : Prop := ∀ i t, ts[i]? = some t → i + 1 < ts.length → t.text ≠ []
theorem Worded.drop {ts : List Tok} (h : Worded ts) (n : Nat) : Worded (ts.drop n) := by
  intro i t hi hl
  rw [List.getElem?_drop] at hi
  rw [List.length_drop] at hl
  exact h (n + i) t hi (by omega)
theorem Worded.tail {t : Tok} {ts : List Tok} (h : Worded (t :: ts)) : Worded ts := by simpa using h.drop 1

theorem number_scan (names : Names) (s : List UInt8) (r : List Sym) : scan (⟨[], (numberOf names s).2, 0⟩ :: r) names.length = scan r (numberOf names s).1.length := by
  unfold numberOf
  split
  · rename_i h
    have := List.idxOf_lt_length_of_mem h
    simp [scan, this]
  · simp [scan]

theorem args_good (f : Nat) (IH : ∀ ts names r, Worded ts → pterm f ts names = some r → IsT f r.1 ∧ scan r.1 names.length = some r.2.2.length) (k0 : Nat) :
    ∀ (g : Nat) (ts : List Tok) (names : Names) (acc : List (List Sym)) r, Worded ts → (∀ l ∈ acc, IsT f l) → scan acc.flatten k0 = some names.length → pargs (pterm f) g ts names acc = some r → (∀ l ∈ r.1, IsT f l) ∧ scan r.1.flatten k0 = some r.2.2.length := by
  intro g
  induction g with
  | zero => intro ts names acc r _ _ _ h; simp [pargs] at h
  | succ g ih =>
    intro ts names acc r hw ha hs h
    cases ts with
    | nil => simp [pargs] at h
    | cons t ts =>
      rw [pargs] at h
      split at h
      · simp at h; subst h; exact ⟨ha, hs⟩
      · cases hq : pterm f ts names with
        | none => rw [hq] at h; simp at h
        | some q =>
          rw [hq] at h
          simp only at h
          obtain ⟨i1, i2⟩ := IH ts names q hw.tail hq
          obtain ⟨n, _, _, hn, _⟩ := pterm_behind f ts names q hq
          refine ih q.2.1 q.2.2 (acc ++ [q.1]) r (by rw [hn]; exact hw.tail.drop n) ?_ ?_ h
          · intro l hl
            simp at hl
            rcases hl with hl | rfl
            · exact ha l hl
            · exact i1
          · simp only [List.flatten_append, List.flatten_cons, List.flatten_nil, List.append_nil]
            rw [scan_append, hs]
            exact i2

theorem term_good : ∀ (f : Nat) (ts : List Tok) (names : Names) r, Worded ts → pterm f ts names = some r → IsT f r.1 ∧ scan r.1 names.length = some r.2.2.length := by
  intro f
  induction f with
  | zero => intro ts names r _ h; simp [pterm] at h
  | succ f ih =>
    intro ts names r hw h
    cases ts with
    | nil => simp [pterm] at h
    | cons t ts =>
      rw [pterm] at h
      split at h
      · simp at h; subst h
        exact ⟨Or.inl ⟨_, rfl⟩, by rw [number_scan]; rfl⟩
      · cases ts with
        | nil => simp [pname] at h
        | cons u us =>
          have ht : t.text ≠ [] := hw 0 t rfl (by simp)
          rw [pname] at h
          split at h
          · simp at h; subst h
            exact ⟨Or.inr ⟨t.text, [], ht, rfl, by simp⟩, by simp [scan, ht]⟩
          · rw [Option.map_eq_some_iff] at h
            obtain ⟨q, hq, rfl⟩ := h
            obtain ⟨g1, g2⟩ := args_good f ih names.length _ _ _ _ _ hw.tail (by simp) rfl hq
            exact ⟨Or.inr ⟨t.text, q.1, ht, rfl, g1⟩, by simpa [scan, ht] using g2⟩

theorem terms_good (f : Nat) (k0 : Nat) : ∀ (g : Nat) (ts : List Tok) (names : Names) (acc : List (List Sym)) q, Worded ts → (∀ l ∈ acc, IsT f l) → scan acc.flatten k0 = some names.length → pterms f g ts names acc = some q →
    (∀ l ∈ q.1, IsT f l) ∧ scan q.1.flatten k0 = some q.2.2.length ∧ Worded q.2.1 := by
  intro g
  induction g with
  | zero => intro ts names acc q _ _ _ h; simp [pterms] at h
  | succ g ih =>
    intro ts names acc q hw ha hs h
    rw [pterms] at h
    cases hq : pterm f ts names with
    | none => rw [hq] at h; simp at h
    | some r =>
      rw [hq] at h
      simp only at h
      obtain ⟨i1, i2⟩ := term_good f ts names r hw hq
      obtain ⟨n, _, _, hn, _⟩ := pterm_behind f ts names r hq
      have hw1 : Worded r.2.1 := by rw [hn]; exact hw.drop n
      have ha1 : ∀ l ∈ acc ++ [r.1], IsT f l := by
        intro l hl
        simp at hl
        rcases hl with hl | rfl
        · exact ha l hl
        · exact i1
      have hs1 : scan (acc ++ [r.1]).flatten k0 = some r.2.2.length := by
        simp only [List.flatten_append, List.flatten_cons, List.flatten_nil, List.append_nil]
        rw [scan_append, hs]
        exact i2
      cases hr : r.2.1 with
      | nil => rw [hr] at h; simp at h
      | cons x rest =>
        rw [hr] at h hw1
        simp only at h
        split at h
        · simp at h; subst h
          exact ⟨ha1, hs1, hw1.tail⟩
        · exact ih rest r.2.2 (acc ++ [r.1]) q hw1.tail ha1 hs1 h

/-- A clause that is written alike. -/
def Good (c : Cls) : Prop := IsT 1000 c.head ∧ (∀ l ∈ c.body, IsT 1000 l) ∧ ∃ k1 k2, scan c.head 0 = some k1 ∧ scan c.body.flatten k1 = some k2

theorem clause_good (ts : List Tok) (c : Cls × List Tok) (hw : Worded ts) (h : pclause ts = some c) : Good c.1 ∧ Worded c.2 := by
  rw [pclause] at h
  cases hp : pterm 1000 ts [] with
  | none => rw [hp] at h; simp at h
  | some r =>
    rw [hp] at h
    simp only at h
    obtain ⟨i1, i2⟩ := term_good 1000 ts [] r hw hp
    obtain ⟨n, _, _, hn, _⟩ := pterm_behind 1000 ts [] r hp
    have hw1 : Worded r.2.1 := by rw [hn]; exact hw.drop n
    cases hr : r.2.1 with
    | nil => rw [hr] at h; simp at h
    | cons y ys =>
      rw [hr] at h hw1
      simp only at h
      split at h
      · rw [Option.map_eq_some_iff] at h
        obtain ⟨q, hq, rfl⟩ := h
        obtain ⟨g1, g2, g3⟩ := terms_good 1000 r.2.2.length 1000 ys r.2.2 [] q hw1.tail (by simp) rfl hq
        exact ⟨⟨i1, g1, _, _, i2, g2⟩, g3⟩
      · simp at h
        subst h
        exact ⟨⟨i1, by simp, _, _, i2, rfl⟩, hw1.tail⟩

theorem prog_good : ∀ (g : Nat) (ts : List Tok) (acc cs : List Cls), Worded ts → (∀ c ∈ acc, Good c) → pprog g ts acc = some cs → ∀ c ∈ cs, Good c := by
  intro g
  induction g with
  | zero => intro ts acc cs _ _ h; simp [pprog] at h
  | succ g ih =>
    intro ts acc cs hw ha h
    cases ts with
    | nil => simp [pprog] at h
    | cons t ts =>
      rw [pprog] at h
      split at h
      · simp at h; subst h; exact ha
      · cases hc : pclause (t :: ts) with
        | none => rw [hc] at h; simp at h
        | some c =>
          rw [hc] at h
          simp only at h
          obtain ⟨g1, g2⟩ := clause_good _ c hw hc
          refine ih c.2 (acc ++ [c.1]) cs g2 ?_ h
          intro x hx
          simp at hx
          rcases hx with hx | rfl
          · exact ha x hx
          · exact g1

theorem rule_writes (c : Cls) (h : Good c) : ruleC c ++ [10] = wclause c := by
  obtain ⟨h1, h2, k1, k2, h3, h4⟩ := h
  obtain ⟨w1, w2⟩ := writes 1000 c.head h1 0 k1 h3
  have w3 := w2 [] []
  simp only [List.append_nil, closes, atomC, List.nil_append, List.range_zero] at w1 w3
  unfold ruleC wclause
  split
  · rw [w3]; simp
  · rw [w3, w1, body_writes 1000 c.body h2 k1 k2 [] h4]; simp
theorem prog_writes (cs : List Cls) (h : ∀ c ∈ cs, Good c) : progC cs = cs.flatMap wclause := by
  induction cs with
  | nil => rfl
  | cons c cs ih =>
    rw [progC, List.flatMap_cons, ← rule_writes c (h c (by simp)), ih (fun x hx => h x (by simp [hx]))]
    simp

theorem flat_mem_len (ls : List (List Sym)) (l : List Sym) (h : l ∈ ls) : l.length ≤ ls.flatten.length := by
  induction ls with
  | nil => simp at h
  | cons x ls ih =>
    simp only [List.mem_cons] at h
    rw [List.flatten_cons, List.length_append]
    rcases h with rfl | h
    · omega
    · have := ih h; omega

theorem isT_syms : ∀ (f : Nat) (l : List Sym), IsT f l → ∀ s ∈ l, s.args ≤ l.length ∧ (s.name = [] ∨ s.num = 0) := by
  intro f
  induction f with
  | zero => intro l h; exact h.elim
  | succ f ih =>
    intro l h s hs
    rcases h with ⟨n, rfl⟩ | ⟨nm, ls, h1, rfl, h2⟩
    · simp at hs; subst hs; simp
    · have hfl := flat_len f ls h2
      simp only [List.mem_cons] at hs
      rcases hs with rfl | hs
      · exact ⟨by simp only [List.length_cons]; omega, Or.inr rfl⟩
      · rw [List.mem_flatten] at hs
        obtain ⟨l', hl', hs⟩ := hs
        obtain ⟨a1, a2⟩ := ih l' (h2 l' hl') s hs
        have := flat_mem_len ls l' hl'
        exact ⟨by simp only [List.length_cons]; omega, a2⟩

theorem sym_ok (f : Nat) (l : List Sym) (k k' : Nat) (h : IsT f l) (hs : scan l k = some k') (hl : l.length ≤ 1000) (hk : k' ≤ 2600) : SymOk l := by
  refine ⟨by omega, fun s hm => ?_⟩
  obtain ⟨a1, a2⟩ := isT_syms f l h s hm
  obtain ⟨_, _, b3⟩ := scan_bound l k k' hs
  refine ⟨?_, by omega⟩
  rcases a2 with a2 | a2
  · have := b3 s hm a2; omega
  · omega

theorem body_ok (f : Nat) : ∀ (ls : List (List Sym)) (k k' : Nat), (∀ l ∈ ls, IsT f l) → scan ls.flatten k = some k' → ls.flatten.length ≤ 1000 → k' ≤ 2600 → ∀ l ∈ ls, SymOk l := by
  intro ls
  induction ls with
  | nil => intro k k' _ _ _ _ l hl; simp at hl
  | cons l ls ih =>
    intro k k' hT hs hl hk x hx
    rw [List.flatten_cons] at hs hl
    rw [List.length_append] at hl
    obtain ⟨j, h1, h2⟩ := scan_cut hs
    obtain ⟨b1, _, _⟩ := scan_bound _ _ _ h2
    simp only [List.mem_cons] at hx
    rcases hx with rfl | hx
    · exact sym_ok f x k j (hT x (by simp)) h1 (by omega) (by omega)
    · exact ih j k' (fun y hy => hT y (by simp [hy])) h2 (by omega) hk x hx

end Go.Proofs.YtlmjilpjmgjjcaaGreatDoor

namespace Go.Proofs.YtlmjilpjmgjjcaaGreatDoor
set_option linter.unusedSimpArgs false
set_option linter.unusedVariables false

theorem alltoks_worded (s : ByteArray) : Worded (alltoks s) := alltoks_some s

theorem runs_lover (s : ByteArray) (q : Bool) : (runs s q).1 = (lover (alltoks s) (lstart0 q)).1 ∧ ((runs s q).1 ≠ 0 → (runs s q).2.1 = (lover (alltoks s) (lstart0 q)).2) ∧ ((runs s q).1 = 0 → (runs s q).2.2 = takes (toks s.data.toList 0) (st0 q)) :=
  run_lover s.size _ _ _ (sim0 q) (toks_kinds _ _)

theorem rest_end {ts : List Tok} {L : LookS} (hok : okk ts L) (hf : fin ts) (hw : L.want = 5) : ∃ t r, ts = t :: r ∧ t.kind = 4 := by
  cases ts with
  | nil => exact hf.elim
  | cons t r =>
    refine ⟨t, r, rfl, ?_⟩
    apply Classical.byContradiction
    intro hk
    have h := (okk_cons hok (fun hc => hk hc.1)).1
    unfold lstep at h
    rw [if_neg (by omega), if_pos hw] at h
    simp at h

theorem query_fits (s : ByteArray) (hs : s.size ≤ 120) (h0 : (runs s true).1 = 0) :
    ∃ q, pterms 1000 1000 (alltoks s) [] [] = some q ∧ (runs s true).2.2.clauses = [⟨[], q.1, q.2.2⟩] ∧ bodyC [] q.1 = wlisted 1000 [] q.1 [] ∧ q.1.length ≤ 4000 ∧ (∀ l ∈ q.1, SymOk l) ∧ (bodyC [] q.1).length ≤ 100000000 := by
  obtain ⟨r1, _, r3⟩ := runs_lover s true
  have hl := alltoks_len s
  have hok : okk (alltoks s) (lstart0 true) := r1.symm.trans h0
  obtain ⟨q, L', i, ex, h1, h2, h3, h4, _, _, _, _, h9, h10, h11⟩ := terms_run 1000 (alltoks s) (lstart0 true) [] (st0 true) (by omega) (by omega) hok (fin_end _ _) rfl rfl rfl rfl rfl rfl rfl
  have hend : (alltoks s).take i = toks s.data.toList 0 := end_is (toks_kinds _ _) (by
    obtain ⟨t, r, e1, e2⟩ := rest_end h2 h3 (by rw [h4]; rfl)
    exact ⟨t, r, by rw [← e1, h9]; rfl, e2⟩)
  rw [hend] at h11
  have h1' : pterms 1000 1000 (alltoks s) [] [] = some q := h1
  have hM := pterms_syms (M := 120) 1000 (alltoks s) [] [] q (fun t ht => Nat.le_trans (alltoks_text s t ht) hs) (by simp) h1'
  obtain ⟨g1, g2, _⟩ := terms_good 1000 0 1000 (alltoks s) [] [] q (alltoks_worded s) (by simp) rfl h1'
  have hfl := flat_len 1000 q.1 g1
  have hlen : q.1.flatten.length ≤ 121 := by have := hM.1; simp only [List.flatten_nil, List.length_nil] at this; omega
  obtain ⟨_, b2, _⟩ := scan_bound _ _ _ g2
  have hw := body_writes 1000 q.1 g1 0 _ [] g2
  simp only [List.range_zero] at hw
  have hwl := wlisted_len 1000 q.1 g1 (fun x hx => Nat.le_trans (hM.2.1 x hx) (by omega)) [] [] (by simp) (by simp only [List.length_nil]; omega)
  refine ⟨q, h1', ?_, hw, by omega, body_ok 1000 q.1 0 _ g1 g2 (by omega) (by omega), ?_⟩
  · rw [r3 h0, h11, h10]
    rfl
  · rw [hw]; omega

theorem sums_len (cs : List Cls) (h : ∀ c ∈ cs, (wclause c).length ≤ 4110 * csize c) : (cs.flatMap wclause).length ≤ 4110 * (cs.map csize).sum := by
  induction cs with
  | nil => simp
  | cons c cs ih =>
    have h1 := ih (fun x hx => h x (by simp [hx]))
    have h2 := h c (by simp)
    simp only [List.flatMap_cons, List.length_append, List.map_cons, List.sum_cons]
    omega
theorem sums_mem (cs : List Cls) (c : Cls) (h : c ∈ cs) : csize c ≤ (cs.map csize).sum := by
  induction cs with
  | nil => simp at h
  | cons x cs ih =>
    simp only [List.mem_cons] at h
    simp only [List.map_cons, List.sum_cons]
    rcases h with rfl | h
    · omega
    · have := ih h; omega

theorem program_fits (s : ByteArray) (hs : s.size ≤ 800) (h0 : (runs s false).1 = 0) :
    ∃ cs, pprog 1000 (alltoks s) [] = some cs ∧ (progC (runs s false).2.2.clauses) = cs.flatMap wclause ∧ (runs s false).2.2.clauses.length ≤ 4000 ∧ (∀ c ∈ (runs s false).2.2.clauses, c.body.length ≤ 4000 ∧ SymOk c.head ∧ ∀ l ∈ c.body, SymOk l) ∧ (cs.flatMap wclause).length ≤ 100000000 := by
  obtain ⟨r1, _, r3⟩ := runs_lover s false
  have hl := alltoks_len s
  have hok : okk (alltoks s) (lstart0 false) := r1.symm.trans h0
  obtain ⟨cs, i, ex, h1, h2, h3, h4⟩ := prog_run 1000 (alltoks s) (lstart0 false) [] (st0 false) (by omega) (by omega) hok (fin_end _ _) rfl rfl rfl rfl ⟨rfl, rfl, rfl, rfl, rfl, rfl, rfl, rfl⟩
  rw [show (alltoks s).take i = toks s.data.toList 0 from end_is (toks_kinds _ _) h2] at h4
  rw [List.nil_append] at h3
  subst h3
  have hcl : (runs s false).2.2.clauses = cs := by
    rw [r3 h0, h4]
    rfl
  have hg := prog_good 1000 (alltoks s) [] cs (alltoks_worded s) (by simp) h1
  obtain ⟨m1, m2, m3⟩ := pprog_syms (M := 800) 1000 (alltoks s) [] cs (fun t ht => Nat.le_trans (alltoks_text s t ht) hs) (by simp) h1
  simp only [List.map_nil, List.sum_nil, List.length_nil] at m1 m2
  rw [hcl]
  refine ⟨cs, h1, prog_writes cs hg, by omega, ?_, ?_⟩
  · intro c hc
    obtain ⟨g1, g2, k1, k2, g3, g4⟩ := hg c hc
    have hm := Nat.le_trans (sums_mem cs c hc) m1
    unfold csize at hm
    have hfl := flat_len 1000 c.body g2
    obtain ⟨_, b1, _⟩ := scan_bound _ _ _ g3
    obtain ⟨_, b2, _⟩ := scan_bound _ _ _ g4
    exact ⟨by omega, sym_ok 1000 c.head 0 k1 g1 g3 (by omega) (by omega), body_ok 1000 c.body k1 k2 g2 g4 (by omega) (by omega)⟩
  · have := sums_len cs (fun c hc => by
      obtain ⟨g1, g2, _⟩ := hg c hc
      have hm := sums_mem cs c hc
      exact wclause_len c g1 g2 (fun x hx => Nat.le_trans ((m3 c hc).1 x hx) (by omega)) (fun x hx => Nat.le_trans ((m3 c hc).2 x hx) (by omega)) (by omega))
    omega

end Go.Proofs.YtlmjilpjmgjjcaaGreatDoor
