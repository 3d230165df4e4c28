/-
  PROVED HERE: plain facts: the program's reader lets by what the reference's look lets by, token by token (the conditions stand in each statement).
-/
import Derived.Test.YtcbckkenifmchaaGreatDoorCodeInv
namespace Go.Proofs.YtcbckkenifmchaaGreatDoor
set_option linter.unusedSimpArgs false
set_option linter.unusedVariables false

/-- How many terms stand behind the symbol at a place. -/
def argAt (l : List Sym) (n : Nat) : Nat := (l[n]?.map (fun s => s.args)).getD 0
/-- How far both have come. -/
structure Sim (st : RS) (L : LookS) : Prop where
  want : L.want = st.next
  query : L.query = st.query
  err : L.err = 0
  n5 : st.next ≤ 5
  stk : L.stk = st.opn.map (argAt st.atom)
  opn : ∀ n ∈ st.opn, n < st.atom.length
  down : st.opn.Pairwise (fun a b => b < a)
  flat : st.next = 0 ∨ st.next = 1 ∨ st.next = 5 → st.atom = [] ∧ st.opn = []
  size : st.next = 2 ∨ st.next = 3 ∨ st.next = 4 → L.size = st.atom.length
  open2 : st.next = 2 → st.opn ≠ []
  name : st.next = 3 → 0 < st.atom.length ∧ argAt st.atom (st.atom.length - 1) = 0 ∧ ∀ n ∈ st.opn, n < st.atom.length - 1
  inb : st.next ≠ 0 → st.next ≠ 5 → L.body = st.inBody
  inb1 : st.next = 1 → st.inBody = true
  goals : st.inBody = true → st.next ≠ 0 → st.next ≠ 5 → L.goals = st.body.length + (if st.next = 1 then 0 else 1)
  heads : st.query = false → L.heads = st.clauses.length + (if st.next = 0 then 0 else 1)
  hd : st.inBody = false → st.body = []
  q0 : st.query = true → st.next ≠ 0
  h0 : st.next = 0 → st.inBody = false

theorem argAt_bump (l : List Sym) (n : Nat) (s : Sym) (h : n < l.length) : argAt (l.modify n (fun s => { s with args := s.args + 1 }) ++ [s]) n = argAt l n + 1 := by
  unfold argAt
  rw [List.getElem?_append_left (by simpa using h), List.getElem?_modify, List.getElem?_eq_getElem h]
  simp
theorem argAt_other (l : List Sym) (n m : Nat) (s : Sym) (h : m < l.length) (hm : m ≠ n) : argAt (l.modify n (fun s => { s with args := s.args + 1 }) ++ [s]) m = argAt l m := by
  unfold argAt
  rw [List.getElem?_append_left (by simpa using h), List.getElem?_modify]
  have : ¬ n = m := fun e => hm e.symm
  cases l[m]? <;> simp [this]
theorem argAt_last (l : List Sym) (s : Sym) : argAt (l ++ [s]) l.length = s.args := by
  unfold argAt; simp

theorem kmap1 : kmap 1 = 1 := rfl
theorem kmap2 : kmap 2 = 2 := rfl
theorem kmap40 : kmap 40 = 3 := rfl
theorem kmap41 : kmap 41 = 4 := rfl
theorem kmap44 : kmap 44 = 5 := rfl
theorem kmap46 : kmap 46 = 6 := rfl
theorem kmap3 : kmap 3 = 7 := rfl
theorem kmap5 : kmap 5 = 8 := rfl

theorem kmap_name {k : Nat} (hk : isKind k) : (kmap k = 1 ↔ k = 1) ∧ (kmap k = 2 ↔ k = 2) := by
  rcases hk with rfl | rfl | rfl | rfl | rfl | rfl | rfl | rfl <;> simp [kmap]

/-- Ahead of an atom. -/
theorem sim_begin {st : RS} {L : LookS} (h : Sim st L) (k len : Nat) (t : List UInt8) (hk : isKind k) (hn : st.next = 0 ∨ st.next = 1) :
    checkC st (kmap k) len = (lstep L k len).err ∧ ((lstep L k len).err = 0 → Sim (takeS st (kmap k) t) (lstep L k len)) := by
  obtain ⟨ha, ho⟩ := h.flat (by omega)
  have hs := h.stk
  rw [ho] at hs
  simp only [List.map_nil] at hs
  have hw := h.want
  have he := h.err
  have hlst : lstep L k len = lbegins L k len := by rw [lstep, if_pos (by omega)]
  rw [hlst]
  by_cases hk1 : k = 1
  · subst hk1
    have hst : standC st 1 = true := by unfold standC; rw [if_pos (by omega)]; rfl
    have hbk : bumpS st = [] := by simp [bumpS, ho, ha]
    rcases hn with hn | hn
    · have hq : st.query = false := by
        cases hq : st.query
        · rfl
        · exact absurd hn (h.q0 hq)
      have hh := h.heads hq
      rw [if_pos hn] at hh
      have hfull : fullC st = decide (24 ≤ st.clauses.length) := by simp [fullC, hn]
      have hl : lbegins L 1 len = { L with heads := L.heads + 1, body := false, size := 1, err := if 8 < len ∨ 30 < 0 + 1 then 3 else if 24 < L.heads + 1 then 3 else L.err, want := 3 } := by
        simp [lbegins, lsized, lstart, hw, hn]
      rw [hl, kmap1]
      constructor
      · simp only [checkC, hst, hfull, he]
        rw [hh]
        by_cases h8 : 8 < len
        · simp [h8]
        · by_cases hc : 24 ≤ st.clauses.length
          · rw [if_neg (by simp), if_pos (by simp [hc]), if_neg (by omega), if_pos (by omega)]
          · rw [if_neg (by simp), if_neg (by simp [h8, hc] <;> omega), if_neg (by omega), if_neg (by omega)]
      · intro he2
        have hst2 : takeS st 1 t = { st with atom := [⟨t, 0, 0⟩], next := 3 } := by simp [takeS, addS, hbk]
        rw [hst2]
        exact {
          want := rfl
          query := h.query
          err := he2
          n5 := by simp
          stk := by simp [ho, hs]
          opn := by simp [ho]
          down := by simp [ho]
          flat := by simp
          size := by simp
          open2 := by simp
          name := by simp [ho, argAt]
          inb := by simp [h.h0 hn]
          inb1 := by simp
          goals := by simp [h.h0 hn]
          heads := by simp [hh]
          hd := h.hd
          q0 := by simp
          h0 := by simp }
    · have hib := h.inb1 hn
      have hg := h.goals hib (by omega) (by omega)
      rw [if_pos hn] at hg
      have hfull : fullC st = decide (6 ≤ st.body.length) := by simp [fullC, hn]
      have hl : lbegins L 1 len = { L with goals := L.goals + 1, size := 1, err := if 8 < len ∨ 30 < 0 + 1 then 3 else if 6 < L.goals + 1 then 3 else L.err, want := 3 } := by
        simp [lbegins, lsized, lstart, hw, hn]
      rw [hl, kmap1]
      constructor
      · simp only [checkC, hst, hfull, he]
        rw [hg]
        by_cases h8 : 8 < len
        · simp [h8]
        · by_cases hc : 6 ≤ st.body.length
          · rw [if_neg (by simp), if_pos (by simp [hc]), if_neg (by omega), if_pos (by omega)]
          · rw [if_neg (by simp), if_neg (by simp [h8, hc] <;> omega), if_neg (by omega), if_neg (by omega)]
      · intro he2
        have hst2 : takeS st 1 t = { st with atom := [⟨t, 0, 0⟩], next := 3 } := by simp [takeS, addS, hbk]
        have hh := h.heads
        rw [if_neg (by omega)] at hh
        rw [hst2]
        exact {
          want := rfl
          query := h.query
          err := he2
          n5 := by simp
          stk := by simp [ho, hs]
          opn := by simp [ho]
          down := by simp [ho]
          flat := by simp
          size := by simp
          open2 := by simp
          name := by simp [ho, argAt]
          inb := fun _ _ => h.inb (by omega) (by omega)
          inb1 := by simp
          goals := by simp [hg]
          heads := by simpa using hh
          hd := h.hd
          q0 := by simp
          h0 := by simp }
  · have hkm : ¬ kmap k = 1 := fun e => hk1 ((kmap_name hk).1.1 e)
    have hst : standC st (kmap k) = false := by unfold standC; rw [if_pos (by omega)]; simpa using hkm
    have hl : lbegins L k len = { L with err := 2 } := by
      unfold lbegins
      rw [if_pos ⟨hk1, Or.inr (by omega)⟩]
    rw [hl]
    exact ⟨by simp [checkC, hst], by simp⟩

/-- A term inside brackets. -/
theorem sim_arg {st : RS} {L : LookS} (h : Sim st L) (k len : Nat) (t : List UInt8) (hk : isKind k) (hn : st.next = 2) :
    checkC st (kmap k) len = (lstep L k len).err ∧ ((lstep L k len).err = 0 → Sim (takeS st (kmap k) t) (lstep L k len)) := by
  have hw := h.want
  have he := h.err
  have hlst : lstep L k len = lbegins L k len := by rw [lstep, if_pos (by omega)]
  rw [hlst]
  obtain ⟨n, r, ho⟩ : ∃ n r, st.opn = n :: r := by
    cases hc : st.opn with
    | nil => exact absurd hc (h.open2 hn)
    | cons n r => exact ⟨n, r, rfl⟩
  have hs := h.stk
  rw [ho, List.map_cons] at hs
  have hnl := h.opn n (by rw [ho]; simp)
  have hsz := h.size (by omega)
  have hd := h.down
  rw [ho, List.pairwise_cons] at hd
  by_cases hk12 : k = 1 ∨ k = 2
  · have hst : standC st (kmap k) = true := by
      unfold standC
      rw [if_neg (by omega), if_pos hn]
      rcases hk12 with rfl | rfl <;> rfl
    have hargs : argsN st = argAt st.atom n := by
      unfold argsN argAt
      rw [ho]
      simp only
      cases st.atom[n]? <;> rfl
    have hfull : fullC st = (decide (30 ≤ st.atom.length) || decide (4 ≤ argAt st.atom n)) := by simp [fullC, hn, hargs]
    have hl : lbegins L k len = { L with stk := (argAt st.atom n + 1) :: r.map (argAt st.atom), size := L.size + 1, err := if 8 < len ∨ 30 < L.size + 1 then 3 else if 4 < argAt st.atom n + 1 then 3 else L.err, want := if k = 1 then 3 else 4 } := by
      unfold lbegins
      rw [if_neg (by omega)]
      simp [lsized, lstart, hw, hn, hs]
    rw [hl]
    have hkm : kmap k = 1 ∨ kmap k = 2 := by rcases hk12 with rfl | rfl <;> simp [kmap]
    have hbump : bumpS st = st.atom.modify n (fun s => { s with args := s.args + 1 }) := by simp [bumpS, ho]
    constructor
    · simp only [checkC, hst, hfull, he]
      rw [hsz]
      by_cases h8 : 8 < len
      · simp [h8, hkm]
      · by_cases hc : 30 ≤ st.atom.length
        · rw [if_neg (by simp), if_pos ⟨hkm, Or.inr (by simp [hc])⟩, if_pos (by omega)]
        · by_cases hd4 : 4 ≤ argAt st.atom n
          · rw [if_neg (by simp), if_pos ⟨hkm, Or.inr (by simp [hd4])⟩, if_neg (by omega), if_pos (by omega)]
          · rw [if_neg (by simp), if_neg (by simp [h8, hc, hd4] <;> omega), if_neg (by omega), if_neg (by omega)]
    · intro he2
      have hmap : ∀ (s : Sym), st.opn.map (argAt (bumpS st ++ [s])) = (argAt st.atom n + 1) :: r.map (argAt st.atom) := by
        intro s
        rw [ho, List.map_cons, hbump, argAt_bump _ _ _ hnl]
        congr 1
        apply List.map_congr_left
        intro m hm
        exact argAt_other _ _ _ _ (h.opn m (by rw [ho]; simp [hm])) (by have := hd.1 m hm; omega)
      have hbl := bump_len st
      have hopn' : ∀ m ∈ st.opn, m < st.atom.length + 1 := fun m hm => Nat.lt_succ_of_lt (h.opn m hm)
      have hh := h.heads
      rw [if_neg (by omega)] at hh
      have hg := h.goals
      rcases hk12 with rfl | rfl
      · have hst2 : takeS st (kmap 1) t = { st with atom := bumpS st ++ [⟨t, 0, 0⟩], next := 3 } := by simp [kmap1, takeS, addS]
        rw [hst2]
        exact {
          want := rfl
          query := h.query
          err := he2
          n5 := by simp
          stk := (hmap _).symm
          opn := by simpa [hbl] using hopn'
          down := h.down
          flat := by simp
          size := by simp [hsz, hbl]
          open2 := by simp
          name := by
            intro _
            refine ⟨by simp, ?_, ?_⟩
            · have := argAt_last (bumpS st) ⟨t, 0, 0⟩
              simpa using this
            · simpa [hbl] using h.opn
          inb := fun _ _ => h.inb (by omega) (by omega)
          inb1 := by simp
          goals := fun hi _ _ => by have := hg hi (by omega) (by omega); rw [if_neg (by omega)] at this; simpa using this
          heads := by simpa using hh
          hd := h.hd
          q0 := by simp
          h0 := by simp }
      · have hst2 : takeS st (kmap 2) t = { st with atom := bumpS st ++ [⟨[], (numberOf st.vars t).2, 0⟩], vars := (numberOf st.vars t).1, next := 4 } := by simp [kmap2, takeS, addS, varS, bumpS, ho]
        rw [hst2]
        exact {
          want := rfl
          query := h.query
          err := he2
          n5 := by simp
          stk := (hmap _).symm
          opn := by simpa [hbl] using hopn'
          down := h.down
          flat := by simp
          size := by simp [hsz, hbl]
          open2 := by simp
          name := by simp
          inb := fun _ _ => h.inb (by omega) (by omega)
          inb1 := by simp
          goals := fun hi _ _ => by have := hg hi (by omega) (by omega); rw [if_neg (by omega)] at this; simpa using this
          heads := by simpa using hh
          hd := h.hd
          q0 := by simp
          h0 := by simp }
  · have hkm : ¬ kmap k = 1 ∧ ¬ kmap k = 2 := ⟨fun e => hk12 (Or.inl ((kmap_name hk).1.1 e)), fun e => hk12 (Or.inr ((kmap_name hk).2.1 e))⟩
    have hst : standC st (kmap k) = false := by unfold standC; rw [if_neg (by omega), if_pos hn]; simpa using hkm
    have hl : lbegins L k len = { L with err := 2 } := by
      unfold lbegins
      rw [if_pos (by omega)]
    rw [hl]
    exact ⟨by simp [checkC, hst], by simp⟩

/-- Behind a term. -/
theorem sim_follow {st : RS} {L : LookS} (h : Sim st L) (k len : Nat) (t : List UInt8) (hk : isKind k) (hn : st.next = 3 ∨ st.next = 4) :
    checkC st (kmap k) len = (lstep L k len).err ∧ ((lstep L k len).err = 0 → Sim (takeS st (kmap k) t) (lstep L k len)) := by
  have hw := h.want
  have he := h.err
  have hlst : lstep L k len = lfollows L k := by rw [lstep, if_neg (by omega), if_neg (by omega)]
  rw [hlst]
  have hsz := h.size (by omega)
  have hib := h.inb (by omega) (by omega)
  have hs := h.stk
  have hh := h.heads
  rw [if_neg (by omega)] at hh
  have hq := h.query
  have hse : L.stk = [] ↔ st.opn = [] := by rw [hs]; simp
  have chk : ∀ b, standC st (kmap k) = b → (kmap k ≠ 1 ∧ kmap k ≠ 2) → checkC st (kmap k) len = if b then 0 else 2 := by
    intro b hb hkm
    subst hb
    unfold checkC
    cases standC st (kmap k) <;> simp [hkm]
  have stand : ∀ kd, standC st kd = ((kd == 3 && decide (st.next = 3)) || followC st kd) := by
    intro kd
    unfold standC
    rw [if_neg (by omega), if_neg (by omega)]
    rcases hn with hn | hn <;> simp [hn]
  by_cases h12 : k = 1 ∨ k = 2 ∨ k = 5
  · have hst : standC st (kmap k) = false := by
      rw [stand]
      rcases h12 with rfl | rfl | rfl <;> (unfold followC; simp [kmap])
    have hl : lfollows L k = { L with err := 2 } := by
      rcases h12 with rfl | rfl | rfl <;> (unfold lfollows; simp)
    rw [hl]
    exact ⟨by simp [checkC, hst], by simp⟩
  · have hkm : kmap k ≠ 1 ∧ kmap k ≠ 2 := ⟨fun e => h12 (Or.inl ((kmap_name hk).1.1 e)), fun e => h12 (Or.inr (Or.inl ((kmap_name hk).2.1 e)))⟩
    by_cases h40 : k = 40
    · subst h40
      by_cases h3 : st.next = 3
      · have hst : standC st (kmap 40) = true := by rw [stand]; simp [kmap40, h3]
        have hl : lfollows L 40 = { L with stk := 0 :: L.stk, want := 2 } := by simp [lfollows, hw, h3]
        rw [hl, chk true hst hkm]
        refine ⟨he.symm, fun _ => ?_⟩
        obtain ⟨n1, n2, n3⟩ := h.name h3
        have hst2 : takeS st (kmap 40) t = { st with opn := (st.atom.length - 1) :: st.opn, next := 2 } := by simp [kmap40, takeS]
        rw [hst2]
        exact {
          want := rfl
          query := hq
          err := he
          n5 := by simp
          stk := by simp [hs, n2]
          opn := by
            intro m hm
            simp only [List.mem_cons] at hm
            rcases hm with rfl | hm
            · show st.atom.length - 1 < st.atom.length
              omega
            · exact h.opn m hm
          down := by
            rw [List.pairwise_cons]
            exact ⟨n3, h.down⟩
          flat := by simp
          size := fun _ => hsz
          open2 := by simp
          name := by simp
          inb := fun _ _ => hib
          inb1 := by simp
          goals := fun hi _ _ => by have := h.goals hi (by omega) (by omega); rw [if_neg (by omega)] at this; simpa using this
          heads := by simpa using hh
          hd := h.hd
          q0 := by simp
          h0 := by simp }
      · have hst : standC st (kmap 40) = false := by
          rw [stand]
          unfold followC
          simp [kmap40, h3]
        have hl : lfollows L 40 = { L with err := 2 } := by
          unfold lfollows
          have : ¬ L.want = 3 := by omega
          simp [this]
        rw [hl]
        exact ⟨by simp [checkC, hst], by simp⟩
    · cases ho : st.opn with
      | nil =>
        have hsn : L.stk = [] := hse.2 ho
        cases hb : st.inBody with
        | false =>
          have hfo : ∀ kd, followC st kd = (kd == 7 || kd == 6) := by intro kd; simp [followC, ho, hb]
          have hLb : L.body = false := hib.trans hb
          by_cases hk3 : k = 3
          · subst hk3
            have hst : standC st (kmap 3) = true := by rw [stand, hfo]; rfl
            have hl : lfollows L 3 = { L with body := true, goals := 0, want := 1 } := by simp [lfollows, hsn, hLb]
            rw [hl, chk true hst hkm]
            refine ⟨he.symm, fun _ => ?_⟩
            have hst2 : takeS st (kmap 3) t = { st with head := st.atom, atom := [], inBody := true, next := 1 } := by simp [kmap3, takeS, endAtomS, hb]
            rw [hst2]
            exact {
              want := rfl
              query := hq
              err := he
              n5 := by simp
              stk := by simp [hsn, ho]
              opn := by simp [ho]
              down := by simp [ho]
              flat := by simp [ho]
              size := by simp
              open2 := by simp
              name := by simp
              inb := by simp
              inb1 := by simp
              goals := by simp [h.hd hb]
              heads := by simpa using hh
              hd := by simp
              q0 := by simp
              h0 := by simp }
          · by_cases hk46 : k = 46
            · subst hk46
              have hst : standC st (kmap 46) = true := by rw [stand, hfo]; rfl
              have hl : lfollows L 46 = { L with want := if L.query then 5 else 0 } := by cases hq : L.query <;> simp [lfollows, hsn, hLb, hq]
              rw [hl, chk true hst hkm]
              refine ⟨he.symm, fun _ => ?_⟩
              have hst2 : takeS st (kmap 46) t = { st with clauses := st.clauses ++ [⟨st.atom, st.body⟩], atom := [], head := [], body := [], vars := [], inBody := false, next := if st.query then 5 else 0 } := by simp [kmap46, takeS, endAtomS, endClauseS, hb]
              rw [hst2]
              have hnx : (if st.query then 5 else 0 : Nat) = 0 ∨ (if st.query then 5 else 0 : Nat) = 5 := by split <;> simp
              exact {
                want := by rw [hq]
                query := hq
                err := he
                n5 := by simp only; omega
                stk := by simp [hsn, ho]
                opn := by simp [ho]
                down := by simp [ho]
                flat := by simp [ho]
                size := by simp only; omega
                open2 := by simp only; omega
                name := by simp only; omega
                inb := by simp only; omega
                inb1 := by simp only; omega
                goals := by simp
                heads := by
                  intro hqf
                  have hqf : st.query = false := hqf
                  have := hh hqf
                  simp [hqf, this]
                hd := by simp
                q0 := by intro hqt; have hqt : st.query = true := hqt; simp [hqt]
                h0 := by simp }
            · have hst : standC st (kmap k) = false := by
                rw [stand, hfo]
                rcases hk with rfl | rfl | rfl | rfl | rfl | rfl | rfl | rfl <;> simp_all [kmap]
              have hl : lfollows L k = { L with err := 2 } := by
                unfold lfollows
                simp [h40, hsn, hLb, hk3, hk46]
              rw [hl]
              exact ⟨by simp [checkC, hst], by simp⟩
        | true =>
          have hfo : ∀ kd, followC st kd = (kd == 5 || kd == 6) := by intro kd; simp [followC, ho, hb]
          have hLb : L.body = true := hib.trans hb
          have hg := h.goals hb (by omega) (by omega)
          rw [if_neg (by omega)] at hg
          by_cases hk44 : k = 44
          · subst hk44
            have hst : standC st (kmap 44) = true := by rw [stand, hfo]; rfl
            have hl : lfollows L 44 = { L with want := 1 } := by simp [lfollows, hsn, hLb]
            rw [hl, chk true hst hkm]
            refine ⟨he.symm, fun _ => ?_⟩
            have hst2 : takeS st (kmap 44) t = { st with body := st.body ++ [st.atom], atom := [], next := 1 } := by simp [kmap44, takeS, commaS, endAtomS, ho, hb]
            rw [hst2]
            exact {
              want := rfl
              query := hq
              err := he
              n5 := by simp
              stk := by simp [hsn, ho]
              opn := by simp [ho]
              down := by simp [ho]
              flat := by simp [ho]
              size := by simp
              open2 := by simp
              name := by simp
              inb := fun _ _ => hib
              inb1 := fun _ => hb
              goals := by simp [hg]
              heads := by simpa using hh
              hd := by simp [hb]
              q0 := by simp
              h0 := by simp }
          · by_cases hk46 : k = 46
            · subst hk46
              have hst : standC st (kmap 46) = true := by rw [stand, hfo]; rfl
              have hl : lfollows L 46 = { L with want := if L.query then 5 else 0 } := by cases hq : L.query <;> simp [lfollows, hsn, hLb, hq]
              rw [hl, chk true hst hkm]
              refine ⟨he.symm, fun _ => ?_⟩
              have hst2 : takeS st (kmap 46) t = { st with clauses := st.clauses ++ [⟨st.head, st.body ++ [st.atom]⟩], atom := [], head := [], body := [], vars := [], inBody := false, next := if st.query then 5 else 0 } := by simp [kmap46, takeS, endAtomS, endClauseS, hb]
              rw [hst2]
              have hnx : (if st.query then 5 else 0 : Nat) = 0 ∨ (if st.query then 5 else 0 : Nat) = 5 := by split <;> simp
              exact {
                want := by rw [hq]
                query := hq
                err := he
                n5 := by simp only; omega
                stk := by simp [hsn, ho]
                opn := by simp [ho]
                down := by simp [ho]
                flat := by simp [ho]
                size := by simp only; omega
                open2 := by simp only; omega
                name := by simp only; omega
                inb := by simp only; omega
                inb1 := by simp only; omega
                goals := by simp
                heads := by
                  intro hqf
                  have hqf : st.query = false := hqf
                  have := hh hqf
                  simp [hqf, this]
                hd := by simp
                q0 := by intro hqt; have hqt : st.query = true := hqt; simp [hqt]
                h0 := by simp }
            · have hst : standC st (kmap k) = false := by
                rw [stand, hfo]
                rcases hk with rfl | rfl | rfl | rfl | rfl | rfl | rfl | rfl <;> simp_all [kmap]
              have hl : lfollows L k = { L with err := 2 } := by
                unfold lfollows
                simp [h40, hsn, hLb, hk44, hk46]
              rw [hl]
              exact ⟨by simp [checkC, hst], by simp⟩
      | cons n r =>
        have hsn : L.stk = argAt st.atom n :: r.map (argAt st.atom) := by rw [hs, ho]; rfl
        have hfo : ∀ kd, followC st kd = (kd == 5 || kd == 4) := by intro kd; simp [followC, ho]
        by_cases hk44 : k = 44
        · subst hk44
          have hst : standC st (kmap 44) = true := by rw [stand, hfo]; rfl
          have hl : lfollows L 44 = { L with want := 2 } := by simp [lfollows, hsn]
          rw [hl, chk true hst hkm]
          refine ⟨he.symm, fun _ => ?_⟩
          have hst2 : takeS st (kmap 44) t = { st with next := 2 } := by simp [kmap44, takeS, commaS, ho]
          rw [hst2]
          exact {
            want := rfl
            query := hq
            err := he
            n5 := by simp
            stk := hs
            opn := h.opn
            down := h.down
            flat := by simp
            size := fun _ => hsz
            open2 := by simp [ho]
            name := by simp
            inb := fun _ _ => hib
            inb1 := by simp
            goals := fun hi _ _ => by have := h.goals hi (by omega) (by omega); rw [if_neg (by omega)] at this; simpa using this
            heads := by simpa using hh
            hd := h.hd
            q0 := by simp
            h0 := by simp }
        · by_cases hk41 : k = 41
          · subst hk41
            have hst : standC st (kmap 41) = true := by rw [stand, hfo]; rfl
            have hl : lfollows L 41 = { L with stk := r.map (argAt st.atom), want := 4 } := by simp [lfollows, hsn]
            rw [hl, chk true hst hkm]
            refine ⟨he.symm, fun _ => ?_⟩
            have hst2 : takeS st (kmap 41) t = { st with opn := r, next := 4 } := by simp [kmap41, takeS, closeS, ho]
            rw [hst2]
            have hd := h.down
            rw [ho, List.pairwise_cons] at hd
            exact {
              want := rfl
              query := hq
              err := he
              n5 := by simp
              stk := rfl
              opn := fun m hm => h.opn m (by rw [ho]; simp [hm])
              down := hd.2
              flat := by simp
              size := fun _ => hsz
              open2 := by simp
              name := by simp
              inb := fun _ _ => hib
              inb1 := by simp
              goals := fun hi _ _ => by have := h.goals hi (by omega) (by omega); rw [if_neg (by omega)] at this; simpa using this
              heads := by simpa using hh
              hd := h.hd
              q0 := by simp
              h0 := by simp }
          · have hst : standC st (kmap k) = false := by
              rw [stand, hfo]
              rcases hk with rfl | rfl | rfl | rfl | rfl | rfl | rfl | rfl <;> simp_all [kmap]
            have hl : lfollows L k = { L with err := 2 } := by
              unfold lfollows
              simp [h40, hsn, hk44, hk41]
            rw [hl]
            exact ⟨by simp [checkC, hst], by simp⟩

theorem sim_step {st : RS} {L : LookS} (h : Sim st L) (k len : Nat) (t : List UInt8) (hk : isKind k) :
    checkC st (kmap k) len = (lstep L k len).err ∧ ((lstep L k len).err = 0 → Sim (takeS st (kmap k) t) (lstep L k len)) := by
  have h5 := h.n5
  have hw := h.want
  have hc : (st.next = 0 ∨ st.next = 1) ∨ st.next = 2 ∨ (st.next = 3 ∨ st.next = 4) ∨ st.next = 5 := by omega
  rcases hc with hn | hn | hn | hn
  · exact sim_begin h k len t hk hn
  · exact sim_arg h k len t hk hn
  · exact sim_follow h k len t hk hn
  · have hl : lstep L k len = { L with err := 2 } := by rw [lstep, if_neg (by omega), if_pos (by omega)]
    have hst : standC st (kmap k) = false := by unfold standC; simp [hn]
    rw [hl]
    exact ⟨by simp [checkC, hst], by simp⟩

/-- The tokens, taken one after another. -/
def takes : List Tok → RS → RS
  | [], st => st
  | t :: ts, st => takes ts (takeS st (kmap t.kind) t.text)
theorem takes_append (a b : List Tok) (st : RS) : takes (a ++ b) st = takes b (takes a st) := by
  induction a generalizing st with
  | nil => rfl
  | cons t a ih => exact ih _

theorem sim_end {st : RS} {L : LookS} (h : Sim st L) (hn : st.next ≠ 0 ∧ st.next ≠ 5) : (lstep L 4 0).err = 2 := by
  have h5 := h.n5
  have hw := h.want
  unfold lstep
  by_cases h2 : L.want ≤ 2
  · rw [if_pos h2]
    simp [lbegins]
  · rw [if_neg h2, if_neg (by omega)]
    unfold lfollows
    simp

theorem run_lover (e : Nat) : ∀ (ts : List Tok) (st : RS) (L : LookS), Sim st L → (∀ t ∈ ts, isKind t.kind) →
    (runT e ts st).1 = (lover (ts ++ [⟨4, [], e⟩]) L).1 ∧ ((runT e ts st).1 ≠ 0 → (runT e ts st).2.1 = (lover (ts ++ [⟨4, [], e⟩]) L).2) ∧ ((runT e ts st).1 = 0 → (runT e ts st).2.2 = takes ts st) := by
  intro ts
  induction ts with
  | nil =>
    intro st L h _
    have hw := h.want
    simp only [List.nil_append, lover, runT, takes]
    by_cases hn : st.next ≠ 0 ∧ st.next ≠ 5
    · have he := sim_end h hn
      simp only [List.length_nil, he]
      rw [if_pos hn, if_neg (by omega)]
      simp
    · rw [if_neg hn, if_pos (by refine ⟨trivial, ?_⟩; omega)]
      simp
  | cons t ts ih =>
    intro st L h hk
    have hkt := hk t (by simp)
    obtain ⟨h1, h2⟩ := sim_step h t.kind t.text.length t.text hkt
    have h4 : ¬ (t.kind = 4 ∧ (L.want = 5 ∨ L.want = 0)) := by
      rintro ⟨h4, _⟩
      rcases hkt with h | h | h | h | h | h | h | h <;> omega
    simp only [List.cons_append, lover, runT, takes]
    rw [h1, if_neg h4]
    by_cases he : (lstep L t.kind t.text.length).err = 0
    · rw [if_neg (by simp [he]), if_neg (by simp [he])]
      exact ih _ _ (h2 he) (fun t' ht => hk t' (by simp [ht]))
    · rw [if_pos he, if_pos he]
      exact ⟨rfl, fun _ => rfl, fun h => absurd h he⟩

theorem sim0 (q : Bool) : Sim ⟨q, if q then 1 else 0, q, [], [], [], [], [], []⟩ (lstart0 q) := by
  cases q
  · exact ⟨rfl, rfl, rfl, by simp, rfl, by simp, by simp, by simp, by simp, by simp, by simp, by simp, by simp, by simp, by simp [lstart0], by simp, by simp, by simp⟩
  · exact ⟨rfl, rfl, rfl, by simp, rfl, by simp, by simp, by simp, by simp, by simp, by simp, by simp [lstart0], by simp, by simp [lstart0], by simp, by simp, by simp, by simp⟩

theorem lex_kinds : ∀ (f : Nat) (l : List UInt8) (p : Nat), ∀ t ∈ lexF f l p, isKind t.kind := by
  intro f
  induction f with
  | zero => intro l p t ht; simp [lexF] at ht
  | succ f ih =>
    intro l p t ht
    cases l with
    | nil => simp [lexF] at ht
    | cons c r =>
      rw [lexF] at ht
      split at ht
      · exact ih _ _ t ht
      · simp only [List.mem_cons] at ht
        rcases ht with rfl | ht
        · exact (head_kind c r).2
        · exact ih _ _ t ht
theorem toks_kinds (l : List UInt8) (p : Nat) : ∀ t ∈ toks l p, isKind t.kind := lex_kinds _ l p

end Go.Proofs.YtcbckkenifmchaaGreatDoor
