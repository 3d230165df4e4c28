/-
  PROVED HERE: plain facts: what the program's 'Next' finds are the text's tokens; what holds of its reader behind so many tokens (the conditions stand in each statement).
-/
import Derived.Test.YtcbckkenifmchaaGreatDoorCodeTake
import Derived.Test.YtcbckkenifmchaaGreatDoorRefOk2
namespace Go.Proofs.YtcbckkenifmchaaGreatDoor
open Go.RowKit
set_option linter.unusedSimpArgs false
set_option linter.unusedVariables false

/-- The program's number of a kind. -/
def kmap (k : Nat) : Nat := if k = 1 then 1 else if k = 2 then 2 else if k = 40 then 3 else if k = 41 then 4 else if k = 44 then 5 else if k = 46 then 6 else if k = 3 then 7 else 8
/-- The kinds of tokens. -/
def isKind (k : Nat) : Prop := k = 1 ∨ k = 2 ∨ k = 40 ∨ k = 41 ∨ k = 44 ∨ k = 46 ∨ k = 3 ∨ k = 5

theorem signs_is (c : UInt8) (h : inB c signs = true) : c = 40 ∨ c = 41 ∨ c = 44 ∨ c = 46 := by
  have := allBytes (p := fun c => !inB c signs || (c == 40 || c == 41 || c == 44 || c == 46)) (by decide +kernel) c
  simpa [h, or_assoc] using this
theorem signs_isnt (c : UInt8) (h : inB c signs = false) : ¬ c = 40 ∧ ¬ c = 41 ∧ ¬ c = 44 ∧ ¬ c = 46 := by
  have := allBytes (p := fun c => inB c signs || !(c == 40 || c == 41 || c == 44 || c == 46)) (by decide +kernel) c
  simpa [h, not_or, and_assoc] using this

theorem head_cases (c : UInt8) (r : List UInt8) :
    (headOf c r = (1, wordLen r) ∧ kindC c (r.head?.getD 0) = 1 ∧ inB c alnum = true) ∨ (headOf c r = (2, wordLen r) ∧ kindC c (r.head?.getD 0) = 2 ∧ inB c alnum = true) ∨
    (headOf c r = (40, 0) ∧ kindC c (r.head?.getD 0) = 3) ∨ (headOf c r = (41, 0) ∧ kindC c (r.head?.getD 0) = 4) ∨ (headOf c r = (44, 0) ∧ kindC c (r.head?.getD 0) = 5) ∨ (headOf c r = (46, 0) ∧ kindC c (r.head?.getD 0) = 6) ∨
    (headOf c r = (3, 1) ∧ kindC c (r.head?.getD 0) = 7) ∨ (headOf c r = (5, 0) ∧ kindC c (r.head?.getD 0) = 8) := by
  unfold headOf kindC
  cases h1 : inB c little
  · cases h2 : inB c great
    · cases h3 : inB c signs
      · obtain ⟨a1, a2, a3, a4⟩ := signs_isnt c h3
        have hd : (c = 58 ∧ r.head? = some 45) ↔ (c = 58 ∧ r.head?.getD 0 = 45) := by
          cases r with
          | nil => simp
          | cons d r => simp
        by_cases h : c = 58 ∧ r.head? = some 45
        · have h' := hd.1 h
          simp only [Bool.false_eq_true, if_false, if_neg a1, if_neg a2, if_neg a3, if_neg a4, if_pos h, if_pos h']
          simp
        · have h' : ¬ (c = 58 ∧ r.head?.getD 0 = 45) := fun e => h (hd.2 e)
          simp only [Bool.false_eq_true, if_false, if_neg a1, if_neg a2, if_neg a3, if_neg a4, if_neg h, if_neg h']
          simp
      · rcases signs_is c h3 with rfl | rfl | rfl | rfl <;> simp
    · simp [alnum_of_great h2]
  · simp [alnum_of_little h1]

theorem head_kind (c : UInt8) (r : List UInt8) : kmap (headOf c r).1 = kindC c (r.head?.getD 0) ∧ isKind (headOf c r).1 := by
  rcases head_cases c r with ⟨h1, h2, _⟩ | ⟨h1, h2, _⟩ | ⟨h1, h2⟩ | ⟨h1, h2⟩ | ⟨h1, h2⟩ | ⟨h1, h2⟩ | ⟨h1, h2⟩ | ⟨h1, h2⟩ <;> rw [h1, h2] <;> exact ⟨rfl, by unfold isKind; simp⟩

theorem head_end (s : ByteArray) (p : Nat) (c : UInt8) (r : List UInt8) (hd : s.data.toList.drop p = c :: r) : endC s p (kindC c (r.head?.getD 0)) = p + ((headOf c r).2 + 1) := by
  rcases head_cases c r with ⟨h1, h2, h3⟩ | ⟨h1, h2, h3⟩ | ⟨h1, h2⟩ | ⟨h1, h2⟩ | ⟨h1, h2⟩ | ⟨h1, h2⟩ | ⟨h1, h2⟩ | ⟨h1, h2⟩ <;> rw [h1, h2] <;> simp [endC, hd]
  · rw [wordLen_yes c r h3]
  · rw [wordLen_yes c r h3]

theorem byteOr_drop (s : ByteArray) (p : Nat) : byteOr s p = (s.data.toList.drop p).head?.getD 0 := by
  unfold byteOr
  rw [List.head?_drop]

theorem toks_blanks : ∀ (l : List UInt8) (p : Nat), toks l p = toks (l.drop (blanks l)) (p + blanks l) := by
  intro l
  induction l with
  | nil => intro p; rfl
  | cons c r ih =>
    intro p
    unfold blanks
    cases h : blank c
    · simp
    · rw [toks_blank c r p h, ih (p + 1)]
      simp only [if_pos, List.drop_succ_cons]
      congr 1
      omega
theorem blanks_end (l : List UInt8) (c : UInt8) (r : List UInt8) (h : l.drop (blanks l) = c :: r) : blank c = false := by
  induction l with
  | nil => simp [blanks] at h
  | cons d l ih =>
    unfold blanks at h
    cases hb : blank d
    · rw [hb] at h
      simp at h
      rw [← h.1]; exact hb
    · rw [hb] at h
      simp only [if_pos, List.drop_succ_cons] at h
      exact ih h

theorem part_take (s : ByteArray) (p k : Nat) : (s.extract p (p + k)).data.toList = (s.data.toList.drop p).take k := by
  rw [ByteArray.data_extract, Array.toList_extract, List.extract_eq_take_drop]
  congr 1
  omega

/-- What 'Next' finds: no token is left; or the first of them. -/
theorem next_toks (s : ByteArray) (n : Nat) (hn : n ≤ s.size) :
    (nextC s n = (0, s.size, s.size) ∧ toks (s.data.toList.drop n) n = []) ∨
    ∃ t q, nextC s n = (kmap t.kind, t.pos, q) ∧ toks (s.data.toList.drop n) n = t :: toks (s.data.toList.drop q) q ∧ isKind t.kind ∧ n ≤ t.pos ∧ t.pos < q ∧ q ≤ s.size ∧ s.extract t.pos q = ⟨t.text.toArray⟩ ∧ t.text.length = q - t.pos := by
  have hl : s.data.toList.length = s.size := by rw [Array.length_toList]; rfl
  rw [toks_blanks, List.drop_drop]
  unfold nextC
  obtain ⟨p, hp⟩ : ∃ p, p = n + blanks (s.data.toList.drop n) := ⟨_, rfl⟩
  rw [← hp]
  by_cases h : p < s.size
  · right
    rw [if_pos h]
    obtain ⟨c, r, hd⟩ : ∃ c r, s.data.toList.drop p = c :: r := by
      cases hc : s.data.toList.drop p with
      | nil =>
        have := congrArg List.length hc
        simp only [List.length_drop, List.length_nil] at this
        omega
      | cons c r => exact ⟨c, r, rfl⟩
    have hb : blank c = false := blanks_end (s.data.toList.drop n) c r (by rw [List.drop_drop, ← hp]; exact hd)
    have hd1 : s.data.toList.drop (p + 1) = r := by rw [← List.drop_drop, hd]; rfl
    have hc0 : byteOr s p = c := by rw [byteOr_drop, hd]; rfl
    have hc1 : byteOr s (p + 1) = r.head?.getD 0 := by rw [byteOr_drop, hd1]
    have hle := headOf_le c r
    have hlen : (s.data.toList.drop p).length = s.size - p := by rw [List.length_drop, hl]
    rw [hd] at hlen
    simp only [List.length_cons] at hlen
    rw [hc0, hc1, hd, toks_cons c r p hb]
    refine ⟨⟨(headOf c r).1, (c :: r).take ((headOf c r).2 + 1), p⟩, p + ((headOf c r).2 + 1), ?_, ?_, (head_kind c r).2, by simp only; omega, by simp only; omega, by omega, ?_, ?_⟩
    · rw [head_end s p c r hd, (head_kind c r).1]
    · congr 2
      · rw [← List.drop_drop, hd]; rfl
    · have : (s.extract p (p + ((headOf c r).2 + 1))).data.toList = (c :: r).take ((headOf c r).2 + 1) := by rw [part_take, hd]
      simp only
      rw [← this]
    · simp; omega
  · left
    rw [if_neg h]
    refine ⟨rfl, ?_⟩
    rw [List.drop_eq_nil_of_le (by omega)]
    rfl

/-- What holds of the reader behind k tokens. -/
structure RI (k : Nat) (st : RS) : Prop where
  opnl : st.opn.length ≤ k
  atoml : st.atom.length ≤ k
  bodyl : st.body.length ≤ k
  clsl : st.clauses.length ≤ k
  varsl : st.vars.length ≤ k
  args : ∀ s ∈ st.atom, s.args ≤ k
  next : st.next ≤ 5
  opn : ∀ n ∈ st.opn, n < st.atom.length
  name : st.next = 3 → 0 < st.atom.length

theorem RI.bd {k : Nat} {st : RS} (h : RI k st) (hk : k ≤ 4000) : RBd st :=
  ⟨Nat.le_trans h.opnl (by omega), Nat.le_trans h.atoml (by omega), Nat.le_trans h.bodyl (by omega), Nat.le_trans h.clsl (by omega), fun s hs => Nat.le_trans (h.args s hs) (by omega)⟩

theorem check_stand {st : RS} {kd len : Nat} (h : checkC st kd len = 0) : standC st kd = true := by
  unfold checkC at h
  split at h
  · omega
  · rename_i hs
    simpa using hs

/-- What a token that can stand tells. -/
theorem stand_facts {st : RS} {kd : Nat} (h : standC st kd = true) (hn : st.next ≤ 5) : 1 ≤ kd ∧ kd ≤ 7 ∧ (kd = 3 → st.next = 3) ∧ (kd = 6 ∨ kd = 7 → st.opn = []) := by
  have fol : followC st kd = true → (kd = 4 ∨ kd = 5 ∨ kd = 6 ∨ kd = 7) ∧ (kd = 6 ∨ kd = 7 → st.opn = []) := by
    unfold followC
    cases ho : st.opn with
    | nil =>
      simp only [List.isEmpty_nil, if_true]
      intro h
      refine ⟨?_, fun _ => trivial⟩
      split at h
      · simp at h; omega
      · simp at h; omega
    | cons n r =>
      simp only [List.isEmpty_cons]
      intro h
      simp at h
      exact ⟨by omega, fun h => by omega⟩
  unfold standC at h
  split at h
  · simp at h; subst h; simp
  · split at h
    · simp at h; rcases h with rfl | rfl <;> simp
    · split at h
      · rename_i h3
        simp only [Bool.or_eq_true, beq_iff_eq] at h
        rcases h with rfl | h
        · exact ⟨by omega, by omega, fun _ => h3, by omega⟩
        · obtain ⟨h1, h2⟩ := fol h
          exact ⟨by omega, by omega, by omega, h2⟩
      · split at h
        · obtain ⟨h1, h2⟩ := fol h
          exact ⟨by omega, by omega, by omega, h2⟩
        · simp at h

theorem RI.takes {k : Nat} {st : RS} {kd : Nat} (h : RI k st) (hk : k ≤ 4000) (hs : standC st kd = true) : TakeOk st kd := by
  obtain ⟨h1, h2, h3, h4⟩ := stand_facts hs h.next
  have := h.varsl
  have := h.bodyl
  exact ⟨h.bd hk, by omega, by omega, h.opn, h1, h2, fun e => h.name (h3 e)⟩

theorem bump_len (st : RS) : (bumpS st).length = st.atom.length := by unfold bumpS; split <;> simp
theorem bump_args {k : Nat} (st : RS) (h : ∀ s ∈ st.atom, s.args ≤ k) : ∀ s ∈ bumpS st, s.args ≤ k + 1 := by
  unfold bumpS
  split
  · exact fun s hs => Nat.le_succ_of_le (h s hs)
  · rename_i n r ho
    intro s hs
    obtain ⟨i, hi⟩ := List.getElem?_of_mem hs
    rw [List.getElem?_modify] at hi
    cases hx : st.atom[i]? with
    | none => rw [hx] at hi; simp at hi
    | some x =>
      rw [hx] at hi
      have := h x (List.mem_of_getElem? hx)
      simp at hi
      split at hi
      · subst hi; simpa using this
      · subst hi; omega

theorem RI.mono {k : Nat} {st : RS} (h : RI k st) : RI (k + 1) st :=
  ⟨Nat.le_succ_of_le h.opnl, Nat.le_succ_of_le h.atoml, Nat.le_succ_of_le h.bodyl, Nat.le_succ_of_le h.clsl, Nat.le_succ_of_le h.varsl, fun s hs => Nat.le_succ_of_le (h.args s hs), h.next, h.opn, h.name⟩
theorem RI.at {k m : Nat} {st : RS} (h : RI k st) (hk : k ≤ m) : RI m st :=
  ⟨Nat.le_trans h.opnl hk, Nat.le_trans h.atoml hk, Nat.le_trans h.bodyl hk, Nat.le_trans h.clsl hk, Nat.le_trans h.varsl hk, fun s hs => Nat.le_trans (h.args s hs) hk, h.next, h.opn, h.name⟩

theorem RI.add {k : Nat} {st : RS} (h : RI k st) (s : Sym) (hs : s.args = 0) (n : Nat) (hn : n ≤ 5) (vars : Names) (hv : vars.length ≤ k + 1) : RI (k + 1) { addS st s with next := n, vars := vars } := by
  have hl := bump_len st
  have h0 := h.atoml
  have h1 := h.opnl
  refine ⟨by simp [addS]; omega, by simp [addS, hl]; omega, Nat.le_succ_of_le h.bodyl, Nat.le_succ_of_le h.clsl, hv, ?_, hn, ?_, ?_⟩
  · intro x hx
    simp only [addS, List.mem_append, List.mem_singleton] at hx
    rcases hx with hx | rfl
    · exact bump_args st h.args x hx
    · omega
  · intro x hx
    have := h.opn x hx
    simp only [addS, List.length_append, hl, List.length_singleton]
    omega
  · intro _
    simp [addS]

theorem RI.ends {k : Nat} {st : RS} (h : RI k st) (ho : st.opn = []) (n : Nat) (hn : n ≤ 5) (h3 : n ≠ 3) (b : Bool) : RI (k + 1) { endAtomS st with next := n, inBody := b } := by
  have h0 := h.bodyl
  have ha : (endAtomS st).atom = [] := by unfold endAtomS; split <;> rfl
  have hb : (endAtomS st).body.length ≤ k + 1 := by unfold endAtomS; split <;> simp <;> omega
  have hc : (endAtomS st).clauses = st.clauses := by unfold endAtomS; split <;> rfl
  have hv : (endAtomS st).vars = st.vars := by unfold endAtomS; split <;> rfl
  have hp : (endAtomS st).opn = [] := by unfold endAtomS; split <;> exact ho
  have := h.clsl
  have := h.varsl
  exact ⟨by simp [hp], by simp [ha], hb, by simp only [hc]; omega, by simp only [hv]; omega, by simp [ha], hn, by simp [hp], fun e => absurd e h3⟩

theorem RI.take {k : Nat} {st : RS} {kd : Nat} (t : List UInt8) (h : RI k st) (hs : standC st kd = true) : RI (k + 1) (takeS st kd t) := by
  obtain ⟨h1, h2, h3, h4⟩ := stand_facts hs h.next
  have hc : kd = 1 ∨ kd = 2 ∨ kd = 3 ∨ kd = 4 ∨ kd = 5 ∨ kd = 6 ∨ kd = 7 := by omega
  have a1 := h.opnl
  have a2 := h.atoml
  have a3 := h.varsl
  rcases hc with rfl | rfl | rfl | rfl | rfl | rfl | rfl
  · exact h.add ⟨t, 0, 0⟩ rfl 3 (by omega) st.vars (by omega)
  · have hv := numberOf_len st.vars t
    exact h.add ⟨[], (numberOf st.vars t).2, 0⟩ rfl 4 (by omega) (numberOf st.vars t).1 (by omega)
  · have hp := h.name (h3 rfl)
    have m := h.mono
    refine ⟨by simp [takeS]; omega, m.atoml, m.bodyl, m.clsl, m.varsl, m.args, by simp [takeS], ?_, by simp [takeS]⟩
    intro n hn
    simp only [takeS, List.mem_cons] at hn
    simp at hn
    show n < st.atom.length
    rcases hn with rfl | hn
    · omega
    · exact h.opn n hn
  · have m := h.mono
    refine ⟨by simp [takeS, closeS]; omega, m.atoml, m.bodyl, m.clsl, m.varsl, m.args, by simp [takeS], ?_, by simp [takeS]⟩
    intro n hn
    simp [takeS, closeS] at hn
    exact h.opn n (List.mem_of_mem_tail hn)
  · show RI (k + 1) (commaS st)
    unfold commaS
    cases ho : st.opn with
    | nil =>
      have := h.ends ho 1 (by omega) (by omega) (endAtomS st).inBody
      simpa using this
    | cons n r =>
      have m := h.mono
      simp only [List.isEmpty_cons, Bool.false_eq_true, if_false]
      have m1 := m.opnl
      have m2 := m.opn
      rw [ho] at m1 m2
      exact ⟨m1, m.atoml, m.bodyl, m.clsl, m.varsl, m.args, by simp, m2, by simp⟩
  · show RI (k + 1) (endClauseS (endAtomS st))
    have hw := h.ends (h4 (by omega)) 0 (by omega) (by omega) false
    have hcl : (endAtomS st).clauses = st.clauses := by unfold endAtomS; split <;> rfl
    have := h.clsl
    refine ⟨hw.opnl, hw.atoml, by simp [endClauseS], by simp [endClauseS, hcl]; omega, by simp [endClauseS], hw.args, ?_, hw.opn, ?_⟩
    · simp only [endClauseS]; split <;> omega
    · simp only [endClauseS]; split <;> omega
  · exact h.ends (h4 (by omega)) 1 (by omega) (by omega) true

/-- The tokens taken one after another: the error and its place, how far it came. The number e is where the text ends. -/
def runT (e : Nat) : List Tok → RS → Nat × Nat × RS
  | [], st => if st.next ≠ 0 ∧ st.next ≠ 5 then (2, e, st) else (0, 0, st)
  | t :: ts, st => if checkC st (kmap t.kind) t.text.length ≠ 0 then (checkC st (kmap t.kind) t.text.length, t.pos, st) else runT e ts (takeS st (kmap t.kind) t.text)

end Go.Proofs.YtcbckkenifmchaaGreatDoor
