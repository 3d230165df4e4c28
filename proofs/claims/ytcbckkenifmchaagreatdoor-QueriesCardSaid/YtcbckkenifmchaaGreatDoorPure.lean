/-
  PROVED HERE: plain facts on bytes, words and tokens, on lists alone (no program, no memory, no conditions but those in each statement).
-/
import GoSem.Claim
namespace Go.Proofs.YtcbckkenifmchaaGreatDoor

/-- Does the byte stand in the text? -/
def inB (c : UInt8) (s : ByteArray) : Bool := s.data.toList.contains c
/-- Small letters. -/
def little : ByteArray := ⟨#[97, 98, 99, 100, 101, 102, 103, 104, 105, 106, 107, 108, 109, 110, 111, 112, 113, 114, 115, 116, 117, 118, 119, 120, 121, 122]⟩
/-- Capital letters. -/
def great : ByteArray := ⟨#[65, 66, 67, 68, 69, 70, 71, 72, 73, 74, 75, 76, 77, 78, 79, 80, 81, 82, 83, 84, 85, 86, 87, 88, 89, 90]⟩
/-- The four signs. -/
def signs : ByteArray := ⟨#[40, 41, 44, 46]⟩
/-- Letters and digits. -/
def alnum : ByteArray := ⟨#[97, 98, 99, 100, 101, 102, 103, 104, 105, 106, 107, 108, 109, 110, 111, 112, 113, 114, 115, 116, 117, 118, 119, 120, 121, 122, 65, 66, 67, 68, 69, 70, 71, 72, 73, 74, 75, 76, 77, 78, 79, 80, 81, 82, 83, 84, 85, 86, 87, 88, 89, 90, 48, 49, 50, 51, 52, 53, 54, 55, 56, 57]⟩

theorem take_snoc (s : ByteArray) (k : Nat) (h : k < s.size) : s.data.toList.take (k + 1) = s.data.toList.take k ++ [s[k]] := by
  rw [List.take_succ_eq_append_getElem (by simpa using h)]; rfl
theorem drop_cons (s : ByteArray) (k : Nat) (h : k < s.size) : s.data.toList.drop k = s[k] :: s.data.toList.drop (k + 1) := by
  rw [List.drop_eq_getElem_cons (by simpa using h)]; rfl
theorem drop_none (s : ByteArray) (k : Nat) (h : ¬ k < s.size) : s.data.toList.drop k = [] := by
  apply List.drop_eq_nil_of_le; simp; omega

theorem byte_eq {a b : UInt8} (h : (((a.toNat : Int)) == (b.toNat : Int)) = true) : a = b := by
  have := eq_of_beq h
  exact UInt8.toNat_inj.1 (by omega)
theorem byte_ne {a b : UInt8} (h : (((a.toNat : Int)) == (b.toNat : Int)) = false) : a ≠ b := by
  intro e; subst e; simp at h

theorem in_hit {c : UInt8} {s : ByteArray} {k : Nat} (hk : k < s.size) (h : (((s[k].toNat : Int)) == (c.toNat : Int)) = true) : inB c s = true := by
  have := byte_eq h
  unfold inB
  rw [List.contains_iff_mem, ← this]
  have : s[k] = s.data.toList[k]'(by simpa using hk) := rfl
  rw [this]; exact List.getElem_mem _
theorem in_on {c : UInt8} {s : ByteArray} {k : Nat} (hk : k < s.size) (h : (((s[k].toNat : Int)) == (c.toNat : Int)) = false) (hn : (s.data.toList.take k).contains c = false) :
    (s.data.toList.take (k + 1)).contains c = false := by
  have hne := byte_ne h
  rw [take_snoc s k hk]
  simp only [List.contains_eq_mem, decide_eq_false_iff_not, List.mem_append, List.mem_singleton, not_or] at hn ⊢
  exact ⟨hn, fun e => hne e.symm⟩
theorem in_end {c : UInt8} {s : ByteArray} {k : Nat} (hk : ¬ k < s.size) (hn : (s.data.toList.take k).contains c = false) : inB c s = false := by
  rw [List.take_of_length_le (by simp; omega)] at hn; exact hn

/-- How many letters and digits stand at the head. -/
def wordLen : List UInt8 → Nat
  | [] => 0
  | c :: r => if inB c alnum then wordLen r + 1 else 0
theorem wordLen_yes (c : UInt8) (r : List UInt8) (h : inB c alnum = true) : wordLen (c :: r) = wordLen r + 1 := by rw [wordLen, if_pos h]
theorem wordLen_no (c : UInt8) (r : List UInt8) (h : inB c alnum = false) : wordLen (c :: r) = 0 := by rw [wordLen, if_neg (by simp [h])]
theorem wordLen_le (l : List UInt8) : wordLen l ≤ l.length := by
  induction l with
  | nil => exact Nat.le_refl _
  | cons c r ih => unfold wordLen; split <;> simp <;> omega
theorem allBytes {p : UInt8 → Bool} (h : (List.range 256).all (fun n => p (UInt8.ofNat n)) = true) (c : UInt8) : p c = true := by
  rw [List.all_eq_true] at h
  have := h c.toNat (by rw [List.mem_range]; exact c.toNat_lt)
  simpa using this
theorem alnum_of_little {c : UInt8} (h : inB c little = true) : inB c alnum = true := by
  have := allBytes (p := fun c => !inB c little || inB c alnum) (by decide +kernel) c
  simpa [h] using this
theorem alnum_of_great {c : UInt8} (h : inB c great = true) : inB c alnum = true := by
  have := allBytes (p := fun c => !inB c great || inB c alnum) (by decide +kernel) c
  simpa [h] using this

/-- A token: its kind, its text, its place. -/
structure Tok where
  kind : Nat
  text : List UInt8
  pos : Nat

/-- The kind of the token that begins with a byte and is gone on with by others, and how many of the others are its own. -/
def headOf (c : UInt8) (r : List UInt8) : Nat × Nat :=
  if inB c little then (1, wordLen r)
  else if inB c great then (2, wordLen r)
  else if inB c signs then (c.toNat, 0)
  else if c = 58 ∧ r.head? = some 45 then (3, 1)
  else (5, 0)
/-- A blank. -/
def blank (c : UInt8) : Bool := c == 32 || c == 10

theorem headOf_le (c : UInt8) (r : List UInt8) : (headOf c r).2 ≤ r.length := by
  have := wordLen_le r
  unfold headOf
  split
  · exact this
  · split
    · exact this
    · split
      · exact Nat.zero_le _
      · split
        · rename_i h
          cases r with
          | nil => simp at h
          | cons d r => simp
        · exact Nat.zero_le _

/-- The tokens of a text that begins at a place, with so many rounds at most. -/
def lexF : Nat → List UInt8 → Nat → List Tok
  | 0, _, _ => []
  | _ + 1, [], _ => []
  | f + 1, c :: r, p =>
    if blank c then lexF f r (p + 1)
    else ⟨(headOf c r).1, (c :: r).take ((headOf c r).2 + 1), p⟩ :: lexF f (r.drop (headOf c r).2) (p + (headOf c r).2 + 1)

theorem lexF_more (f : Nat) : ∀ (g : Nat) (l : List UInt8) (p : Nat), l.length ≤ f → l.length ≤ g → lexF f l p = lexF g l p := by
  induction f with
  | zero =>
    intro g l p hf hg
    have : l = [] := List.eq_nil_of_length_eq_zero (by omega)
    subst this
    cases g <;> rfl
  | succ f ih =>
    intro g l p hf hg
    cases l with
    | nil => cases g <;> rfl
    | cons c r =>
      cases g with
      | zero => simp at hg
      | succ g =>
        simp only [List.length_cons] at hf hg
        have hd : (r.drop (headOf c r).2).length ≤ r.length := by simp
        rw [lexF, lexF]
        split
        · exact ih g r _ (by omega) (by omega)
        · rw [ih g (r.drop (headOf c r).2) _ (by omega) (by omega)]

/-- The tokens of a text that begins at a place. -/
def toks (l : List UInt8) (p : Nat) : List Tok := lexF l.length l p

theorem toks_nil (p : Nat) : toks [] p = [] := rfl
theorem toks_blank (c : UInt8) (r : List UInt8) (p : Nat) (h : blank c = true) : toks (c :: r) p = toks r (p + 1) := by
  unfold toks
  rw [List.length_cons, lexF, if_pos h]
theorem toks_cons (c : UInt8) (r : List UInt8) (p : Nat) (h : blank c = false) :
    toks (c :: r) p = ⟨(headOf c r).1, (c :: r).take ((headOf c r).2 + 1), p⟩ :: toks (r.drop (headOf c r).2) (p + (headOf c r).2 + 1) := by
  unfold toks
  rw [List.length_cons, lexF, if_neg (by simp [h])]
  congr 1
  exact lexF_more _ _ _ _ (by simp) (Nat.le_refl _)

/-- A name or a variable of a term, as it is written from left to right: a name (none for a variable), the variable's number, how many terms stand behind it. -/
structure Sym where
  name : List UInt8
  num : Nat
  args : Nat

abbrev Names := List (List UInt8)

end Go.Proofs.YtcbckkenifmchaaGreatDoor
