/-
  PROVED HERE: what the functions of the program's package token answer (the conditions stand in each statement). what the program's 'token.Next' and 'reader.textOf' answer (the conditions stand in each statement). what the program's reader tells of how far it has read: the methods that only look (the conditions stand in each statement). what the program's reader lets by: the methods 'argumentsSoFar', 'canFollowTerm', 'canStand', 'isFull', 'check' (the conditions stand in each statement). plain laws on how the program's reader keeps what it has read in memory (the conditions stand in each statement). plain laws on what a step of the program's reader leaves in memory (the conditions stand in each statement). what the writing methods 'closeBracket', 'variable' of the program's reader leave (the conditions stand in each statement). an append of one element to a row of the call's own, as one step of a region that draws (the conditions stand in the statement). what the writing method 'addSymbol' of the program's reader leaves (the conditions stand in the statement).
-/
import Derived.Test.YtlmjilpjmgjjcaaGreatDoorT5
import Derived.Deep.QuietTactic
import Derived.BigRegion
import Derived.Deep.RegionLaw
import Derived.Deep.RegionLawGrows
namespace Go.Proofs.YtlmjilpjmgjjcaaGreatDoor
open Go.RowKit
set_option linter.unusedSimpArgs false
set_option linter.unusedVariables false

def digits : ByteArray := ⟨#[48, 49, 50, 51, 52, 53, 54, 55, 56, 57]⟩

theorem little_iff (c : UInt8) : inB c little = decide (97 ≤ c.toNat ∧ c.toNat ≤ 122) := by
  have := allBytes (p := fun c => inB c little == decide (97 ≤ c.toNat ∧ c.toNat ≤ 122)) (by decide +kernel) c
  exact eq_of_beq this
theorem great_iff (c : UInt8) : inB c great = decide (65 ≤ c.toNat ∧ c.toNat ≤ 90) := by
  have := allBytes (p := fun c => inB c great == decide (65 ≤ c.toNat ∧ c.toNat ≤ 90)) (by decide +kernel) c
  exact eq_of_beq this
theorem digits_iff (c : UInt8) : inB c digits = decide (48 ≤ c.toNat ∧ c.toNat ≤ 57) := by
  have := allBytes (p := fun c => inB c digits == decide (48 ≤ c.toNat ∧ c.toNat ≤ 57)) (by decide +kernel) c
  exact eq_of_beq this
theorem alnum_iff (c : UInt8) : inB c alnum = (inB c little || inB c great || inB c digits) := by
  have := allBytes (p := fun c => inB c alnum == (inB c little || inB c great || inB c digits)) (by decide +kernel) c
  exact eq_of_beq this

set_option maxHeartbeats 400000 in
theorem isBlank_any (c : UInt8) (w : World) : Calls Tryz.prog 194 #[.int .u8 c.toNat] w fun e w' => e = .returned (.bool (blank c)) ∧ w' = w := by
  cases hb : blank c
  · obtain ⟨h1, h2⟩ := not_blank hb
    go_enter Tryz.func194, Tryz.ntmps194
    go_wp2
    go_ret
    exact ⟨rfl, rfl⟩
  · rcases blank_facts hb with h1 | ⟨h1, h2⟩
    all_goals
      go_enter Tryz.func194, Tryz.ntmps194
      go_wp2
      go_ret
      exact ⟨rfl, rfl⟩

set_option maxHeartbeats 400000 in
theorem isSmall_any (c : UInt8) (w : World) : Calls Tryz.prog 195 #[.int .u8 c.toNat] w fun e w' => e = .returned (.bool (inB c little)) ∧ w' = w := by
  rw [little_iff]
  by_cases h1 : (97 : Int) ≤ (c.toNat : Int)
  · by_cases h2 : (c.toNat : Int) ≤ 122
    all_goals
      go_enter Tryz.func195, Tryz.ntmps195
      go_wp2
      go_ret
      exact ⟨ret_bool (by symm; simp; omega), rfl⟩
  · go_enter Tryz.func195, Tryz.ntmps195
    go_wp2
    go_ret
    exact ⟨ret_bool (by symm; simp; omega), rfl⟩

set_option maxHeartbeats 400000 in
theorem isCapital_any (c : UInt8) (w : World) : Calls Tryz.prog 196 #[.int .u8 c.toNat] w fun e w' => e = .returned (.bool (inB c great)) ∧ w' = w := by
  rw [great_iff]
  by_cases h1 : (65 : Int) ≤ (c.toNat : Int)
  · by_cases h2 : (c.toNat : Int) ≤ 90
    all_goals
      go_enter Tryz.func196, Tryz.ntmps196
      go_wp2
      go_ret
      exact ⟨ret_bool (by symm; simp; omega), rfl⟩
  · go_enter Tryz.func196, Tryz.ntmps196
    go_wp2
    go_ret
    exact ⟨ret_bool (by symm; simp; omega), rfl⟩

set_option maxHeartbeats 400000 in
theorem isDigit_any (c : UInt8) (w : World) : Calls Tryz.prog 213 #[.int .u8 c.toNat] w fun e w' => e = .returned (.bool (inB c digits)) ∧ w' = w := by
  rw [digits_iff]
  by_cases h1 : (48 : Int) ≤ (c.toNat : Int)
  · by_cases h2 : (c.toNat : Int) ≤ 57
    all_goals
      go_enter Tryz.func213, Tryz.ntmps213
      go_wp2
      go_ret
      exact ⟨ret_bool (by symm; simp; omega), rfl⟩
  · go_enter Tryz.func213, Tryz.ntmps213
    go_wp2
    go_ret
    exact ⟨ret_bool (by symm; simp; omega), rfl⟩

set_option maxHeartbeats 400000 in
theorem isWord_any (c : UInt8) (w : World) : Calls Tryz.prog 209 #[.int .u8 c.toNat] w fun e w' => e = .returned (.bool (inB c alnum)) ∧ w' = w := by
  rw [alnum_iff]
  cases h1 : inB c little
  · cases h2 : inB c great
    · go_enter Tryz.func209, Tryz.ntmps209
      go_wp2_with (first | (go_at_call 195; refine (isSmall_any _ _).mono ?_; rintro e w' ⟨rfl, rfl⟩) | (go_at_call 196; refine (isCapital_any _ _).mono ?_; rintro e w' ⟨rfl, rfl⟩) | (go_at_call 213; refine (isDigit_any _ _).mono ?_; rintro e w' ⟨rfl, rfl⟩))
      go_ret
      exact ⟨rfl, rfl⟩
    · go_enter Tryz.func209, Tryz.ntmps209
      go_wp2_with (first | (go_at_call 195; refine (isSmall_any _ _).mono ?_; rintro e w' ⟨rfl, rfl⟩) | (go_at_call 196; refine (isCapital_any _ _).mono ?_; rintro e w' ⟨rfl, rfl⟩) | (go_at_call 213; refine (isDigit_any _ _).mono ?_; rintro e w' ⟨rfl, rfl⟩))
      go_ret
      exact ⟨rfl, rfl⟩
  · go_enter Tryz.func209, Tryz.ntmps209
    go_wp2_with (first | (go_at_call 195; refine (isSmall_any _ _).mono ?_; rintro e w' ⟨rfl, rfl⟩) | (go_at_call 196; refine (isCapital_any _ _).mono ?_; rintro e w' ⟨rfl, rfl⟩) | (go_at_call 213; refine (isDigit_any _ _).mono ?_; rintro e w' ⟨rfl, rfl⟩))
    go_ret
    exact ⟨rfl, rfl⟩

/-- The byte at a place; 0 behind the text. -/
def byteOr (s : ByteArray) (n : Nat) : UInt8 := (s.data.toList[n]?).getD 0
theorem byteOr_at (s : ByteArray) (n : Nat) (h : n < s.size) : byteOr s n = s[n] := by
  unfold byteOr
  rw [List.getElem?_eq_getElem (by simpa using h)]
  rfl
theorem byteOr_past (s : ByteArray) (n : Nat) (h : ¬ n < s.size) : byteOr s n = 0 := by
  unfold byteOr
  rw [List.getElem?_eq_none (by simp; omega)]
  rfl
theorem ret_byte {a b : UInt8} (h : a = b) : Ending.returned (.int .u8 (a.toNat : Int)) = .returned (.int .u8 (b.toNat : Int)) := by rw [h]

set_option maxHeartbeats 400000 in
theorem byteAt_any (s : ByteArray) (n : Nat) (w : World) (hs : s.size ≤ 4096) (hn : n ≤ 5000) : Calls Tryz.prog 163 #[.string s, .int .i64 n] w fun e w' => e = .returned (.int .u8 (byteOr s n).toNat) ∧ w' = w := by
  by_cases h : n < s.size
  · have Hb := (show Hid _ from byteOr_at s n h)
    go_enter Tryz.func163, Tryz.ntmps163
    go_wp2
    go_ret
    rw [Hb.out]
    exact ⟨rfl, rfl⟩
  · have Hb := (show Hid _ from byteOr_past s n h)
    go_enter Tryz.func163, Tryz.ntmps163
    go_wp2
    go_ret
    rw [Hb.out]
    exact ⟨rfl, rfl⟩

/-- How many blanks stand at the head. -/
def blanks : List UInt8 → Nat
  | [] => 0
  | c :: r => if blank c then blanks r + 1 else 0
theorem blanks_le (l : List UInt8) : blanks l ≤ l.length := by
  induction l with
  | nil => exact Nat.le_refl _
  | cons c r ih => unfold blanks; split <;> simp <;> omega

set_option maxHeartbeats 400000 in
theorem skipBlanks_any (s : ByteArray) (n : Nat) (w : World) (hs : s.size ≤ 4096) (hn : n ≤ s.size) : Calls Tryz.prog 162 #[.string s, .int .i64 n] w fun e w' => e = .returned (.int .i64 ((n + blanks (s.data.toList.drop n) : Nat) : Int)) ∧ w' = w := by
  go_enter Tryz.func162, Tryz.ntmps162
  go_wp2
  go_loop [1] (fun i => ∃ k : Nat, k ≤ s.size ∧ i = .int .i64 k ∧ n + blanks (s.data.toList.drop n) = k + blanks (s.data.toList.drop k)) (fun i => s.size - (intOf i).toNat)
  case atStart => exact ⟨n, hn, rfl, rfl⟩
  case round =>
    obtain ⟨k, hk, rfl, hn⟩ := hrel
    have Hn := (show Hid _ from hn)
    clear hn
    by_cases hlt : k < s.size
    · have hd := drop_cons s k hlt
      cases hb : blank s[k]
      · have Hd : Hid (blanks (s.data.toList.drop k) = 0) := by show _ = _; rw [hd, blanks, if_neg (by simp [hb])]
        clear hd
        go_wp2_with (go_at_call 194; refine (isBlank_any _ _).mono ?_; rintro e w' ⟨rfl, rfl⟩)
        go_ret
        exact ⟨ret_int (by have h1 := Hn.out; have h2 := Hd.out; omega), rfl⟩
      · have Hd : Hid (blanks (s.data.toList.drop k) = blanks (s.data.toList.drop (k + 1)) + 1) := by show _ = _; rw [hd, blanks, if_pos hb]
        clear hd
        go_wp2_with (go_at_call 194; refine (isBlank_any _ _).mono ?_; rintro e w' ⟨rfl, rfl⟩)
        go_round
        case rel => exact ⟨k + 1, by omega, by go_num, by have h1 := Hn.out; have h2 := Hd.out; omega⟩
        case measure => simp [intOf]; omega
    · have Hd : Hid (blanks (s.data.toList.drop k) = 0) := by show _ = _; rw [drop_none s k hlt]; rfl
      go_wp2
      go_ret
      exact ⟨ret_int (by have h1 := Hn.out; have h2 := Hd.out; omega), rfl⟩

theorem alnum_zero : inB 0 alnum = false := by decide +kernel

set_option maxHeartbeats 400000 in
theorem endOfWord_any (s : ByteArray) (n : Nat) (w : World) (hs : s.size ≤ 4096) (hn : n ≤ s.size) : Calls Tryz.prog 197 #[.string s, .int .i64 n] w fun e w' => e = .returned (.int .i64 ((n + wordLen (s.data.toList.drop n) : Nat) : Int)) ∧ w' = w := by
  go_enter Tryz.func197, Tryz.ntmps197
  go_wp2
  go_loop [1] (fun i => ∃ k : Nat, k ≤ s.size ∧ i = .int .i64 k ∧ n + wordLen (s.data.toList.drop n) = k + wordLen (s.data.toList.drop k)) (fun i => s.size - (intOf i).toNat)
  case atStart => exact ⟨n, hn, rfl, rfl⟩
  case round =>
    obtain ⟨k, hk, rfl, hn⟩ := hrel
    have Hn := (show Hid _ from hn)
    clear hn
    cases hb : inB (byteOr s k) alnum
    · have Hd : Hid (wordLen (s.data.toList.drop k) = 0) := by
        show _ = _
        by_cases hlt : k < s.size
        · rw [drop_cons s k hlt]
          rw [byteOr_at s k hlt] at hb
          exact wordLen_no _ _ hb
        · rw [drop_none s k hlt]; rfl
      go_wp2_with (first | (go_at_call 163; refine (byteAt_any _ _ _ hs (by omega)).mono ?_; rintro e w' ⟨rfl, rfl⟩) | (go_at_call 209; refine (isWord_any _ _).mono ?_; rintro e w' ⟨rfl, rfl⟩))
      go_ret
      exact ⟨ret_int (by have h1 := Hn.out; have h2 := Hd.out; omega), rfl⟩
    · have hlt : k < s.size := by
        rcases Nat.lt_or_ge k s.size with h | h
        · exact h
        · rw [byteOr_past s k (by omega), alnum_zero] at hb; cases hb
      have Hd : Hid (wordLen (s.data.toList.drop k) = wordLen (s.data.toList.drop (k + 1)) + 1) := by
        show _ = _
        rw [drop_cons s k hlt]
        rw [byteOr_at s k hlt] at hb
        exact wordLen_yes _ _ hb
      go_wp2_with (first | (go_at_call 163; refine (byteAt_any _ _ _ hs (by omega)).mono ?_; rintro e w' ⟨rfl, rfl⟩) | (go_at_call 209; refine (isWord_any _ _).mono ?_; rintro e w' ⟨rfl, rfl⟩))
      go_round
      case rel => exact ⟨k + 1, by omega, by go_num, by have h1 := Hn.out; have h2 := Hd.out; omega⟩
      case measure => simp [intOf]; omega

end Go.Proofs.YtlmjilpjmgjjcaaGreatDoor

namespace Go.Proofs.YtlmjilpjmgjjcaaGreatDoor
open Go.RowKit
set_option linter.unusedSimpArgs false
set_option linter.unusedVariables false

/-- The kind of a token by its first byte and the next. -/
def kindC (c d : UInt8) : Nat :=
  if inB c little then 1 else if inB c great then 2 else if c = 40 then 3 else if c = 41 then 4 else if c = 44 then 5 else if c = 46 then 6 else if c = 58 ∧ d = 45 then 7 else 8

theorem byte_is {c k : UInt8} (h : c = k) : ((c.toNat : Int) == (k.toNat : Int)) = true := by subst h; simp
theorem byte_isnt {c k : UInt8} (h : ¬ c = k) : ((c.toNat : Int) == (k.toNat : Int)) = false := by
  rw [beq_eq_false_iff_ne]
  intro e
  exact h (UInt8.toNat_inj.1 (by omega))

set_option maxHeartbeats 800000 in
theorem kindOf_any (c d : UInt8) (w : World) : Calls Tryz.prog 164 #[.int .u8 c.toNat, .int .u8 d.toNat] w fun e w' => e = .returned (.int .i64 (kindC c d)) ∧ w' = w := by
  cases hA : inB c little
  case true =>
    have Hk : Hid (kindC c d = 1) := by show _ = _; simp [kindC, hA]
    go_enter Tryz.func164, Tryz.ntmps164
    go_wp2_with (first | (go_at_call 195; refine (isSmall_any _ _).mono ?_; rintro e w' ⟨rfl, rfl⟩) | (go_at_call 196; refine (isCapital_any _ _).mono ?_; rintro e w' ⟨rfl, rfl⟩))
    go_ret
    rw [Hk.out]
    exact ⟨rfl, rfl⟩
  case false =>
    cases hB : inB c great
    case true =>
      have Hk : Hid (kindC c d = 2) := by show _ = _; simp [kindC, hA, hB]
      go_enter Tryz.func164, Tryz.ntmps164
      go_wp2_with (first | (go_at_call 195; refine (isSmall_any _ _).mono ?_; rintro e w' ⟨rfl, rfl⟩) | (go_at_call 196; refine (isCapital_any _ _).mono ?_; rintro e w' ⟨rfl, rfl⟩))
      go_ret
      rw [Hk.out]
      exact ⟨rfl, rfl⟩
    case false =>
      by_cases h1 : c = 40
      · have Hk : Hid (kindC c d = 3) := by show _ = _; unfold kindC; rw [if_neg (by rw [hA]; simp), if_neg (by rw [hB]; simp), if_pos h1]
        have t1 : ((c.toNat : Int) == 40) = true := byte_is h1
        clear h1
        go_enter Tryz.func164, Tryz.ntmps164
        go_wp2_with (first | (go_at_call 195; refine (isSmall_any _ _).mono ?_; rintro e w' ⟨rfl, rfl⟩) | (go_at_call 196; refine (isCapital_any _ _).mono ?_; rintro e w' ⟨rfl, rfl⟩))
        go_ret
        rw [Hk.out]
        exact ⟨rfl, rfl⟩
      · have t1 : ((c.toNat : Int) == 40) = false := byte_isnt h1
        by_cases h2 : c = 41
        · have Hk : Hid (kindC c d = 4) := by show _ = _; unfold kindC; rw [if_neg (by rw [hA]; simp), if_neg (by rw [hB]; simp), if_neg h1, if_pos h2]
          have t2 : ((c.toNat : Int) == 41) = true := byte_is h2
          clear h1 h2
          go_enter Tryz.func164, Tryz.ntmps164
          go_wp2_with (first | (go_at_call 195; refine (isSmall_any _ _).mono ?_; rintro e w' ⟨rfl, rfl⟩) | (go_at_call 196; refine (isCapital_any _ _).mono ?_; rintro e w' ⟨rfl, rfl⟩))
          go_ret
          rw [Hk.out]
          exact ⟨rfl, rfl⟩
        · have t2 : ((c.toNat : Int) == 41) = false := byte_isnt h2
          by_cases h3 : c = 44
          · have Hk : Hid (kindC c d = 5) := by show _ = _; unfold kindC; rw [if_neg (by rw [hA]; simp), if_neg (by rw [hB]; simp), if_neg h1, if_neg h2, if_pos h3]
            have t3 : ((c.toNat : Int) == 44) = true := byte_is h3
            clear h1 h2 h3
            go_enter Tryz.func164, Tryz.ntmps164
            go_wp2_with (first | (go_at_call 195; refine (isSmall_any _ _).mono ?_; rintro e w' ⟨rfl, rfl⟩) | (go_at_call 196; refine (isCapital_any _ _).mono ?_; rintro e w' ⟨rfl, rfl⟩))
            go_ret
            rw [Hk.out]
            exact ⟨rfl, rfl⟩
          · have t3 : ((c.toNat : Int) == 44) = false := byte_isnt h3
            by_cases h4 : c = 46
            · have Hk : Hid (kindC c d = 6) := by show _ = _; unfold kindC; rw [if_neg (by rw [hA]; simp), if_neg (by rw [hB]; simp), if_neg h1, if_neg h2, if_neg h3, if_pos h4]
              have t4 : ((c.toNat : Int) == 46) = true := byte_is h4
              clear h1 h2 h3 h4
              go_enter Tryz.func164, Tryz.ntmps164
              go_wp2_with (first | (go_at_call 195; refine (isSmall_any _ _).mono ?_; rintro e w' ⟨rfl, rfl⟩) | (go_at_call 196; refine (isCapital_any _ _).mono ?_; rintro e w' ⟨rfl, rfl⟩))
              go_ret
              rw [Hk.out]
              exact ⟨rfl, rfl⟩
            · have t4 : ((c.toNat : Int) == 46) = false := byte_isnt h4
              by_cases h5 : c = 58
              · have t5 : ((c.toNat : Int) == 58) = true := byte_is h5
                by_cases h6 : d = 45
                · have t6 : ((d.toNat : Int) == 45) = true := byte_is h6
                  have Hk : Hid (kindC c d = 7) := by show _ = _; unfold kindC; rw [if_neg (by rw [hA]; simp), if_neg (by rw [hB]; simp), if_neg h1, if_neg h2, if_neg h3, if_neg h4, if_pos ⟨h5, h6⟩]
                  clear h1 h2 h3 h4 h5 h6
                  go_enter Tryz.func164, Tryz.ntmps164
                  go_wp2_with (first | (go_at_call 195; refine (isSmall_any _ _).mono ?_; rintro e w' ⟨rfl, rfl⟩) | (go_at_call 196; refine (isCapital_any _ _).mono ?_; rintro e w' ⟨rfl, rfl⟩))
                  go_ret
                  rw [Hk.out]
                  exact ⟨rfl, rfl⟩
                · have t6 : ((d.toNat : Int) == 45) = false := byte_isnt h6
                  have Hk : Hid (kindC c d = 8) := by show _ = _; unfold kindC; rw [if_neg (by rw [hA]; simp), if_neg (by rw [hB]; simp), if_neg h1, if_neg h2, if_neg h3, if_neg h4, if_neg (fun h => h6 h.2)]
                  clear h1 h2 h3 h4 h5 h6
                  go_enter Tryz.func164, Tryz.ntmps164
                  go_wp2_with (first | (go_at_call 195; refine (isSmall_any _ _).mono ?_; rintro e w' ⟨rfl, rfl⟩) | (go_at_call 196; refine (isCapital_any _ _).mono ?_; rintro e w' ⟨rfl, rfl⟩))
                  go_ret
                  rw [Hk.out]
                  exact ⟨rfl, rfl⟩
              · have t5 : ((c.toNat : Int) == 58) = false := byte_isnt h5
                have Hk : Hid (kindC c d = 8) := by show _ = _; unfold kindC; rw [if_neg (by rw [hA]; simp), if_neg (by rw [hB]; simp), if_neg h1, if_neg h2, if_neg h3, if_neg h4, if_neg (fun h => h5 h.1)]
                clear h1 h2 h3 h4 h5
                go_enter Tryz.func164, Tryz.ntmps164
                go_wp2_with (first | (go_at_call 195; refine (isSmall_any _ _).mono ?_; rintro e w' ⟨rfl, rfl⟩) | (go_at_call 196; refine (isCapital_any _ _).mono ?_; rintro e w' ⟨rfl, rfl⟩))
                go_ret
                rw [Hk.out]
                exact ⟨rfl, rfl⟩

/-- Where a token ends. -/
def endC (s : ByteArray) (p kd : Nat) : Nat := if kd = 1 ∨ kd = 2 then p + wordLen (s.data.toList.drop p) else if kd = 7 then p + 2 else p + 1

set_option maxHeartbeats 400000 in
theorem endOf_any (s : ByteArray) (p kd : Nat) (w : World) (hs : s.size ≤ 4096) (hp : p ≤ s.size) : Calls Tryz.prog 165 #[.string s, .int .i64 p, .int .i64 kd] w fun e w' => e = .returned (.int .i64 (endC s p kd)) ∧ w' = w := by
  by_cases h1 : kd = 1
  · subst h1
    have Hk : Hid (endC s p 1 = p + wordLen (s.data.toList.drop p)) := by show _ = _; simp [endC]
    go_enter Tryz.func165, Tryz.ntmps165
    go_wp2_with (go_at_call 197; refine (endOfWord_any _ _ _ hs hp).mono ?_; rintro e w' ⟨rfl, rfl⟩)
    go_ret
    rw [Hk.out]
    exact ⟨rfl, rfl⟩
  · have t1 : ((kd : Int) == 1) = false := by rw [beq_eq_false_iff_ne]; omega
    by_cases h2 : kd = 2
    · subst h2
      have Hk : Hid (endC s p 2 = p + wordLen (s.data.toList.drop p)) := by show _ = _; simp [endC]
      clear h1
      go_enter Tryz.func165, Tryz.ntmps165
      go_wp2_with (go_at_call 197; refine (endOfWord_any _ _ _ hs hp).mono ?_; rintro e w' ⟨rfl, rfl⟩)
      go_ret
      rw [Hk.out]
      exact ⟨rfl, rfl⟩
    · have t2 : ((kd : Int) == 2) = false := by rw [beq_eq_false_iff_ne]; omega
      by_cases h7 : kd = 7
      · have t7 : ((kd : Int) == 7) = true := by rw [beq_iff_eq]; omega
        have Hk : Hid (endC s p kd = p + 2) := by show _ = _; simp [endC, h7]
        clear h1 h2 h7
        go_enter Tryz.func165, Tryz.ntmps165
        go_wp2
        go_ret
        rw [Hk.out]
        exact ⟨ret_int (by omega), rfl⟩
      · have t7 : ((kd : Int) == 7) = false := by rw [beq_eq_false_iff_ne]; omega
        have Hk : Hid (endC s p kd = p + 1) := by show _ = _; simp [endC, h1, h2, h7]
        clear h1 h2 h7
        go_enter Tryz.func165, Tryz.ntmps165
        go_wp2
        go_ret
        rw [Hk.out]
        exact ⟨ret_int (by omega), rfl⟩

/-- What 'Next' tells: the kind, where the token begins, where it ends. -/
def nextC (s : ByteArray) (n : Nat) : Nat × Nat × Nat :=
  if n + blanks (s.data.toList.drop n) < s.size then
    (kindC (byteOr s (n + blanks (s.data.toList.drop n))) (byteOr s (n + blanks (s.data.toList.drop n) + 1)), n + blanks (s.data.toList.drop n),
      endC s (n + blanks (s.data.toList.drop n)) (kindC (byteOr s (n + blanks (s.data.toList.drop n))) (byteOr s (n + blanks (s.data.toList.drop n) + 1))))
  else (0, s.size, s.size)

set_option maxRecDepth 10000 in
set_option maxHeartbeats 400000 in
theorem next_any (s : ByteArray) (n : Nat) (w : World) (hs : s.size ≤ 4096) (hn : n ≤ s.size) : Calls Tryz.prog 130 #[.string s, .int .i64 n] w fun e w' =>
    e = .returned (.agg #[.int .i64 (nextC s n).1, .int .i64 (nextC s n).2.1, .int .i64 (nextC s n).2.2]) ∧ Below w.heap.size w w' := by
  have hbl := blanks_le (s.data.toList.drop n)
  simp only [List.length_drop, Array.length_toList] at hbl
  have hbl' : n + blanks (s.data.toList.drop n) ≤ s.size := by
    have : s.data.size = s.size := rfl
    omega
  obtain ⟨p, hp⟩ : ∃ p, p = n + blanks (s.data.toList.drop n) := ⟨_, rfl⟩
  have hps : p ≤ s.size := by omega
  have Hp := (show Hid _ from hp)
  by_cases h : p < s.size
  · have Hr : Hid (nextC s n = (kindC (byteOr s p) (byteOr s (p + 1)), p, endC s p (kindC (byteOr s p) (byteOr s (p + 1))))) := by
      show _ = _
      unfold nextC
      rw [← hp, if_pos h]
    clear hp hbl hbl'
    go_enter Tryz.func130, Tryz.ntmps130
    go_wp2_with fail
    refine (skipBlanks_any _ _ _ hs hn).mono ?_
    rintro e w' ⟨rfl, rfl⟩
    rw [← Hp.out]
    go_wp2_with fail
    refine (byteAt_any _ _ _ hs (by omega)).mono ?_
    rintro e w' ⟨rfl, rfl⟩
    go_wp2_with fail
    refine (byteAt_any s (p + 1) _ hs (by omega)).mono ?_
    rintro e w' ⟨rfl, rfl⟩
    go_wp2_with fail
    refine (kindOf_any _ _ _).mono ?_
    rintro e w' ⟨rfl, rfl⟩
    go_wp2_with fail
    refine (endOf_any _ _ _ _ hs hps).mono ?_
    rintro e w' ⟨rfl, rfl⟩
    go_wp2
    rw [Hr.out]
    exact bodyPost_ret (v := .agg #[.int .i64 (kindC (byteOr s p) (byteOr s (p + 1))), .int .i64 p, .int .i64 (endC s p (kindC (byteOr s p) (byteOr s (p + 1))))]) (by simp [results, Tryz.results130, go_sem]) rfl ⟨rfl, (Below.refl _ _).alloc (Nat.le_refl _) _⟩
  · have Hr : Hid (nextC s n = (0, s.size, s.size)) := by
      show _ = _
      unfold nextC
      rw [← hp, if_neg h]
    clear hp hbl hbl'
    go_enter Tryz.func130, Tryz.ntmps130
    go_wp2_with fail
    refine (skipBlanks_any _ _ _ hs hn).mono ?_
    rintro e w' ⟨rfl, rfl⟩
    rw [← Hp.out]
    go_wp2
    rw [Hr.out]
    exact bodyPost_ret (v := .agg #[.int .i64 0, .int .i64 s.size, .int .i64 s.size]) (by simp [results, Tryz.results130, go_sem]) rfl ⟨rfl, (Below.refl _ _).alloc (Nat.le_refl _) _⟩

end Go.Proofs.YtlmjilpjmgjjcaaGreatDoor

namespace Go.Proofs.YtlmjilpjmgjjcaaGreatDoor
open Go.RowKit
set_option linter.unusedSimpArgs false
set_option linter.unusedVariables false

/-- A clause as the program keeps it. -/
abbrev CC := Cls
/-- How far the program has read; 'opn': of each open bracket which symbol stands ahead of it, the innermost first. -/
structure RS where
  query : Bool
  next : Nat
  inBody : Bool
  atom : List Sym
  opn : List Nat
  head : List Sym
  body : List (List Sym)
  vars : Names
  clauses : List CC
/-- The six slices. -/
structure RV where
  a : Value
  o : Value
  h : Value
  b : Value
  v : Value
  c : Value

def symCells (s : Sym) : List Value := [.string ⟨s.name.toArray⟩, .int .i64 s.num, .int .i64 s.args]
def symsCells (l : List Sym) : List Value := l.flatMap symCells
theorem symsCells_at (l : List Sym) (k : Nat) (t : Sym) (h : l[k]? = some t) (j : Nat) (hj : j < 3) : (symsCells l)[k * 3 + j]? = (symCells t)[j]? := by
  induction l generalizing k with
  | nil => simp at h
  | cons a l ih =>
    cases k with
    | zero =>
      simp at h; subst h
      show (symCells a ++ symsCells l)[_]? = _
      rw [List.getElem?_append_left (by simp [symCells]; omega)]
      simp
    | succ k =>
      show (symCells a ++ symsCells l)[_]? = _
      rw [List.getElem?_append_right (by simp [symCells]; omega)]
      rw [← ih k (by simpa using h)]
      congr 1
      simp [symCells]
      omega

def rsCells (st : RS) (V : RV) : Array Value := #[.bool st.query, .int .i64 st.next, .bool st.inBody, V.a, V.o, V.h, V.b, V.v, V.c]

/-- What the looking methods need. -/
structure ROpen (w : World) (B rb : Nat) (st : RS) (V : RV) : Prop where
  blk : w.heap[rb]? = some (.cells (rsCells st V) 169 (0, 0))
  atom : w.ownsRow B 133 3 V.a st.atom.length (symsCells st.atom)
  opn : w.ownsRow B 3 1 V.o st.opn.length (ints st.opn.reverse)
  body : ∃ x c, V.b = .slice x st.body.length c
  cls : ∃ x c, V.c = .slice x st.clauses.length c

theorem ROpen.facts {w : World} {B rb : Nat} {st : RS} {V : RV} (h : ROpen w B rb st V) :
    w.cell? ⟨rb, 0, none⟩ = some (.bool st.query) ∧ w.cell? ⟨rb, 1, none⟩ = some (.int .i64 st.next) ∧ w.cell? ⟨rb, 2, none⟩ = some (.bool st.inBody) ∧ w.cell? ⟨rb, 3, none⟩ = some V.a ∧ w.cell? ⟨rb, 4, none⟩ = some V.o ∧
    w.cell? ⟨rb, 5, none⟩ = some V.h ∧ w.cell? ⟨rb, 6, none⟩ = some V.b ∧ w.cell? ⟨rb, 7, none⟩ = some V.v ∧ w.cell? ⟨rb, 8, none⟩ = some V.c :=
  ⟨cell_of_block h.blk 0 _ rfl, cell_of_block h.blk 1 _ rfl, cell_of_block h.blk 2 _ rfl, cell_of_block h.blk 3 _ rfl, cell_of_block h.blk 4 _ rfl, cell_of_block h.blk 5 _ rfl, cell_of_block h.blk 6 _ rfl, cell_of_block h.blk 7 _ rfl, cell_of_block h.blk 8 _ rfl⟩

/-- Which symbol stands ahead of the innermost open bracket; -1: none is open. -/
def ownerI (st : RS) : Int := match st.opn with
  | [] => -1
  | n :: _ => if st.atom.length ≤ n then -1 else n

set_option maxHeartbeats 800000 in
theorem owner_any (w : World) (B rb : Nat) (st : RS) (V : RV) (h : ROpen w B rb st V) (hl : st.opn.length ≤ 4096) (ha : st.atom.length ≤ 4096) :
    Calls Tryz.prog 200 #[.pointer (some ⟨rb, 0, none⟩)] w fun e w' => e = .returned (.int .i64 (ownerI st)) ∧ ∃ n, w' = w.drewN n := by
  obtain ⟨c0, c1, c2, c3, c4, c5, c6, c7, c8⟩ := h.facts
  obtain ⟨aa, acap, hva⟩ := owns_slice h.atom
  obtain ⟨oa, ocap, hvo⟩ := owns_slice h.opn
  rw [hva] at c3
  rw [hvo] at c4
  cases hst : st.opn with
  | nil =>
    have Ho : Hid (ownerI st = -1) := by show _ = _; simp [ownerI, hst]
    simp only [hst, List.length_nil] at c4
    clear hva hvo hst h
    go_enter Tryz.func200, Tryz.ntmps200
    go_wp2
    go_ret
    rw [Ho.out]
    exact ⟨rfl, 0, rfl⟩
  | cons n r =>
    have hrl : r.length + 1 ≤ 4096 := by rw [hst] at hl; simpa using hl
    have hop := h.opn
    rw [hst, hvo, hst] at hop
    obtain ⟨g, gcap, gcur, he, hBg, hg, hcap⟩ := owns_some hop (by simp)
    simp only [Value.slice.injEq] at he
    obtain ⟨rfl, _, rfl⟩ := he
    have cg : w.cell? ⟨g, r.length, none⟩ = some (.int .i64 n) := owns_cell hop r.length _ (by simp [ints])
    simp only [hst, List.length_cons] at c4
    simp only [List.length_cons] at hcap
    have hlen0 : (((r.length : Nat) : Int) + 1 == 0) = false := by rw [beq_eq_false_iff_ne]; omega
    by_cases hn : st.atom.length ≤ n
    · have Ho : Hid (ownerI st = -1) := by show _ = _; simp [ownerI, hst, hn]
      clear hva hvo hst h hop hg
      go_enter Tryz.func200, Tryz.ntmps200
      go_wp2_with fail
      go_quiet (fail)
      go_wp2
      go_ret
      rw [Ho.out]
      exact ⟨rfl, _, rfl⟩
    · have Ho : Hid (ownerI st = n) := by show _ = _; simp [ownerI, hst, hn]
      clear hva hvo hst h hop hg
      go_enter Tryz.func200, Tryz.ntmps200
      go_wp2_with fail
      go_quiet (fail)
      go_wp2
      go_ret
      rw [Ho.out]
      exact ⟨rfl, _, rfl⟩

end Go.Proofs.YtlmjilpjmgjjcaaGreatDoor

namespace Go.Proofs.YtlmjilpjmgjjcaaGreatDoor
open Go.RowKit
set_option linter.unusedSimpArgs false
set_option linter.unusedVariables false

theorem nb (kd k : Nat) : ((kd : Int) == (k : Int)) = (kd == k) := by
  rw [Bool.eq_iff_iff, beq_iff_eq, beq_iff_eq]; omega

/-- How many terms stand behind the symbol ahead of the innermost open bracket. -/
def argsN (st : RS) : Nat := match st.opn with
  | [] => 0
  | n :: _ => match st.atom[n]? with
    | none => 0
    | some s => s.args
def followC (st : RS) (kd : Nat) : Bool := if st.opn.isEmpty then (if st.inBody then (kd == 5 || kd == 6) else (kd == 7 || kd == 6)) else (kd == 5 || kd == 4)
def standC (st : RS) (kd : Nat) : Bool :=
  if st.next = 0 ∨ st.next = 1 then kd == 1 else if st.next = 2 then (kd == 1 || kd == 2) else if st.next = 3 then (kd == 3 || followC st kd) else if st.next = 4 then followC st kd else false
def fullC (st : RS) : Bool :=
  if st.next = 0 then decide (24 ≤ st.clauses.length) else if st.next = 1 then decide (6 ≤ st.body.length) else if st.next = 2 then (decide (30 ≤ st.atom.length) || decide (4 ≤ argsN st)) else false
def checkC (st : RS) (kd len : Nat) : Nat := if standC st kd = false then 2 else if (kd = 1 ∨ kd = 2) ∧ (8 < len ∨ fullC st = true) then 3 else 0

/-- What a state is bounded by. -/
structure RBd (st : RS) : Prop where
  opn : st.opn.length ≤ 4096
  atom : st.atom.length ≤ 4096
  body : st.body.length ≤ 4096
  cls : st.clauses.length ≤ 4096
  args : ∀ s ∈ st.atom, s.args ≤ 4096

theorem ROpen.drewN {w : World} {B rb : Nat} {st : RS} {V : RV} (h : ROpen w B rb st V) (n : Nat) : ROpen (w.drewN n) B rb st V := ⟨h.blk, h.atom, h.opn, h.body, h.cls⟩

set_option maxHeartbeats 800000 in
theorem args_any (w : World) (B rb : Nat) (st : RS) (V : RV) (h : ROpen w B rb st V) (hb : RBd st) :
    Calls Tryz.prog 199 #[.pointer (some ⟨rb, 0, none⟩)] w fun e w' => e = .returned (.int .i64 (argsN st)) ∧ ∃ n, w' = w.drewN n := by
  obtain ⟨c0, c1, c2, c3, c4, c5, c6, c7, c8⟩ := h.facts
  obtain ⟨aa, acap, hva⟩ := owns_slice h.atom
  rw [hva] at c3
  have Hown := hide' (owner_any w B rb st V h hb.opn hb.atom)
  by_cases ho : ownerI st = -1
  · have Ha : Hid (argsN st = 0) := by
      show _ = _
      cases hst : st.opn with
      | nil => simp [argsN, hst]
      | cons n r =>
        have hle : st.atom.length ≤ n := by
          unfold ownerI at ho
          rw [hst] at ho
          simp only at ho
          split at ho
          · assumption
          · omega
        simp [argsN, hst, List.getElem?_eq_none hle]
    have Ho := hide' ho
    clear ho h hva
    go_enter Tryz.func199, Tryz.ntmps199
    go_wp2_with fail
    refine Hown.out.mono ?_
    rintro e w1 ⟨rfl, n, rfl⟩
    rw [Ho.out]
    go_wp2
    go_ret
    rw [Ha.out]
    exact ⟨rfl, n, rfl⟩
  · obtain ⟨k, r, hst, hk⟩ : ∃ k r, st.opn = k :: r ∧ k < st.atom.length := by
      unfold ownerI at ho
      split at ho
      · exact absurd rfl ho
      · rename_i k r hn
        split at ho
        · exact absurd rfl ho
        · exact ⟨k, r, hn, by omega⟩
    obtain ⟨s, hs⟩ : ∃ s, st.atom[k]? = some s := ⟨_, List.getElem?_eq_getElem hk⟩
    have Ha : Hid (argsN st = s.args) := by show _ = _; simp [argsN, hst, hs]
    have Ho : Hid (ownerI st = k) := by show _ = _; simp [ownerI, hst]; omega
    have hat := h.atom
    rw [hva] at hat
    obtain ⟨g, gcap, gcur, he, hBg, hg, hcap⟩ := owns_some hat (by omega)
    simp only [Value.slice.injEq] at he
    obtain ⟨rfl, _, rfl⟩ := he
    have cg : w.cell? ⟨g, k * 3 + 2, none⟩ = some (.int .i64 s.args) := owns_cell hat _ _ (by rw [symsCells_at _ k s hs 2 (by omega)]; rfl)
    have hla := hb.atom
    clear ho h hva hat hst hs hg
    go_enter Tryz.func199, Tryz.ntmps199
    go_wp2_with fail
    refine Hown.out.mono ?_
    rintro e w1 ⟨rfl, n, rfl⟩
    rw [Ho.out]
    go_wp2
    go_ret
    rw [Ha.out]
    exact ⟨rfl, n, rfl⟩

set_option maxHeartbeats 800000 in
theorem follow_any (w : World) (B rb : Nat) (st : RS) (V : RV) (kd : Nat) (h : ROpen w B rb st V) (hb : RBd st) :
    Calls Tryz.prog 198 #[.pointer (some ⟨rb, 0, none⟩), .int .i64 kd] w fun e w' => e = .returned (.bool (followC st kd)) ∧ w' = w := by
  obtain ⟨c0, c1, c2, c3, c4, c5, c6, c7, c8⟩ := h.facts
  obtain ⟨oa, ocap, hvo⟩ := owns_slice h.opn
  have hl := hb.opn
  rw [hvo] at c4
  clear h hvo
  have e4 := nb kd 4
  have e5 := nb kd 5
  have e6 := nb kd 6
  have e7 := nb kd 7
  cases hst : st.opn with
  | nil =>
    simp only [hst, List.length_nil] at c4
    cases hib : st.inBody
    · rw [hib] at c2
      have Hf : Hid (followC st kd = (kd == 7 || kd == 6)) := by show _ = _; simp [followC, hst, hib]
      rw [Hf.out, ← e7, ← e6]
      clear e4 e5 e6 e7 hst hib
      cases t1 : ((kd : Int) == (7 : Nat))
      all_goals
        have t1' : ((kd : Int) == 7) = _ := t1
        go_enter Tryz.func198, Tryz.ntmps198
        go_wp2
        go_ret
        exact ⟨rfl, rfl⟩
    · rw [hib] at c2
      have Hf : Hid (followC st kd = (kd == 5 || kd == 6)) := by show _ = _; simp [followC, hst, hib]
      rw [Hf.out, ← e5, ← e6]
      clear e4 e5 e6 e7 hst hib
      cases t1 : ((kd : Int) == (5 : Nat))
      all_goals
        have t1' : ((kd : Int) == 5) = _ := t1
        go_enter Tryz.func198, Tryz.ntmps198
        go_wp2
        go_ret
        exact ⟨rfl, rfl⟩
  | cons n r =>
    have Hf : Hid (followC st kd = (kd == 5 || kd == 4)) := by show _ = _; simp [followC, hst]
    rw [Hf.out, ← e5, ← e4]
    have hrl : r.length + 1 ≤ 4096 := by rw [hst] at hl; simpa using hl
    simp only [hst, List.length_cons] at c4
    clear e4 e5 e6 e7 hst
    cases t1 : ((kd : Int) == (5 : Nat))
    all_goals
      have t1' : ((kd : Int) == 5) = _ := t1
      go_enter Tryz.func198, Tryz.ntmps198
      go_wp2
      go_ret
      exact ⟨rfl, rfl⟩

set_option maxHeartbeats 800000 in
theorem stand_any (w : World) (B rb : Nat) (st : RS) (V : RV) (kd : Nat) (h : ROpen w B rb st V) (hb : RBd st) (hn : st.next ≤ 5) :
    Calls Tryz.prog 166 #[.pointer (some ⟨rb, 0, none⟩), .int .i64 kd] w fun e w' => e = .returned (.bool (standC st kd)) ∧ w' = w := by
  obtain ⟨c0, c1, c2, c3, c4, c5, c6, c7, c8⟩ := h.facts
  have HF := hide' (follow_any w B rb st V kd h hb)
  have e1 := nb kd 1
  have e2 := nb kd 2
  have e3 := nb kd 3
  clear h hb c0 c2 c3 c4 c5 c6 c7 c8
  have hs : st.next = 0 ∨ st.next = 1 ∨ st.next = 2 ∨ st.next = 3 ∨ st.next = 4 ∨ st.next = 5 := by omega
  rcases hs with hs | hs | hs | hs | hs | hs
  · rw [hs] at c1
    have Hf : Hid (standC st kd = (kd == 1)) := by show _ = _; simp [standC, hs]
    rw [Hf.out]
    rw [← e1]
    clear hs e1 e2 e3
    go_enter Tryz.func166, Tryz.ntmps166
    go_wp2
    go_ret
    exact ⟨rfl, rfl⟩
  · rw [hs] at c1
    have Hf : Hid (standC st kd = (kd == 1)) := by show _ = _; simp [standC, hs]
    rw [Hf.out]
    rw [← e1]
    clear hs e1 e2 e3
    go_enter Tryz.func166, Tryz.ntmps166
    go_wp2
    go_ret
    exact ⟨rfl, rfl⟩
  · rw [hs] at c1
    have Hf : Hid (standC st kd = (kd == 1 || kd == 2)) := by show _ = _; simp [standC, hs]
    rw [Hf.out]
    rw [← e1, ← e2]
    clear hs e1 e2 e3
    cases t1 : ((kd : Int) == (1 : Nat))
    all_goals
      have t1' : ((kd : Int) == 1) = _ := t1
      go_enter Tryz.func166, Tryz.ntmps166
      go_wp2
      go_ret
      exact ⟨rfl, rfl⟩
  · rw [hs] at c1
    have Hf : Hid (standC st kd = (kd == 3 || followC st kd)) := by show _ = _; simp [standC, hs]
    rw [Hf.out]
    rw [← e3]
    clear hs e1 e2 e3
    cases t1 : ((kd : Int) == (3 : Nat))
    all_goals
      have t1' : ((kd : Int) == 3) = _ := t1
      go_enter Tryz.func166, Tryz.ntmps166
      go_wp2_with (go_at_call 198; refine HF.out.mono ?_; rintro e w' ⟨rfl, rfl⟩)
      go_ret
      exact ⟨rfl, rfl⟩
  · rw [hs] at c1
    have Hf : Hid (standC st kd = followC st kd) := by show _ = _; simp [standC, hs]
    rw [Hf.out]
    clear hs e1 e2 e3
    go_enter Tryz.func166, Tryz.ntmps166
    go_wp2_with (go_at_call 198; refine HF.out.mono ?_; rintro e w' ⟨rfl, rfl⟩)
    go_ret
    exact ⟨rfl, rfl⟩
  · rw [hs] at c1
    have Hf : Hid (standC st kd = false) := by show _ = _; simp [standC, hs]
    rw [Hf.out]
    clear hs e1 e2 e3
    go_enter Tryz.func166, Tryz.ntmps166
    go_wp2
    go_ret
    exact ⟨rfl, rfl⟩

set_option maxHeartbeats 800000 in
theorem full_any (w : World) (B rb : Nat) (st : RS) (V : RV) (h : ROpen w B rb st V) (hb : RBd st) (hn : st.next ≤ 5) :
    Calls Tryz.prog 167 #[.pointer (some ⟨rb, 0, none⟩)] w fun e w' => e = .returned (.bool (fullC st)) ∧ ∃ n, w' = w.drewN n := by
  obtain ⟨c0, c1, c2, c3, c4, c5, c6, c7, c8⟩ := h.facts
  have HA := hide' (args_any w B rb st V h hb)
  obtain ⟨aa, acap, hva⟩ := owns_slice h.atom
  obtain ⟨ba, bcap, hvb⟩ := h.body
  obtain ⟨ca, ccap, hvc⟩ := h.cls
  rw [hva] at c3
  rw [hvb] at c6
  rw [hvc] at c8
  have l1 := hb.atom
  have l2 := hb.body
  have l3 := hb.cls
  clear h hb hva hvb hvc
  have hs : st.next = 0 ∨ st.next = 1 ∨ st.next = 2 ∨ (st.next ≠ 0 ∧ st.next ≠ 1 ∧ st.next ≠ 2) := by omega
  rcases hs with hs | hs | hs | hs
  · rw [hs] at c1
    have Hf : Hid (fullC st = decide (24 ≤ st.clauses.length)) := by show _ = _; simp [fullC, hs]
    clear hs
    go_enter Tryz.func167, Tryz.ntmps167
    go_wp2
    go_ret
    rw [Hf.out]
    exact ⟨ret_bool (by rw [Bool.eq_iff_iff]; simp; try omega), 0, rfl⟩
  · rw [hs] at c1
    have Hf : Hid (fullC st = decide (6 ≤ st.body.length)) := by show _ = _; simp [fullC, hs]
    clear hs
    go_enter Tryz.func167, Tryz.ntmps167
    go_wp2
    go_ret
    rw [Hf.out]
    exact ⟨ret_bool (by rw [Bool.eq_iff_iff]; simp; try omega), 0, rfl⟩
  · rw [hs] at c1
    by_cases h30 : (30 : Int) ≤ (st.atom.length : Int)
    · have Hf : Hid (fullC st = true) := by show _ = _; simp [fullC, hs]; left; omega
      clear hs
      go_enter Tryz.func167, Tryz.ntmps167
      go_wp2
      go_ret
      rw [Hf.out]
      exact ⟨rfl, 0, rfl⟩
    · have Hf : Hid (fullC st = decide (4 ≤ argsN st)) := by show _ = _; simp [fullC, hs]; omega
      have hd : decide ((30 : Int) ≤ (st.atom.length : Int)) = false := by simpa using h30
      clear hs
      go_enter Tryz.func167, Tryz.ntmps167
      go_wp2_with (go_at_call 199; refine HA.out.mono ?_; rintro e w' ⟨rfl, n, rfl⟩)
      go_ret
      rw [Hf.out]
      exact ⟨ret_bool (by rw [Bool.eq_iff_iff]; simp; try omega), _, rfl⟩
  · have t0 : ((st.next : Int) == 0) = false := by rw [beq_eq_false_iff_ne]; omega
    have t1 : ((st.next : Int) == 1) = false := by rw [beq_eq_false_iff_ne]; omega
    have t2 : ((st.next : Int) == 2) = false := by rw [beq_eq_false_iff_ne]; omega
    have Hf : Hid (fullC st = false) := by show _ = _; simp [fullC, hs]
    clear hs
    go_enter Tryz.func167, Tryz.ntmps167
    go_wp2
    go_ret
    rw [Hf.out]
    exact ⟨rfl, 0, rfl⟩

end Go.Proofs.YtlmjilpjmgjjcaaGreatDoor

/-
  PROVED HERE: what the program's reader lets by: the method 'check'; and 'textOf' (the conditions stand in each statement).
-/
namespace Go.Proofs.YtlmjilpjmgjjcaaGreatDoor
open Go.RowKit
set_option linter.unusedSimpArgs false
set_option linter.unusedVariables false

theorem ROpen.later {S : Nat → Prop} {w w' : World} {B rb : Nat} {st : RS} {V : RV} (h : ROpen w B rb st V) (hk : Kept S w w') (h1 : ¬ S rb) (h2 : ∀ k, V.a.ownBlock = some k → ¬ S k) (h3 : ∀ k, V.o.ownBlock = some k → ¬ S k) : ROpen w' B rb st V :=
  ⟨(hk.block rb (lt_of_block h.blk) h1).trans h.blk, hk.owns h.atom h2, hk.owns h.opn h3, h.body, h.cls⟩

set_option maxRecDepth 10000 in
set_option maxHeartbeats 800000 in
theorem check_any (w : World) (B rb : Nat) (st : RS) (V : RV) (kd p q : Nat) (h : ROpen w B rb st V) (hb : RBd st) (hn : st.next ≤ 5) (hpq : p ≤ q) (hq : q ≤ 4096) :
    Calls Tryz.prog 131 #[.pointer (some ⟨rb, 0, none⟩), .agg #[.int .i64 kd, .int .i64 p, .int .i64 q]] w fun e w' => e = .returned (.int .i64 (checkC st kd (q - p))) ∧ Kept noBlock w w' := by
  have h1 : ∀ o, ROpen (w.alloc o) B rb st V := fun o => h.later (S := noBlock) ((Kept.refl _ w).alloc o) (fun h => h) (fun _ _ h => h) (fun _ _ h => h)
  have HS := hide' (fun o => stand_any (w.alloc o) B rb st V kd (h1 o) hb hn)
  have HF := hide' (fun o => full_any (w.alloc o) B rb st V (h1 o) hb hn)
  have e1 := nb kd 1
  have e2 := nb kd 2
  clear h h1
  cases hst : standC st kd
  · have Hc : Hid (checkC st kd (q - p) = 2) := by show _ = _; simp [checkC, hst]
    go_enter Tryz.func131, Tryz.ntmps131
    go_wp2_with (go_at_call 166; refine (HS.out _).mono ?_; rintro e w' ⟨rfl, rfl⟩)
    go_ret
    rw [Hc.out]
    exact ⟨rfl, (Kept.refl _ w).alloc _⟩
  · by_cases hw : kd = 1 ∨ kd = 2
    · have hword : ((kd : Int) == 1) = true ∨ (((kd : Int) == 1) = false ∧ ((kd : Int) == 2) = true) := by
        rcases hw with rfl | rfl
        · exact Or.inl rfl
        · exact Or.inr ⟨rfl, rfl⟩
      by_cases h8 : 8 < q - p
      · have h8' : (8 : Int) < (q : Int) - (p : Int) := by omega
        have Hc : Hid (checkC st kd (q - p) = 3) := by show _ = _; simp [checkC, hst, hw, h8]
        clear hw e1 e2
        rcases hword with t1 | ⟨t1, t2⟩
        all_goals
          go_enter Tryz.func131, Tryz.ntmps131
          go_wp2_with (go_at_call 166; refine (HS.out _).mono ?_; rintro e w' ⟨rfl, rfl⟩)
          go_ret
          rw [Hc.out]
          exact ⟨rfl, (Kept.refl _ w).alloc _⟩
      · have h8' : ¬ (8 : Int) < (q : Int) - (p : Int) := by omega
        have hd8 : decide ((8 : Int) < (q : Int) - (p : Int)) = false := by simpa using h8'
        cases hfl : fullC st
        · have Hc : Hid (checkC st kd (q - p) = 0) := by show _ = _; simp [checkC, hst, h8, hfl]
          clear hw e1 e2
          rcases hword with t1 | ⟨t1, t2⟩
          all_goals
            go_enter Tryz.func131, Tryz.ntmps131
            go_wp2_with (first | (go_at_call 166; refine (HS.out _).mono ?_; rintro e w' ⟨rfl, rfl⟩) | (go_at_call 167; refine (HF.out _).mono ?_; rintro e w' ⟨rfl, n, rfl⟩))
            go_ret
            rw [Hc.out]
            exact ⟨rfl, ((Kept.refl _ w).alloc _).drewN _⟩
        · have Hc : Hid (checkC st kd (q - p) = 3) := by show _ = _; simp [checkC, hst, hw, hfl]
          clear hw e1 e2
          rcases hword with t1 | ⟨t1, t2⟩
          all_goals
            go_enter Tryz.func131, Tryz.ntmps131
            go_wp2_with (first | (go_at_call 166; refine (HS.out _).mono ?_; rintro e w' ⟨rfl, rfl⟩) | (go_at_call 167; refine (HF.out _).mono ?_; rintro e w' ⟨rfl, n, rfl⟩))
            go_ret
            rw [Hc.out]
            exact ⟨rfl, ((Kept.refl _ w).alloc _).drewN _⟩
    · have t1 : ((kd : Int) == 1) = false := by rw [beq_eq_false_iff_ne]; omega
      have t2 : ((kd : Int) == 2) = false := by rw [beq_eq_false_iff_ne]; omega
      have Hc : Hid (checkC st kd (q - p) = 0) := by show _ = _; simp [checkC, hst, hw]
      clear hw e1 e2
      go_enter Tryz.func131, Tryz.ntmps131
      go_wp2_with (go_at_call 166; refine (HS.out _).mono ?_; rintro e w' ⟨rfl, rfl⟩)
      go_ret
      rw [Hc.out]
      exact ⟨rfl, (Kept.refl _ w).alloc _⟩

set_option maxRecDepth 10000 in
set_option maxHeartbeats 800000 in
theorem textOf_any (s : ByteArray) (kd : Int) (p q : Nat) (w : World) (hpq : p ≤ q) (hq : q ≤ s.size) (hs : s.size ≤ 4096) :
    Calls Tryz.prog 133 #[.string s, .agg #[.int .i64 kd, .int .i64 p, .int .i64 q]] w fun e w' => e = .returned (.string (s.extract p q)) ∧ Kept noBlock w w' := by
  have d1 : decide (((p : Nat) : Int) < 0) = false := by simp
  have d2 : decide ((q : Int) < (p : Int)) = false := by simp; omega
  go_enter Tryz.func133, Tryz.ntmps133
  go_wp2
  go_ret
  exact ⟨rfl, (Kept.refl _ w).alloc _⟩

end Go.Proofs.YtlmjilpjmgjjcaaGreatDoor

namespace Go.Proofs.YtlmjilpjmgjjcaaGreatDoor
open Go.RowKit
set_option linter.unusedSimpArgs false
set_option linter.unusedVariables false

theorem Tryz.infoSym : (Tryz.prog.info? 133).map (fun i => (i.zero, i.size, i.bytes)) = some (some (.agg #[.string ⟨#[]⟩, .int .i64 0, .int .i64 0]), 3, 32) := by kernel_rfl
theorem Tryz.infoSyms : (Tryz.prog.info? 105).map (fun i => (i.zero, i.size, i.bytes)) = some (some (.slice none 0 0), 1, 24) := by kernel_rfl
theorem Tryz.infoCls : (Tryz.prog.info? 107).map (fun i => (i.zero, i.size, i.bytes)) = some (some (.agg #[.slice none 0 0, .slice none 0 0, .slice none 0 0]), 3, 72) := by kernel_rfl

/-- An atom that is whole: its symbols, in a row below a number. -/
def SymRow (w : World) (B Sa : Nat) (v : Value) (l : List Sym) : Prop := w.ownsRow B 133 3 v l.length (symsCells l) ∧ ∀ k, v.ownBlock = some k → k < Sa
/-- Atoms of a body. -/
def BodyRow (w : World) (B Sa : Nat) (v : Value) (ls : List (List Sym)) (vs : List Value) : Prop :=
  w.ownsRow B 105 1 v ls.length vs ∧ ∀ (i : Nat) (l : List Sym), ls[i]? = some l → ∃ x, vs[i]? = some x ∧ SymRow w B Sa x l
/-- Clauses that are whole. -/
def CCRow (w : World) (B Sa Sb : Nat) (v : Value) (cs : List CC) (xs : List (List Value)) : Prop :=
  w.ownsRow B 107 3 v cs.length xs.flatten ∧ xs.length = cs.length ∧ (∀ x ∈ xs, x.length = 3) ∧
  ∀ (i : Nat) (c : CC), cs[i]? = some c → ∃ hv bv vv vs, xs[i]? = some [hv, bv, vv] ∧ SymRow w B Sa hv c.head ∧ BodyRow w B Sa bv c.body vs ∧ (∀ k, bv.ownBlock = some k → k < Sb) ∧ w.ownsRow B 9 1 vv c.names.length (strs c.names) ∧ ∀ k, vv.ownBlock = some k → k < Sb

/-- All but the struct itself. -/
structure RRest (w : World) (B : Nat) (st : RS) (V : RV) (Sa Sb : Nat) (vs : List Value) (xs : List (List Value)) : Prop where
  atom : w.ownsRow B 133 3 V.a st.atom.length (symsCells st.atom)
  opn : w.ownsRow B 3 1 V.o st.opn.length (ints st.opn.reverse)
  vars : w.ownsRow B 9 1 V.v st.vars.length (strs st.vars)
  head : SymRow w B Sa V.h st.head
  body : BodyRow w B Sa V.b st.body vs
  cls : CCRow w B Sa Sb V.c st.clauses xs
  ta : ∀ k, V.a.ownBlock = some k → Sa ≤ k
  tb : ∀ k, V.b.ownBlock = some k → Sb ≤ k
  tv : ∀ k, V.v.ownBlock = some k → Sb ≤ k
  la : Sa ≤ w.heap.size
  lb : Sb ≤ w.heap.size
/-- A reading, whole. -/
structure IsR (w : World) (B rb : Nat) (st : RS) (V : RV) (Sa Sb : Nat) (vs : List Value) (xs : List (List Value)) : Prop where
  blk : w.heap[rb]? = some (.cells (rsCells st V) 169 (0, 0))
  rest : RRest w B st V Sa Sb vs xs
  le : B ≤ rb

theorem IsR.opens {w : World} {B rb : Nat} {st : RS} {V : RV} {Sa Sb : Nat} {vs : List Value} {xs : List (List Value)} (h : IsR w B rb st V Sa Sb vs xs) : ROpen w B rb st V := by
  obtain ⟨ba, bc, hb⟩ := owns_slice h.rest.body.1
  obtain ⟨ca, cc, hc⟩ := owns_slice h.rest.cls.1
  exact ⟨h.blk, h.rest.atom, h.rest.opn, ⟨ba, bc, hb⟩, ⟨ca, cc, hc⟩⟩

/-- The struct and one row. -/
def touch (rb : Nat) (X : Value) : Nat → Prop := fun k => k = rb ∨ ownOf X k

section
variable {w w' : World} {B rb : Nat} {st : RS} {V : RV} {Sa Sb : Nat} {vs : List Value} {xs : List (List Value)} {X : Value}

theorem row_keep {Br : Nat} {e eX : TypeId} {s sX n nX : Nat} {v : Value} {ys yX : List Value} {cs : Array Value} {fr : Nat × Nat} (ho : w.ownsRow Br e s v n ys) (hk : Kept (touch rb X) w w') (hblk : w.heap[rb]? = some (.cells cs 169 fr))
    (hX : w.ownsRow B eX sX X nX yX) (h1 : e ≠ 169) (h2 : e ≠ eX) : w'.ownsRow Br e s v n ys :=
  hk.owns ho (fun k hv hs => by
    rcases hs with rfl | hs
    · exact owns_apart ho h1 hblk hv
    · obtain ⟨cur, hc⟩ := owns_terms hX k hs
      exact owns_apart ho h2 hc hv)
theorem sym_keep {v : Value} {l : List Sym} {eX : TypeId} {sX nX : Nat} {yX : List Value} {cs : Array Value} {fr : Nat × Nat} (h : SymRow w B Sa v l) (hk : Kept (touch rb X) w w') (hblk : w.heap[rb]? = some (.cells cs 169 fr))
    (hX : w.ownsRow B eX sX X nX yX) (h2 : 133 ≠ eX ∨ ∀ k, X.ownBlock = some k → Sa ≤ k) : SymRow w' B Sa v l := by
  refine ⟨?_, h.2⟩
  rcases h2 with h2 | h2
  · exact row_keep h.1 hk hblk hX (by decide) h2
  · exact hk.owns h.1 (fun k hv hs => by
      rcases hs with rfl | hs
      · exact owns_apart h.1 (by decide) hblk hv
      · have a1 := h.2 k hv
        have a2 := h2 k hs
        omega)
theorem body_keep {v : Value} {ls : List (List Sym)} {ws : List Value} {eX : TypeId} {sX nX : Nat} {yX : List Value} {cs : Array Value} {fr : Nat × Nat} (h : BodyRow w B Sa v ls ws) (hk : Kept (touch rb X) w w') (hblk : w.heap[rb]? = some (.cells cs 169 fr))
    (hX : w.ownsRow B eX sX X nX yX) (h2 : 133 ≠ eX ∨ ∀ k, X.ownBlock = some k → Sa ≤ k) (h3 : 105 ≠ eX ∨ ∀ k, v.ownBlock = some k → ¬ ownOf X k) : BodyRow w' B Sa v ls ws := by
  refine ⟨?_, fun i l hl => ?_⟩
  · rcases h3 with h3 | h3
    · exact row_keep h.1 hk hblk hX (by decide) h3
    · exact hk.owns h.1 (fun k hv hs => by
        rcases hs with rfl | hs
        · exact owns_apart h.1 (by decide) hblk hv
        · exact h3 k hv hs)
  · obtain ⟨x, hx, hs⟩ := h.2 i l hl
    exact ⟨x, hx, sym_keep hs hk hblk hX h2⟩
theorem cls_keep {v : Value} {cs : List CC} {ys : List (List Value)} {eX : TypeId} {sX nX : Nat} {yX : List Value} {cl : Array Value} {fr : Nat × Nat} (h : CCRow w B Sa Sb v cs ys) (hk : Kept (touch rb X) w w') (hblk : w.heap[rb]? = some (.cells cl 169 fr))
    (hX : w.ownsRow B eX sX X nX yX) (h2 : 133 ≠ eX ∨ ∀ k, X.ownBlock = some k → Sa ≤ k) (h3 : 105 ≠ eX ∨ ∀ k, X.ownBlock = some k → Sb ≤ k) (h4 : 107 ≠ eX) (h5 : 9 ≠ eX ∨ ∀ k, X.ownBlock = some k → Sb ≤ k) : CCRow w' B Sa Sb v cs ys := by
  refine ⟨row_keep h.1 hk hblk hX (by decide) h4, h.2.1, h.2.2.1, fun i c hc => ?_⟩
  obtain ⟨hv, bv, vv, us, e1, e2, e3, e4⟩ := h.2.2.2 i c hc
  refine ⟨hv, bv, vv, us, e1, sym_keep e2 hk hblk hX h2, body_keep e3 hk hblk hX h2 ?_, e4.1, hk.owns e4.2.1 (fun k hv hs => ?_), e4.2.2⟩
  rotate_left
  · rcases hs with rfl | hs
    · exact owns_apart e4.2.1 (by decide) hblk hv
    · rcases h5 with h5 | h5
      · obtain ⟨cur, hc⟩ := owns_terms hX k hs
        exact owns_apart e4.2.1 h5 hc hv
      · have a1 := e4.2.2 k hv
        have a2 := h5 k hs
        omega
  rcases h3 with h3 | h3
  · exact Or.inl h3
  · exact Or.inr (fun k hb hs => by
      have a1 := e4.1 k hb
      have a2 := h3 k hs
      omega)
end

end Go.Proofs.YtlmjilpjmgjjcaaGreatDoor

namespace Go.Proofs.YtlmjilpjmgjjcaaGreatDoor
open Go.RowKit
set_option linter.unusedSimpArgs false
set_option linter.unusedVariables false

/-- What a step of the reader leaves as it was: all that lies below a number, and the tokens and faults. -/
structure Held (B : Nat) (w w' : World) : Prop where
  below : Below B w w'
  other : ∀ (k : Nat) (cs : Array Value) (T : TypeId) (fr : Nat × Nat), w.heap[k]? = some (.cells cs T fr) → (T = 224 ∨ T = 91) → w'.heap[k]? = w.heap[k]?
theorem Held.refl (B : Nat) (w : World) : Held B w w := ⟨Below.refl _ _, fun _ _ _ _ _ _ => rfl⟩
theorem Held.trans {B : Nat} {a b c : World} (h : Held B a b) (k : Held B b c) : Held B a c :=
  ⟨h.below.trans k.below, fun i cs T fr hb hT => (k.other i cs T fr ((h.other i cs T fr hb hT).trans hb) hT).trans (h.other i cs T fr hb hT)⟩
theorem Held.drew {B : Nat} {a w : World} (h : Held B a w) : Held B a w.drew := ⟨h.below.drew, h.other⟩
theorem Held.fresh {B : Nat} {w w' : World} (h : Kept noBlock w w') (hB : B ≤ w.heap.size) : Held B w w' := ⟨h.below hB (fun _ h => h.elim), fun k _ _ _ hb _ => h.block k (lt_of_block hb) (fun h => h)⟩

section
variable {w w' : World} {B rb : Nat} {st : RS} {V : RV} {Sa Sb : Nat} {vs : List Value} {xs : List (List Value)}

theorem IsR.below (h : IsR w B rb st V Sa Sb vs xs) {X : Value} {eX : TypeId} {sX nX : Nat} {yX : List Value} (hk : Kept (touch rb X) w w') (hX : w.ownsRow B eX sX X nX yX) (he : eX ≠ 224 ∧ eX ≠ 91) : Held B w w' :=
  ⟨hk.below (Nat.le_of_lt (Nat.lt_of_le_of_lt h.le (lt_of_block h.blk))) (fun k hs => by
    rcases hs with rfl | hs
    · exact h.le
    · exact (hX.lt k hs).1), fun k cs T fr hb hT => by
    refine hk.block k (lt_of_block hb) (fun hs => ?_)
    rcases hs with rfl | hs
    · have e := h.blk
      rw [hb] at e
      simp only [Option.some.injEq, Obj.cells.injEq] at e
      rcases hT with h1 | h1 <;> exact absurd (e.2.1.symm.trans h1) (by decide)
    · obtain ⟨cur, hc⟩ := owns_terms hX k hs
      rw [hb] at hc
      simp only [Option.some.injEq, Obj.cells.injEq] at hc
      rcases hT with h1 | h1
      · exact he.1 (hc.2.1.symm.trans h1)
      · exact he.2 (hc.2.1.symm.trans h1)⟩

/-- The struct alone has turned. -/
theorem IsR.only (h : IsR w B rb st V Sa Sb vs xs) (hk : Kept (touch rb (.slice none 0 0)) w w') (st' : RS) (hblk : w'.heap[rb]? = some (.cells (rsCells st' V) 169 (0, 0)))
    (e1 : st'.atom = st.atom) (e2 : st'.opn = st.opn) (e3 : st'.vars = st.vars) (e4 : st'.head = st.head) (e5 : st'.body = st.body) (e6 : st'.clauses = st.clauses) : IsR w' B rb st' V Sa Sb vs xs := by
  have hX : w.ownsRow B 169 1 (.slice none 0 0) 0 [] := World.ownsRow_nil _ _ _ _
  have r := h.rest
  refine ⟨hblk, ⟨?_, ?_, ?_, ?_, ?_, ?_, r.ta, r.tb, r.tv, Nat.le_trans r.la hk.size, Nat.le_trans r.lb hk.size⟩, h.le⟩
  · rw [e1]; exact row_keep r.atom hk h.blk hX (by decide) (by decide)
  · rw [e2]; exact row_keep r.opn hk h.blk hX (by decide) (by decide)
  · rw [e3]; exact row_keep r.vars hk h.blk hX (by decide) (by decide)
  · rw [e4]; exact sym_keep r.head hk h.blk hX (Or.inl (by decide))
  · rw [e5]; exact body_keep r.body hk h.blk hX (Or.inl (by decide)) (Or.inl (by decide))
  · rw [e6]; exact cls_keep r.cls hk h.blk hX (Or.inl (by decide)) (Or.inl (by decide)) (by decide) (Or.inl (by decide))

/-- The open brackets have turned. -/
theorem IsR.opened (h : IsR w B rb st V Sa Sb vs xs) (hk : Kept (touch rb V.o) w w') (l : List Nat) (o' : Value) (hblk : w'.heap[rb]? = some (.cells (rsCells { st with opn := l } { V with o := o' }) 169 (0, 0)))
    (ho : w'.ownsRow B 3 1 o' l.length (ints l.reverse)) : IsR w' B rb { st with opn := l } { V with o := o' } Sa Sb vs xs := by
  have r := h.rest
  exact ⟨hblk, ⟨row_keep r.atom hk h.blk r.opn (by decide) (by decide), ho, row_keep r.vars hk h.blk r.opn (by decide) (by decide), sym_keep r.head hk h.blk r.opn (Or.inl (by decide)),
    body_keep r.body hk h.blk r.opn (Or.inl (by decide)) (Or.inl (by decide)), cls_keep r.cls hk h.blk r.opn (Or.inl (by decide)) (Or.inl (by decide)) (by decide) (Or.inl (by decide)), r.ta, r.tb, r.tv, Nat.le_trans r.la hk.size, Nat.le_trans r.lb hk.size⟩, h.le⟩

/-- The variables have turned. -/
theorem IsR.named (h : IsR w B rb st V Sa Sb vs xs) (hk : Kept (touch rb V.v) w w') (l : Names) (v' : Value) (hblk : w'.heap[rb]? = some (.cells (rsCells { st with vars := l } { V with v := v' }) 169 (0, 0)))
    (ho : w'.ownsRow B 9 1 v' l.length (strs l)) (htv : ∀ k, v'.ownBlock = some k → Sb ≤ k) : IsR w' B rb { st with vars := l } { V with v := v' } Sa Sb vs xs := by
  have r := h.rest
  exact ⟨hblk, ⟨row_keep r.atom hk h.blk r.vars (by decide) (by decide), row_keep r.opn hk h.blk r.vars (by decide) (by decide), ho, sym_keep r.head hk h.blk r.vars (Or.inl (by decide)),
    body_keep r.body hk h.blk r.vars (Or.inl (by decide)) (Or.inl (by decide)), cls_keep r.cls hk h.blk r.vars (Or.inl (by decide)) (Or.inl (by decide)) (by decide) (Or.inr r.tv), r.ta, r.tb, htv, Nat.le_trans r.la hk.size, Nat.le_trans r.lb hk.size⟩, h.le⟩

/-- The atom has turned. -/
theorem IsR.atoms (h : IsR w B rb st V Sa Sb vs xs) (hk : Kept (touch rb V.a) w w') (l : List Sym) (a' : Value) (hblk : w'.heap[rb]? = some (.cells (rsCells { st with atom := l } { V with a := a' }) 169 (0, 0)))
    (ho : w'.ownsRow B 133 3 a' l.length (symsCells l)) (hta : ∀ k, a'.ownBlock = some k → Sa ≤ k) : IsR w' B rb { st with atom := l } { V with a := a' } Sa Sb vs xs := by
  have r := h.rest
  exact ⟨hblk, ⟨ho, row_keep r.opn hk h.blk r.atom (by decide) (by decide), row_keep r.vars hk h.blk r.atom (by decide) (by decide), sym_keep r.head hk h.blk r.atom (Or.inr r.ta),
    body_keep r.body hk h.blk r.atom (Or.inr r.ta) (Or.inl (by decide)), cls_keep r.cls hk h.blk r.atom (Or.inr r.ta) (Or.inl (by decide)) (by decide) (Or.inl (by decide)), hta, r.tb, r.tv, Nat.le_trans r.la hk.size, Nat.le_trans r.lb hk.size⟩, h.le⟩

theorem SymRow.more {v : Value} {l : List Sym} {S' : Nat} (h : SymRow w B Sa v l) (hS : Sa ≤ S') : SymRow w B S' v l := ⟨h.1, fun k hk => Nat.lt_of_lt_of_le (h.2 k hk) hS⟩
theorem BodyRow.more {v : Value} {ls : List (List Sym)} {ws : List Value} {S' : Nat} (h : BodyRow w B Sa v ls ws) (hS : Sa ≤ S') : BodyRow w B S' v ls ws :=
  ⟨h.1, fun i l hl => by obtain ⟨x, h1, h2⟩ := h.2 i l hl; exact ⟨x, h1, h2.more hS⟩⟩
theorem CCRow.more {v : Value} {cs : List CC} {ys : List (List Value)} {S' T' : Nat} (h : CCRow w B Sa Sb v cs ys) (hS : Sa ≤ S') (hT : Sb ≤ T') : CCRow w B S' T' v cs ys :=
  ⟨h.1, h.2.1, h.2.2.1, fun i c hc => by
    obtain ⟨hv, bv, vv, us, e1, e2, e3, e4⟩ := h.2.2.2 i c hc
    exact ⟨hv, bv, vv, us, e1, e2.more hS, e3.more hS, fun k hk => Nat.lt_of_lt_of_le (e4.1 k hk) hT, e4.2.1, fun k hk => Nat.lt_of_lt_of_le (e4.2.2 k hk) hT⟩⟩

/-- An atom is whole: it is the head. -/
theorem IsR.headed (h : IsR w B rb st V Sa Sb vs xs) (hk : Kept (touch rb (.slice none 0 0)) w w') (hblk : w'.heap[rb]? = some (.cells (rsCells { st with head := st.atom, atom := [] } { V with h := V.a, a := .slice none 0 0 }) 169 (0, 0))) :
    IsR w' B rb { st with head := st.atom, atom := [] } { V with h := V.a, a := .slice none 0 0 } w'.heap.size Sb vs xs := by
  have hX : w.ownsRow B 169 1 (.slice none 0 0) 0 [] := World.ownsRow_nil _ _ _ _
  have r := h.rest
  have hs : Sa ≤ w'.heap.size := Nat.le_trans r.la hk.size
  have ha := row_keep r.atom hk h.blk hX (by decide) (by decide)
  exact ⟨hblk, ⟨World.ownsRow_nil _ _ _ _, row_keep r.opn hk h.blk hX (by decide) (by decide), row_keep r.vars hk h.blk hX (by decide) (by decide), ⟨ha, fun k e => (ha.lt k e).2⟩,
    (body_keep r.body hk h.blk hX (Or.inl (by decide)) (Or.inl (by decide))).more hs, (cls_keep r.cls hk h.blk hX (Or.inl (by decide)) (Or.inl (by decide)) (by decide) (Or.inl (by decide))).more hs (Nat.le_refl _), fun k e => by simp [Value.ownBlock] at e, r.tb, r.tv, Nat.le_refl _, Nat.le_trans r.lb hk.size⟩, h.le⟩

/-- An atom is whole: it is one more of the body. -/
theorem IsR.bodied (h : IsR w B rb st V Sa Sb vs xs) (hk : Kept (touch rb V.b) w w') (b' : Value) (hblk : w'.heap[rb]? = some (.cells (rsCells { st with body := st.body ++ [st.atom], atom := [] } { V with b := b', a := .slice none 0 0 }) 169 (0, 0)))
    (ho : w'.ownsRow B 105 1 b' (st.body.length + 1) (vs ++ [V.a])) (htb : ∀ k, b'.ownBlock = some k → Sb ≤ k) :
    IsR w' B rb { st with body := st.body ++ [st.atom], atom := [] } { V with b := b', a := .slice none 0 0 } w'.heap.size Sb (vs ++ [V.a]) xs := by
  have r := h.rest
  have hs : Sa ≤ w'.heap.size := Nat.le_trans r.la hk.size
  have ha := row_keep r.atom hk h.blk r.body.1 (by decide) (by decide)
  have hvl : vs.length = st.body.length := by have := r.body.1.1; omega
  refine ⟨hblk, ⟨World.ownsRow_nil _ _ _ _, row_keep r.opn hk h.blk r.body.1 (by decide) (by decide), row_keep r.vars hk h.blk r.body.1 (by decide) (by decide), (sym_keep r.head hk h.blk r.body.1 (Or.inl (by decide))).more hs, ?_,
    (cls_keep r.cls hk h.blk r.body.1 (Or.inl (by decide)) (Or.inr r.tb) (by decide) (Or.inl (by decide))).more hs (Nat.le_refl _), fun k e => by simp [Value.ownBlock] at e, htb, r.tv, Nat.le_refl _, Nat.le_trans r.lb hk.size⟩, h.le⟩
  refine ⟨by simpa using ho, fun i l hl => ?_⟩
  rcases Nat.lt_or_ge i st.body.length with hi | hi
  · simp only at hl
    rw [List.getElem?_append_left hi] at hl
    obtain ⟨x, h1, h2⟩ := r.body.2 i l hl
    exact ⟨x, by rw [List.getElem?_append_left (by omega)]; exact h1, (sym_keep h2 hk h.blk r.body.1 (Or.inl (by decide))).more hs⟩
  · have hi' : i = st.body.length := by
      have : i < (st.body ++ [st.atom]).length := (List.getElem?_eq_some_iff.1 hl).1
      simp at this; omega
    subst hi'
    simp at hl
    subst hl
    exact ⟨V.a, by rw [← hvl]; simp, ha, fun k e => (ha.lt k e).2⟩

/-- A clause is whole. -/
theorem IsR.clausd (h : IsR w B rb st V Sa Sb vs xs) (hk : Kept (touch rb V.c) w w') (c' : Value) (st' : RS) (hblk : w'.heap[rb]? = some (.cells (rsCells st' { V with c := c', h := .slice none 0 0, b := .slice none 0 0, v := .slice none 0 0 }) 169 (0, 0)))
    (ho : w'.ownsRow B 107 3 c' (st.clauses.length + 1) (xs.flatten ++ [V.h, V.b, V.v]))
    (e1 : st'.atom = st.atom) (e2 : st'.opn = st.opn) (e3 : st'.vars = []) (e4 : st'.head = []) (e5 : st'.body = []) (e6 : st'.clauses = st.clauses ++ [⟨st.head, st.body, st.vars⟩]) :
    IsR w' B rb st' { V with c := c', h := .slice none 0 0, b := .slice none 0 0, v := .slice none 0 0 } Sa w'.heap.size [] (xs ++ [[V.h, V.b, V.v]]) := by
  have r := h.rest
  have hs : Sb ≤ w'.heap.size := Nat.le_trans r.lb hk.size
  have hbd := body_keep r.body hk h.blk r.cls.1 (Or.inl (by decide)) (Or.inl (by decide))
  have hvd := row_keep r.vars hk h.blk r.cls.1 (by decide) (by decide)
  refine ⟨hblk, ⟨?_, ?_, ?_, ?_, ?_, ?_, r.ta, fun k e => by simp [Value.ownBlock] at e, fun k e => by simp [Value.ownBlock] at e, Nat.le_trans r.la hk.size, Nat.le_refl _⟩, h.le⟩
  · rw [e1]; exact row_keep r.atom hk h.blk r.cls.1 (by decide) (by decide)
  · rw [e2]; exact row_keep r.opn hk h.blk r.cls.1 (by decide) (by decide)
  · rw [e3]; exact World.ownsRow_nil _ _ _ _
  · rw [e4]; exact ⟨World.ownsRow_nil _ _ _ _, fun k e => by simp [Value.ownBlock] at e⟩
  · rw [e5]; exact ⟨World.ownsRow_nil _ _ _ _, fun i l hl => by simp at hl⟩
  · rw [e6]
    refine ⟨by simpa using ho, by simp [r.cls.2.1], ?_, fun i c hc => ?_⟩
    · intro x hx
      simp at hx
      rcases hx with hx | rfl
      · exact r.cls.2.2.1 x hx
      · rfl
    · rcases Nat.lt_or_ge i st.clauses.length with hi | hi
      · rw [List.getElem?_append_left hi] at hc
        obtain ⟨hv, bv, vv, us, d1, d2, d3, d4⟩ := r.cls.2.2.2 i c hc
        exact ⟨hv, bv, vv, us, by rw [List.getElem?_append_left (by rw [r.cls.2.1]; exact hi)]; exact d1, sym_keep d2 hk h.blk r.cls.1 (Or.inl (by decide)), body_keep d3 hk h.blk r.cls.1 (Or.inl (by decide)) (Or.inl (by decide)), fun k e => Nat.lt_of_lt_of_le (d4.1 k e) hs, row_keep d4.2.1 hk h.blk r.cls.1 (by decide) (by decide), fun k e => Nat.lt_of_lt_of_le (d4.2.2 k e) hs⟩
      · have hi' : i = st.clauses.length := by
          have : i < (st.clauses ++ [(⟨st.head, st.body, st.vars⟩ : CC)]).length := (List.getElem?_eq_some_iff.1 hc).1
          simp at this; omega
        subst hi'
        simp at hc
        subst hc
        exact ⟨V.h, V.b, V.v, vs, by rw [← r.cls.2.1]; simp, sym_keep r.head hk h.blk r.cls.1 (Or.inl (by decide)), hbd, fun k e => (hbd.1.lt k e).2, hvd, fun k e => (hvd.lt k e).2⟩
end

end Go.Proofs.YtlmjilpjmgjjcaaGreatDoor

namespace Go.Proofs.YtlmjilpjmgjjcaaGreatDoor
open Go.RowKit
set_option linter.unusedSimpArgs false
set_option linter.unusedVariables false

/-- A reading, in whatever rows. -/
def IsRx (w : World) (B rb : Nat) (st : RS) : Prop := ∃ V Sa Sb vs xs, IsR w B rb st V Sa Sb vs xs

theorem touch_put {w w1 : World} {rb : Nat} {X : Value} (h : Kept (ownOf X) w w1) (i : Nat) (u : Value) : Kept (touch rb X) w (w1.setCell ⟨rb, i, none⟩ u) :=
  Kept.setCell (S := touch rb X) (h.mono (fun _ _ e => Or.inr e)) (p := ⟨rb, i, none⟩) (fun _ => Or.inl rfl) u
theorem touch_more {w w1 : World} {rb : Nat} {X : Value} (h : Kept (touch rb X) w w1) (i : Nat) (u : Value) : Kept (touch rb X) w (w1.setCell ⟨rb, i, none⟩ u) :=
  Kept.setCell (S := touch rb X) h (p := ⟨rb, i, none⟩) (fun _ => Or.inl rfl) u

def closeS (st : RS) : RS := { st with opn := st.opn.tail }

set_option maxRecDepth 10000 in
set_option maxHeartbeats 800000 in
theorem close_any (w : World) (B rb : Nat) (st : RS) (h : IsRx w B rb st) (hl : st.opn.length ≤ 4096) :
    Calls Tryz.prog 170 #[.pointer (some ⟨rb, 0, none⟩)] w fun e w' => e = .returned (.tuple #[]) ∧ IsRx w' B rb (closeS st) ∧ Held B w w' := by
  obtain ⟨V, Sa, Sb, vs, xs, h⟩ := h
  obtain ⟨c0, c1, c2, c3, c4, c5, c6, c7, c8⟩ := h.opens.facts
  have hf := fun i => thawed_of_block h.blk i
  have hrb := lt_of_block h.blk
  obtain ⟨oa, ocap, hvo⟩ := owns_slice h.rest.opn
  cases hst : st.opn with
  | nil =>
    rw [hvo] at c4
    simp only [hst, List.length_nil] at c4
    have Hr : Hid (closeS st = st) := by
      show _ = _
      cases st
      simp only at hst
      subst hst
      rfl
    have H := hide' h
    clear h hvo hst
    go_enter Tryz.func170, Tryz.ntmps170
    go_wp2
    go_end0
    rw [Hr.out]
    exact ⟨rfl, ⟨V, Sa, Sb, vs, xs, H.out⟩, Held.refl _ _⟩
  | cons n r =>
    have hrl : r.length + 1 ≤ 4096 := by rw [hst] at hl; simpa using hl
    have hop := h.rest.opn
    rw [hst, hvo, hst] at hop
    obtain ⟨g, gcap, gcur, he, hBg, hg, hcap⟩ := owns_some hop (by simp)
    simp only [Value.slice.injEq] at he
    obtain ⟨rfl, _, rfl⟩ := he
    rw [hvo] at c4
    simp only [hst, List.length_cons] at c4 hcap hop
    have hpop := owns_pop (n := r.length) hop
    have hvo' : V.o = .slice (some ⟨g, 0, none⟩) (r.length + 1) ocap := by rw [hvo, hst]; rfl
    have H := hide' h
    have Hst := hide' hst
    have Hpop := hide' hpop
    have Hvo := hide' hvo'
    clear h hvo hst hop hg hpop hvo'
    go_enter Tryz.func170, Tryz.ntmps170
    go_wp2_with fail
    go_region
    go_end0
    have hk : Kept (touch rb V.o) w (w.setCell ⟨rb, 4, none⟩ (.slice (some ⟨g, 0, none⟩) r.length ocap)) := (Kept.refl _ w).setCell (p := ⟨rb, 4, none⟩) (fun _ => Or.inl rfl) _
    have hpop' : (w.setCell ⟨rb, 4, none⟩ (.slice (some ⟨g, 0, none⟩) r.length ocap)).ownsRow B 3 1 (.slice (some ⟨g, 0, none⟩) r.length ocap) r.length (ints r.reverse) := by
      have e : (ints (n :: r).reverse).take r.length = ints r.reverse := by simp [ints]
      have h2 := Hpop.out
      rw [e] at h2
      exact ((Kept.refl (only rb) w).put 4 _).owns h2 (fun k hko e => by
        have e : k = rb := e
        rw [e] at hko
        exact owns_apart h2 (by decide) H.out.blk hko)
    have hR := H.out.opened hk r (.slice (some ⟨g, 0, none⟩) r.length ocap) (block_set H.out.blk 4 _) hpop'
    have hc : closeS st = { st with opn := r } := by simp [closeS, Hst.out]
    rw [hc]
    refine ⟨rfl, ⟨_, Sa, Sb, vs, xs, ⟨hR.blk, ⟨hR.rest.atom, hR.rest.opn, hR.rest.vars, hR.rest.head, hR.rest.body, hR.rest.cls, hR.rest.ta, hR.rest.tb, hR.rest.tv, hR.rest.la, hR.rest.lb⟩, hR.le⟩⟩, ?_⟩
    exact (H.out.below hk H.out.rest.opn (by decide)).drew

/-- The number of a variable, and the variables behind it. -/
def varS (st : RS) (t : List UInt8) : RS := { st with vars := (numberOf st.vars t).1 }

set_option maxRecDepth 10000 in
set_option maxHeartbeats 800000 in
theorem variable_any (w : World) (B rb : Nat) (st : RS) (t : List UInt8) (h : IsRx w B rb st) (hl : st.vars.length ≤ 4096) :
    Calls Tryz.prog 169 #[.pointer (some ⟨rb, 0, none⟩), .string ⟨t.toArray⟩] w fun e w' => e = .returned (.int .i64 (numberOf st.vars t).2) ∧ IsRx w' B rb (varS st t) ∧ Held B w w' := by
  obtain ⟨V, Sa, Sb, vs, xs, h⟩ := h
  obtain ⟨c0, c1, c2, c3, c4, c5, c6, c7, c8⟩ := h.opens.facts
  have hrb := lt_of_block h.blk
  obtain ⟨va, vcap, hvv⟩ := owns_slice h.rest.vars
  have hown := h.rest.vars
  rw [hvv] at c7 hown
  have H := hide' h
  have Hown := hide' hown
  have Hvv := hide' hvv
  have hBw : B ≤ w.heap.size := by have := h.le; omega
  clear h hown hvv
  go_enter Tryz.func169, Tryz.ntmps169
  go_wp2
  go_loop [13] (fun i => ∃ k : Nat, k ≤ st.vars.length ∧ i = .int .i64 k ∧ t ∉ st.vars.take k) (fun i => st.vars.length - (intOf i).toNat)
  case atStart => exact ⟨0, Nat.zero_le _, rfl, by simp⟩
  case round =>
    obtain ⟨k, hk, rfl, hnot⟩ := hrel
    have Hnot := hide' hnot
    clear hnot
    by_cases hlt : k < st.vars.length
    · obtain ⟨g, cap', cur, he, hBg, hg, hcp⟩ := owns_some Hown.out (by omega)
      simp only [Value.slice.injEq] at he
      obtain ⟨rfl, _, rfl⟩ := he
      obtain ⟨nm, hnm⟩ : ∃ nm, nm = st.vars[k] := ⟨_, rfl⟩
      have hc : w.cell? ⟨g, k, none⟩ = some (.string ⟨nm.toArray⟩) := owns_cell Hown.out k _ (by simp [strs, hlt, hnm])
      have Hnm := hide' hnm
      clear hg hnm
      go_wp2
      · have hq : nm = t := eq_of_beq (by assumption)
        go_ret
        have hr := numberOf_hit hlt (Hnm.out.symm.trans hq) Hnot.out
        rw [varS, hr]
        exact ⟨rfl, ⟨V, Sa, Sb, vs, xs, H.out⟩, Held.refl _ _⟩
      · have hq : nm ≠ t := ne_of_beq_false (by assumption)
        go_round
        case rel => exact ⟨k + 1, by omega, by go_num, not_on hlt (fun h => hq (Hnm.out.trans h)) Hnot.out⟩
        case measure => simp [intOf]; omega
    · have Hmiss := hide' (numberOf_miss hlt Hnot.out)
      go_wp2_with (at_builtin; refine wpList_append1 _ rfl (.tmp 28) (.tmp 30) 47 rfl B 9 Tryz.infoStr Tryz.underlying47 rfl (by decide) _ st.vars.length (strs st.vars) rfl Hown.out _ rfl rfl rfl (str_one _) ?_ hBw ?_)
      · omega
      intro v' w1 hap
      obtain ⟨v1a, v1cap, rfl⟩ := owns_slice hap.owns
      have hnb : ¬ ownOf (.slice va st.vars.length vcap) rb := owns_apart Hown.out (by decide) H.out.blk
      have hblk1 := (hap.kept.block rb hrb hnb).trans H.out.blk
      have d7 : w1.cell? ⟨rb, 7, none⟩ = some V.v := cell_of_block hblk1 7 _ rfl
      rw [Hvv.out] at d7
      have df := fun i => thawed_of_block hblk1 i
      have Hap := hide' hap
      have Hblk1 := hide' hblk1
      clear hap hblk1 c0 c1 c2 c3 c4 c5 c6 c7 c8
      go_wp2
      go_ret
      have hk : Kept (touch rb V.v) w (w1.setCell ⟨rb, 7, none⟩ (.slice v1a (st.vars.length + 1) v1cap)) := by
        rw [Hvv.out]
        exact touch_put Hap.out.kept 7 _
      have hrow : (w1.setCell ⟨rb, 7, none⟩ (.slice v1a (st.vars.length + 1) v1cap)).ownsRow B 9 1 (.slice v1a (st.vars.length + 1) v1cap) (st.vars ++ [t]).length (strs (st.vars ++ [t])) := by
        have h2 := Hap.out.owns
        have h3 := ((Kept.refl (only rb) w1).put 7 (.slice v1a (st.vars.length + 1) v1cap)).owns h2 (fun k hko e => by
          have e : k = rb := e
          rw [e] at hko
          exact owns_apart h2 (by decide) Hblk1.out hko)
        simpa [strs] using h3
      have hR := H.out.named hk (st.vars ++ [t]) (.slice v1a (st.vars.length + 1) v1cap) (block_set Hblk1.out 7 _) hrow (fun k e => by
        rcases Hap.out.where_ with hw | ⟨g, hw, hg⟩
        · exact H.out.rest.tv k (by rw [Hvv.out]; exact hw.symm.trans e)
        · have e2 := hw.symm.trans e
          simp only [Option.some.injEq] at e2
          have := H.out.rest.lb
          omega)
      rw [varS, Hmiss.out]
      refine ⟨ret_int ?_, ⟨_, Sa, Sb, vs, xs, hR⟩, H.out.below hk H.out.rest.vars (by decide)⟩
      omega

end Go.Proofs.YtlmjilpjmgjjcaaGreatDoor

namespace Go.Proofs.YtlmjilpjmgjjcaaGreatDoor
open Go.RowKit
set_option linter.unusedSimpArgs false
set_option linter.unusedVariables false

theorem step_append1 {P : Program} {ops : Array Oper} {o : Oper} {a : Act} {K : Act → World → Prop} {Q : Exit → Act → World → Prop} {E : Prop} {W : World} (w : World) (hg : o.guard = none) (s x : Operand) (t : TypeId)
    (ho : o.op = .call { callee := .builtin .append, args := #[s, x], argTypes := #[t, t] })
    (base : Nat) (e : TypeId) {z : Value} {size bytes : Nat}
    (hinfo : (P.info? e).map (fun i => (i.zero, i.size, i.bytes)) = some (some z, size, bytes)) (ht : P.underlying t = some (.slice e)) (hzs : z.cells.size = size) (hsz : 0 < size)
    (v : Value) (n : Nat) (xs : List Value) (hs : a.eval s = v) (hown : w.ownsRow base e size v n xs)
    (news : Array Value) {N : Nat} (hx : a.eval x = .slice (some ⟨N, 0, none⟩) 1 1) (hN : N = w.heap.size) (hl : news.size = size) (h1 : ∀ u ∈ news.toList, u.oneCell' = true)
    (hbig : (n + 1) * (bytes + 1) ≤ 140737488355328) (hbase : base ≤ w.heap.size) (hW : W = w.alloc (.cells news e))
    (h : ∀ v' w', Appended w base e size v (n + 1) (xs ++ news.toList) v' w' → K (a.put o.dst v') w') : if Region.wanted o (yielded ops a.tmps) = true then Oper.wp P o a W K Q else E := by
  have hw : Region.wanted o (yielded ops a.tmps) = true := by simp [Region.wanted, hg]
  rw [if_pos hw, hW]
  exact wp_append1 w s x t ho base e hinfo ht hzs hsz v n xs hs hown news hx hN hl h1 hbig hbase h

end Go.Proofs.YtlmjilpjmgjjcaaGreatDoor

namespace Go.Proofs.YtlmjilpjmgjjcaaGreatDoor
open Go.RowKit
set_option linter.unusedSimpArgs false
set_option linter.unusedVariables false

theorem blk_after {w w1 : World} {o : Obj} {n rb : Nat} {X : Value} {cs : Array Value} {T : TypeId} (h : Kept (ownOf X) ((w.alloc o).drewN n) w1) (hb : w.heap[rb]? = some (.cells cs T (0, 0))) (hx : ¬ ownOf X rb) : w1.heap[rb]? = some (.cells cs T (0, 0)) :=
  (h.block rb (by have := lt_of_block hb; show rb < (w.alloc o).heap.size; simp; omega) hx).trans (block_alloc hb o)

/-- One more term behind the symbol ahead of the innermost open bracket. -/
def bumpS (st : RS) : List Sym := match st.opn with
  | [] => st.atom
  | n :: _ => st.atom.modify n (fun s => { s with args := s.args + 1 })
def addS (st : RS) (s : Sym) : RS := { st with atom := bumpS st ++ [s] }

theorem sym_one (x : ByteArray) (y z : Int) : ∀ u ∈ (#[Value.string x, .int .i64 y, .int .i64 z] : Array Value).toList, u.oneCell' = true := by
  intro u hu
  simp at hu
  rcases hu with rfl | rfl | rfl <;> rfl

theorem add_done {w w1 : World} {B rb nd : Nat} {st : RS} {V : RV} {Sa Sb : Nat} {vs : List Value} {xs : List (List Value)} {s : Sym} {o : Obj} {a1 : Option Addr} {a1cap : Nat} (H : IsR w B rb st V Sa Sb vs xs)
    (hap : Appended ((w.alloc o).drewN nd) B 133 3 V.a (st.atom.length + 1) (symsCells st.atom ++ [.string ⟨s.name.toArray⟩, .int .i64 s.num, .int .i64 s.args]) (.slice a1 (st.atom.length + 1) a1cap) w1) :
    IsR (w1.setCell ⟨rb, 3, none⟩ (.slice a1 (st.atom.length + 1) a1cap)) B rb { st with atom := st.atom ++ [s] } { V with a := .slice a1 (st.atom.length + 1) a1cap } Sa Sb vs xs ∧ Held B w (w1.setCell ⟨rb, 3, none⟩ (.slice a1 (st.atom.length + 1) a1cap)) := by
  have hat := H.rest.atom
  have hblk1 := blk_after hap.kept H.blk (owns_apart hat (by decide) H.blk)
  have hk : Kept (touch rb V.a) w (w1.setCell ⟨rb, 3, none⟩ (.slice a1 (st.atom.length + 1) a1cap)) := touch_put ((((Kept.refl _ w).alloc _).drewN _).trans hap.kept) 3 _
  have hrow : (w1.setCell ⟨rb, 3, none⟩ (.slice a1 (st.atom.length + 1) a1cap)).ownsRow B 133 3 (.slice a1 (st.atom.length + 1) a1cap) (st.atom ++ [s]).length (symsCells (st.atom ++ [s])) := by
    have h2 := hap.owns
    have h3 := ((Kept.refl (only rb) w1).put 3 (.slice a1 (st.atom.length + 1) a1cap)).owns h2 (fun k hko e => by
      have e : k = rb := e
      rw [e] at hko
      exact owns_apart h2 (by decide) hblk1 hko)
    simpa [symsCells, symCells] using h3
  have hta : ∀ k, (Value.slice a1 (st.atom.length + 1) a1cap).ownBlock = some k → Sa ≤ k := by
    intro k hk
    rcases hap.where_ with hw | ⟨g, hw, hg⟩
    · exact H.rest.ta k (by rw [← hw]; exact hk)
    · rw [hk] at hw
      simp at hw
      have := H.rest.la
      have hg' : w.heap.size + 1 ≤ g := by simpa using hg
      omega
  exact ⟨H.atoms hk (st.atom ++ [s]) (.slice a1 (st.atom.length + 1) a1cap) (block_set hblk1 3 _) hrow hta, H.below hk hat (by decide)⟩

theorem owns_setg {w : World} {B : Nat} {e : TypeId} {g n cap size : Nat} {xs : List Value} (h : w.ownsRow B e size (.slice (some ⟨g, 0, none⟩) n cap) n xs) (i : Nat) (u : Value) :
    (w.setCell ⟨g, i, none⟩ u).ownsRow B e size (.slice (some ⟨g, 0, none⟩) n cap) n (xs.set i u) := by
  refine ⟨by simpa using h.1, ?_⟩
  rcases h.2 with ⟨h1, _⟩ | ⟨g', cap', cur, h1, hb, hg, hn, hc, hs, ht⟩
  · simp at h1
  · simp at h1
    obtain ⟨rfl, rfl⟩ := h1
    refine .inr ⟨g, cap, cur.setIfInBounds i u, rfl, hb, block_set hg i u, hn, hc, by simpa using hs, ?_⟩
    rw [← ht]
    simp [List.take_set]
theorem syms_bump (l : List Sym) (n : Nat) (s : Sym) (h : l[n]? = some s) : symsCells (l.modify n (fun s => { s with args := s.args + 1 })) = (symsCells l).set (n * 3 + 2) (.int .i64 ((s.args : Int) + 1)) := by
  induction l generalizing n with
  | nil => simp at h
  | cons a l ih =>
    cases n with
    | zero =>
      simp at h; subst h
      simp [symsCells, symCells, List.modify]
    | succ n =>
      have := ih n (by simpa using h)
      simp only [List.modify_succ_cons]
      show symCells a ++ symsCells _ = (symCells a ++ symsCells l).set _ _
      rw [this, List.set_append_right _ _ (by simp [symCells]; omega)]
      congr 2
      simp [symCells]
      omega

set_option maxRecDepth 10000 in
set_option maxHeartbeats 1000000 in
theorem add_top (w : World) (B rb : Nat) (st : RS) (s : Sym) (h : IsRx w B rb st) (hb : RBd st) (ho : st.opn = []) :
    Calls Tryz.prog 168 #[.pointer (some ⟨rb, 0, none⟩), .agg #[.string ⟨s.name.toArray⟩, .int .i64 s.num, .int .i64 s.args]] w fun e w' => e = .returned (.tuple #[]) ∧ IsRx w' B rb (addS st s) ∧ Held B w w' := by
  obtain ⟨V, Sa, Sb, vs, xs, h⟩ := h
  have hrb := lt_of_block h.blk
  have hBw : B ≤ w.heap.size := by have := h.le; omega
  obtain ⟨aa, acap, hva⟩ := owns_slice h.rest.atom
  have hat := h.rest.atom
  rw [hva] at hat
  have hla := hb.atom
  have HW : ∀ o, ROpen (w.alloc o) B rb st V := fun o => h.opens.later (S := noBlock) ((Kept.refl _ w).alloc o) (fun h => h) (fun _ _ h => h) (fun _ _ h => h)
  have HO := hide' (fun o => owner_any (w.alloc o) B rb st V (HW o) hb.opn hb.atom)
  have hoi : ownerI st = -1 := by simp [ownerI, ho]
  have Hoi := hide' hoi
  obtain ⟨c0, c1, c2, c3, c4, c5, c6, c7, c8⟩ := h.opens.facts
  have hf := fun i => thawed_of_block h.blk i
  rw [hva] at c3
  have H := hide' h
  have Hat := hide' hat
  have Hva := hide' hva
  have Hadd : Hid (addS st s = { st with atom := st.atom ++ [s] }) := by show _ = _; simp [addS, bumpS, ho]
  clear h hat hva HW ho hoi
  go_enter Tryz.func168, Tryz.ntmps168
  go_wp2_with fail
  refine (HO.out _).mono ?_
  rintro e w1 ⟨rfl, nd, rfl⟩
  rw [Hoi.out]
  go_wp2_with fail
  go_region_law (refine step_append1 ((w.alloc (.cells #[.string ⟨s.name.toArray⟩, .int .i64 s.num, .int .i64 s.args] 133)).drewN (nd + 1)) rfl (.tmp 24) (.tmp 26) 105 rfl B 133 Tryz.infoSym Tryz.underlying105 rfl (by decide) (.slice aa st.atom.length acap) st.atom.length (symsCells st.atom) rfl (Hat.out.alloc _) #[.string ⟨s.name.toArray⟩, .int .i64 s.num, .int .i64 s.args] rfl (by simp) rfl (sym_one _ _ _) (by omega) (by simp; omega) rfl ?_; intro v' w1 hap; obtain ⟨a1, a1cap, rfl⟩ := owns_slice hap.owns; have hblk1 := blk_after hap.kept H.out.blk (owns_apart Hat.out (by decide) H.out.blk); have d3 : w1.cell? ⟨rb, 3, none⟩ = some V.a := cell_of_block hblk1 3 _ rfl; have df := fun i => thawed_of_block hblk1 i; have Hap := hide' hap; have Hblk1 := hide' hblk1; clear hap hblk1)
  all_goals
    go_end0
    rw [Hadd.out]
    have hap := Hap.out
    rw [← Hva.out] at hap
    obtain ⟨hR, hB⟩ := add_done H.out hap
    exact ⟨rfl, ⟨_, Sa, Sb, vs, xs, hR⟩, hB⟩

theorem IsR.fresh {w w' : World} {B rb : Nat} {st : RS} {V : RV} {Sa Sb : Nat} {vs : List Value} {xs : List (List Value)} (h : IsR w B rb st V Sa Sb vs xs) (hk : Kept noBlock w w') : IsR w' B rb st V Sa Sb vs xs :=
  h.only (hk.mono (fun _ _ h => h.elim)) st ((hk.block rb (lt_of_block h.blk) (fun h => h)).trans h.blk) rfl rfl rfl rfl rfl rfl

/-- Behind the count of terms. -/
theorem IsR.counted {w : World} {B rb : Nat} {st : RS} {V : RV} {Sa Sb : Nat} {vs : List Value} {xs : List (List Value)} {n g acap : Nat} {r : List Nat} {so : Sym} (h : IsR w B rb st V Sa Sb vs xs) (ho : st.opn = n :: r) (hso : st.atom[n]? = some so)
    (hva : V.a = .slice (some ⟨g, 0, none⟩) st.atom.length acap) : IsR (w.setCell ⟨g, n * 3 + 2, none⟩ (.int .i64 ((so.args : Int) + 1))) B rb { st with atom := bumpS st } V Sa Sb vs xs ∧ Held B w (w.setCell ⟨g, n * 3 + 2, none⟩ (.int .i64 ((so.args : Int) + 1))) := by
  have hat := h.rest.atom
  rw [hva] at hat
  have hgb : ¬ rb = g := fun e => by subst e; exact owns_apart hat (by decide) h.blk rfl
  have hrow1 := owns_setg hat (n * 3 + 2) (.int .i64 ((so.args : Int) + 1))
  rw [← syms_bump st.atom n so hso] at hrow1
  have hblkW : (w.setCell ⟨g, n * 3 + 2, none⟩ (.int .i64 ((so.args : Int) + 1))).heap[rb]? = some (.cells (rsCells st V) 169 (0, 0)) := by
    rw [Below.heap_setCell _ _ _ _ hgb]; exact h.blk
  have hkW : Kept (touch rb V.a) w (w.setCell ⟨g, n * 3 + 2, none⟩ (.int .i64 ((so.args : Int) + 1))) := (Kept.refl _ w).setCell (p := ⟨g, n * 3 + 2, none⟩) (fun _ => Or.inr (by rw [hva]; rfl)) _
  have hbl : (bumpS st).length = st.atom.length := by simp [bumpS, ho]
  have hbs : bumpS st = st.atom.modify n (fun s => { s with args := s.args + 1 }) := by simp [bumpS, ho]
  exact ⟨h.atoms hkW (bumpS st) V.a hblkW (by rw [hbl, hbs, hva]; exact hrow1) h.rest.ta, h.below hkW h.rest.atom (by decide)⟩

theorem blk_after0 {w w1 : World} {n rb : Nat} {X : Value} {cs : Array Value} {T : TypeId} (h : Kept (ownOf X) (w.drewN n) w1) (hb : w.heap[rb]? = some (.cells cs T (0, 0))) (hx : ¬ ownOf X rb) : w1.heap[rb]? = some (.cells cs T (0, 0)) :=
  (h.block rb (lt_of_block hb) hx).trans hb

theorem add_done0 {w w1 : World} {B rb nd : Nat} {st : RS} {V : RV} {Sa Sb : Nat} {vs : List Value} {xs : List (List Value)} {s : Sym} {a1 : Option Addr} {a1cap : Nat} (H : IsR w B rb st V Sa Sb vs xs)
    (hap : Appended (w.drewN nd) B 133 3 V.a (st.atom.length + 1) (symsCells st.atom ++ [.string ⟨s.name.toArray⟩, .int .i64 s.num, .int .i64 s.args]) (.slice a1 (st.atom.length + 1) a1cap) w1) :
    IsR (w1.setCell ⟨rb, 3, none⟩ (.slice a1 (st.atom.length + 1) a1cap)) B rb { st with atom := st.atom ++ [s] } { V with a := .slice a1 (st.atom.length + 1) a1cap } Sa Sb vs xs ∧ Held B w (w1.setCell ⟨rb, 3, none⟩ (.slice a1 (st.atom.length + 1) a1cap)) := by
  have hat := H.rest.atom
  have hblk1 := blk_after0 hap.kept H.blk (owns_apart hat (by decide) H.blk)
  have hk : Kept (touch rb V.a) w (w1.setCell ⟨rb, 3, none⟩ (.slice a1 (st.atom.length + 1) a1cap)) := touch_put (((Kept.refl _ w).drewN _).trans hap.kept) 3 _
  have hrow : (w1.setCell ⟨rb, 3, none⟩ (.slice a1 (st.atom.length + 1) a1cap)).ownsRow B 133 3 (.slice a1 (st.atom.length + 1) a1cap) (st.atom ++ [s]).length (symsCells (st.atom ++ [s])) := by
    have h2 := hap.owns
    have h3 := ((Kept.refl (only rb) w1).put 3 (.slice a1 (st.atom.length + 1) a1cap)).owns h2 (fun k hko e => by
      have e : k = rb := e
      rw [e] at hko
      exact owns_apart h2 (by decide) hblk1 hko)
    simpa [symsCells, symCells] using h3
  have hta : ∀ k, (Value.slice a1 (st.atom.length + 1) a1cap).ownBlock = some k → Sa ≤ k := by
    intro k hk
    rcases hap.where_ with hw | ⟨g, hw, hg⟩
    · exact H.rest.ta k (by rw [← hw]; exact hk)
    · rw [hk] at hw
      simp at hw
      have := H.rest.la
      have hg' : w.heap.size ≤ g := by simpa using hg
      omega
  exact ⟨H.atoms hk (st.atom ++ [s]) (.slice a1 (st.atom.length + 1) a1cap) (block_set hblk1 3 _) hrow hta, H.below hk hat (by decide)⟩

set_option maxRecDepth 10000 in
set_option maxHeartbeats 1000000 in
theorem add_in (w : World) (B rb : Nat) (st : RS) (s : Sym) (n : Nat) (r : List Nat) (h : IsRx w B rb st) (hb : RBd st) (ho : st.opn = n :: r) (hn : n < st.atom.length) :
    Calls Tryz.prog 168 #[.pointer (some ⟨rb, 0, none⟩), .agg #[.string ⟨s.name.toArray⟩, .int .i64 s.num, .int .i64 s.args]] w fun e w' => e = .returned (.tuple #[]) ∧ IsRx w' B rb (addS st s) ∧ Held B w w' := by
  obtain ⟨V, Sa, Sb, vs, xs, h⟩ := h
  have hrb := lt_of_block h.blk
  have hBw : B ≤ w.heap.size := by have := h.le; omega
  have hla := hb.atom
  obtain ⟨so, hso⟩ : ∃ so, st.atom[n]? = some so := ⟨_, List.getElem?_eq_getElem hn⟩
  have hargs := hb.args so (List.mem_of_getElem? hso)
  have HW : ∀ o, ROpen (w.alloc o) B rb st V := fun o => h.opens.later (S := noBlock) ((Kept.refl _ w).alloc o) (fun h => h) (fun _ _ h => h) (fun _ _ h => h)
  have HO := hide' (fun o => owner_any (w.alloc o) B rb st V (HW o) hb.opn hb.atom)
  have Hoi : Hid (ownerI st = n) := by show _ = _; simp [ownerI, ho]; omega
  have H := hide' h
  have Ho := hide' ho
  have Hso := hide' hso
  clear h HW ho hso
  go_enter Tryz.func168, Tryz.ntmps168
  go_wp2_with fail
  refine (HO.out _).mono ?_
  rintro e w1 ⟨rfl, nd, hw1⟩
  rw [Hoi.out]
  have hk1 : Kept noBlock w w1 := by rw [hw1]; exact ((Kept.refl _ w).alloc _).drewN _
  have b0 : w1.cell? ⟨w.heap.size, 0, none⟩ = some (.string ⟨s.name.toArray⟩) := by rw [hw1]; exact cell_alloc_new w _ _ 0 _ rfl
  have b1 : w1.cell? ⟨w.heap.size, 1, none⟩ = some (.int .i64 s.num) := by rw [hw1]; exact cell_alloc_new w _ _ 1 _ rfl
  have b2 : w1.cell? ⟨w.heap.size, 2, none⟩ = some (.int .i64 s.args) := by rw [hw1]; exact cell_alloc_new w _ _ 2 _ rfl
  have hsz1 : w.heap.size < w1.heap.size := by rw [hw1]; show w.heap.size < (w.alloc _).heap.size; simp
  clear hw1
  have h1 := H.out.fresh hk1
  obtain ⟨aa, acap, hva⟩ := owns_slice h1.rest.atom
  have hat := h1.rest.atom
  rw [hva] at hat
  obtain ⟨g, gcap, gcur, he, hBg, hg, hcap⟩ := owns_some hat (by omega)
  simp only [Value.slice.injEq] at he
  obtain ⟨rfl, _, rfl⟩ := he
  have hgl : g < w.heap.size := (H.out.rest.atom.lt g (by rw [hva]; rfl)).2
  have hgb : ¬ rb = g := fun e => by subst e; exact owns_apart hat (by decide) h1.blk rfl
  have cg : w1.cell? ⟨g, n * 3 + 2, none⟩ = some (.int .i64 so.args) := owns_cell hat _ _ (by rw [symsCells_at _ n so Hso.out 2 (by omega)]; rfl)
  have fg := thawed_of_block hg (n * 3 + 2)
  have c3 : w1.cell? ⟨rb, 3, none⟩ = some V.a := h1.opens.facts.2.2.2.1
  rw [hva] at c3
  obtain ⟨hR1, hB1⟩ := h1.counted Ho.out Hso.out hva
  have Hat1 : Hid ((w1.setCell ⟨g, n * 3 + 2, none⟩ (.int .i64 ((so.args : Int) + 1))).ownsRow B 133 3 (.slice (some ⟨g, 0, none⟩) st.atom.length acap) (bumpS st).length (symsCells (bumpS st))) := by
    have h2 := hR1.rest.atom
    simp only at h2
    rw [hva] at h2
    exact h2
  have hbl : (bumpS st).length = st.atom.length := by simp [bumpS, Ho.out]
  have Hbl := hide' hbl
  have Hat2 := Hat1.out
  rw [hbl] at Hat2
  have HAT := hide' Hat2
  have HB1 := hide' ((Held.fresh hk1 hBw).trans hB1)
  have H1 := hide' hR1
  have Hva := hide' hva
  have hsz2 : B ≤ w1.heap.size := by omega
  have hrb1 : rb < w1.heap.size := by omega
  have hg1 : g < w1.heap.size := by omega
  clear h1 hat hva hg hR1 hB1 Hat1 Hat2 hbl hk1
  go_wp2_with fail
  go_region_law (refine step_append1 ((w1.setCell ⟨g, n * 3 + 2, none⟩ (.int .i64 ((so.args : Int) + 1))).drewN 1) rfl (.tmp 24) (.tmp 26) 105 rfl B 133 Tryz.infoSym Tryz.underlying105 rfl (by decide) (.slice (some ⟨g, 0, none⟩) st.atom.length acap) st.atom.length (symsCells (bumpS st)) rfl HAT.out #[.string ⟨s.name.toArray⟩, .int .i64 s.num, .int .i64 s.args] rfl (by simp) rfl (sym_one _ _ _) (by omega) (by simp; omega) rfl ?_; intro v' w2 hap; obtain ⟨a1, a1cap, rfl⟩ := owns_slice hap.owns; have hblk1 := blk_after0 hap.kept H1.out.blk (owns_apart HAT.out (by decide) H1.out.blk); have d3 : w2.cell? ⟨rb, 3, none⟩ = some V.a := cell_of_block hblk1 3 _ rfl; have df := fun i => thawed_of_block hblk1 i; have Hap := hide' hap; clear hap hblk1)
  all_goals
    go_end0
    have hap := Hap.out
    rw [← Hva.out] at hap
    rw [← Hbl.out] at hap
    obtain ⟨hR, hB⟩ := add_done0 H1.out hap
    simp only [Hbl.out] at hR hB
    exact ⟨rfl, ⟨_, Sa, Sb, vs, xs, hR⟩, HB1.out.trans hB⟩

end Go.Proofs.YtlmjilpjmgjjcaaGreatDoor
