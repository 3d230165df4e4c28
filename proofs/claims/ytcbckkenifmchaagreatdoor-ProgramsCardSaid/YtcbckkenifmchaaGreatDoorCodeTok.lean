/-
  PROVED HERE: what the functions of the program's package token answer (the conditions stand in each statement).
-/
import Derived.Test.YtcbckkenifmchaaGreatDoorRefQuery
import Derived.Deep.QuietTactic
namespace Go.Proofs.YtcbckkenifmchaaGreatDoor
open Go.RowKit
set_option linter.unusedSimpArgs false
set_option linter.unusedVariables false

def digits : ByteArray := ⟨#[48, 49, 50, 51, 52, 53, 54, 55, 56, 57]⟩

theorem little_iff (c : UInt8) : inB c little = decide (97 ≤ c.toNat ∧ c.toNat ≤ 122) := by
  have := allBytes (p := fun c => inB c little == decide (97 ≤ c.toNat ∧ c.toNat ≤ 122)) (by decide +kernel) c
  exact eq_of_beq this
theorem great_iff (c : UInt8) : inB c great = decide (65 ≤ c.toNat ∧ c.toNat ≤ 90) := by
  have := allBytes (p := fun c => inB c great == decide (65 ≤ c.toNat ∧ c.toNat ≤ 90)) (by decide +kernel) c
  exact eq_of_beq this
theorem digits_iff (c : UInt8) : inB c digits = decide (48 ≤ c.toNat ∧ c.toNat ≤ 57) := by
  have := allBytes (p := fun c => inB c digits == decide (48 ≤ c.toNat ∧ c.toNat ≤ 57)) (by decide +kernel) c
  exact eq_of_beq this
theorem alnum_iff (c : UInt8) : inB c alnum = (inB c little || inB c great || inB c digits) := by
  have := allBytes (p := fun c => inB c alnum == (inB c little || inB c great || inB c digits)) (by decide +kernel) c
  exact eq_of_beq this

set_option maxHeartbeats 400000 in
theorem isBlank_any (c : UInt8) (w : World) : Calls Tryz.prog 131 #[.int .u8 c.toNat] w fun e w' => e = .returned (.bool (blank c)) ∧ w' = w := by
  cases hb : blank c
  · obtain ⟨h1, h2⟩ := not_blank hb
    go_enter Tryz.func131, Tryz.ntmps131
    go_wp2
    go_ret
    exact ⟨rfl, rfl⟩
  · rcases blank_facts hb with h1 | ⟨h1, h2⟩
    all_goals
      go_enter Tryz.func131, Tryz.ntmps131
      go_wp2
      go_ret
      exact ⟨rfl, rfl⟩

set_option maxHeartbeats 400000 in
theorem isSmall_any (c : UInt8) (w : World) : Calls Tryz.prog 132 #[.int .u8 c.toNat] w fun e w' => e = .returned (.bool (inB c little)) ∧ w' = w := by
  rw [little_iff]
  by_cases h1 : (97 : Int) ≤ (c.toNat : Int)
  · by_cases h2 : (c.toNat : Int) ≤ 122
    all_goals
      go_enter Tryz.func132, Tryz.ntmps132
      go_wp2
      go_ret
      exact ⟨ret_bool (by symm; simp; omega), rfl⟩
  · go_enter Tryz.func132, Tryz.ntmps132
    go_wp2
    go_ret
    exact ⟨ret_bool (by symm; simp; omega), rfl⟩

set_option maxHeartbeats 400000 in
theorem isCapital_any (c : UInt8) (w : World) : Calls Tryz.prog 133 #[.int .u8 c.toNat] w fun e w' => e = .returned (.bool (inB c great)) ∧ w' = w := by
  rw [great_iff]
  by_cases h1 : (65 : Int) ≤ (c.toNat : Int)
  · by_cases h2 : (c.toNat : Int) ≤ 90
    all_goals
      go_enter Tryz.func133, Tryz.ntmps133
      go_wp2
      go_ret
      exact ⟨ret_bool (by symm; simp; omega), rfl⟩
  · go_enter Tryz.func133, Tryz.ntmps133
    go_wp2
    go_ret
    exact ⟨ret_bool (by symm; simp; omega), rfl⟩

set_option maxHeartbeats 400000 in
theorem isDigit_any (c : UInt8) (w : World) : Calls Tryz.prog 155 #[.int .u8 c.toNat] w fun e w' => e = .returned (.bool (inB c digits)) ∧ w' = w := by
  rw [digits_iff]
  by_cases h1 : (48 : Int) ≤ (c.toNat : Int)
  · by_cases h2 : (c.toNat : Int) ≤ 57
    all_goals
      go_enter Tryz.func155, Tryz.ntmps155
      go_wp2
      go_ret
      exact ⟨ret_bool (by symm; simp; omega), rfl⟩
  · go_enter Tryz.func155, Tryz.ntmps155
    go_wp2
    go_ret
    exact ⟨ret_bool (by symm; simp; omega), rfl⟩

set_option maxHeartbeats 400000 in
theorem isWord_any (c : UInt8) (w : World) : Calls Tryz.prog 151 #[.int .u8 c.toNat] w fun e w' => e = .returned (.bool (inB c alnum)) ∧ w' = w := by
  rw [alnum_iff]
  cases h1 : inB c little
  · cases h2 : inB c great
    · go_enter Tryz.func151, Tryz.ntmps151
      go_wp2_with (first | (go_at_call 132; refine (isSmall_any _ _).mono ?_; rintro e w' ⟨rfl, rfl⟩) | (go_at_call 133; refine (isCapital_any _ _).mono ?_; rintro e w' ⟨rfl, rfl⟩) | (go_at_call 155; refine (isDigit_any _ _).mono ?_; rintro e w' ⟨rfl, rfl⟩))
      go_ret
      exact ⟨rfl, rfl⟩
    · go_enter Tryz.func151, Tryz.ntmps151
      go_wp2_with (first | (go_at_call 132; refine (isSmall_any _ _).mono ?_; rintro e w' ⟨rfl, rfl⟩) | (go_at_call 133; refine (isCapital_any _ _).mono ?_; rintro e w' ⟨rfl, rfl⟩) | (go_at_call 155; refine (isDigit_any _ _).mono ?_; rintro e w' ⟨rfl, rfl⟩))
      go_ret
      exact ⟨rfl, rfl⟩
  · go_enter Tryz.func151, Tryz.ntmps151
    go_wp2_with (first | (go_at_call 132; refine (isSmall_any _ _).mono ?_; rintro e w' ⟨rfl, rfl⟩) | (go_at_call 133; refine (isCapital_any _ _).mono ?_; rintro e w' ⟨rfl, rfl⟩) | (go_at_call 155; refine (isDigit_any _ _).mono ?_; rintro e w' ⟨rfl, rfl⟩))
    go_ret
    exact ⟨rfl, rfl⟩

/-- The byte at a place; 0 behind the text. -/
def byteOr (s : ByteArray) (n : Nat) : UInt8 := (s.data.toList[n]?).getD 0
theorem byteOr_at (s : ByteArray) (n : Nat) (h : n < s.size) : byteOr s n = s[n] := by
  unfold byteOr
  rw [List.getElem?_eq_getElem (by simpa using h)]
  rfl
theorem byteOr_past (s : ByteArray) (n : Nat) (h : ¬ n < s.size) : byteOr s n = 0 := by
  unfold byteOr
  rw [List.getElem?_eq_none (by simp; omega)]
  rfl
theorem ret_byte {a b : UInt8} (h : a = b) : Ending.returned (.int .u8 (a.toNat : Int)) = .returned (.int .u8 (b.toNat : Int)) := by rw [h]

set_option maxHeartbeats 400000 in
theorem byteAt_any (s : ByteArray) (n : Nat) (w : World) (hs : s.size ≤ 4096) (hn : n ≤ 5000) : Calls Tryz.prog 102 #[.string s, .int .i64 n] w fun e w' => e = .returned (.int .u8 (byteOr s n).toNat) ∧ w' = w := by
  by_cases h : n < s.size
  · have Hb := (show Hid _ from byteOr_at s n h)
    go_enter Tryz.func102, Tryz.ntmps102
    go_wp2
    go_ret
    rw [Hb.out]
    exact ⟨rfl, rfl⟩
  · have Hb := (show Hid _ from byteOr_past s n h)
    go_enter Tryz.func102, Tryz.ntmps102
    go_wp2
    go_ret
    rw [Hb.out]
    exact ⟨rfl, rfl⟩

/-- How many blanks stand at the head. -/
def blanks : List UInt8 → Nat
  | [] => 0
  | c :: r => if blank c then blanks r + 1 else 0
theorem blanks_le (l : List UInt8) : blanks l ≤ l.length := by
  induction l with
  | nil => exact Nat.le_refl _
  | cons c r ih => unfold blanks; split <;> simp <;> omega

set_option maxHeartbeats 400000 in
theorem skipBlanks_any (s : ByteArray) (n : Nat) (w : World) (hs : s.size ≤ 4096) (hn : n ≤ s.size) : Calls Tryz.prog 101 #[.string s, .int .i64 n] w fun e w' => e = .returned (.int .i64 ((n + blanks (s.data.toList.drop n) : Nat) : Int)) ∧ w' = w := by
  go_enter Tryz.func101, Tryz.ntmps101
  go_wp2
  go_loop [1] (fun i => ∃ k : Nat, k ≤ s.size ∧ i = .int .i64 k ∧ n + blanks (s.data.toList.drop n) = k + blanks (s.data.toList.drop k)) (fun i => s.size - (intOf i).toNat)
  case atStart => exact ⟨n, hn, rfl, rfl⟩
  case round =>
    obtain ⟨k, hk, rfl, hn⟩ := hrel
    have Hn := (show Hid _ from hn)
    clear hn
    by_cases hlt : k < s.size
    · have hd := drop_cons s k hlt
      cases hb : blank s[k]
      · have Hd : Hid (blanks (s.data.toList.drop k) = 0) := by show _ = _; rw [hd, blanks, if_neg (by simp [hb])]
        clear hd
        go_wp2_with (go_at_call 131; refine (isBlank_any _ _).mono ?_; rintro e w' ⟨rfl, rfl⟩)
        go_ret
        exact ⟨ret_int (by have h1 := Hn.out; have h2 := Hd.out; omega), rfl⟩
      · have Hd : Hid (blanks (s.data.toList.drop k) = blanks (s.data.toList.drop (k + 1)) + 1) := by show _ = _; rw [hd, blanks, if_pos hb]
        clear hd
        go_wp2_with (go_at_call 131; refine (isBlank_any _ _).mono ?_; rintro e w' ⟨rfl, rfl⟩)
        go_round
        case rel => exact ⟨k + 1, by omega, by go_num, by have h1 := Hn.out; have h2 := Hd.out; omega⟩
        case measure => simp [intOf]; omega
    · have Hd : Hid (blanks (s.data.toList.drop k) = 0) := by show _ = _; rw [drop_none s k hlt]; rfl
      go_wp2
      go_ret
      exact ⟨ret_int (by have h1 := Hn.out; have h2 := Hd.out; omega), rfl⟩

theorem alnum_zero : inB 0 alnum = false := by decide +kernel

set_option maxHeartbeats 400000 in
theorem endOfWord_any (s : ByteArray) (n : Nat) (w : World) (hs : s.size ≤ 4096) (hn : n ≤ s.size) : Calls Tryz.prog 134 #[.string s, .int .i64 n] w fun e w' => e = .returned (.int .i64 ((n + wordLen (s.data.toList.drop n) : Nat) : Int)) ∧ w' = w := by
  go_enter Tryz.func134, Tryz.ntmps134
  go_wp2
  go_loop [1] (fun i => ∃ k : Nat, k ≤ s.size ∧ i = .int .i64 k ∧ n + wordLen (s.data.toList.drop n) = k + wordLen (s.data.toList.drop k)) (fun i => s.size - (intOf i).toNat)
  case atStart => exact ⟨n, hn, rfl, rfl⟩
  case round =>
    obtain ⟨k, hk, rfl, hn⟩ := hrel
    have Hn := (show Hid _ from hn)
    clear hn
    cases hb : inB (byteOr s k) alnum
    · have Hd : Hid (wordLen (s.data.toList.drop k) = 0) := by
        show _ = _
        by_cases hlt : k < s.size
        · rw [drop_cons s k hlt]
          rw [byteOr_at s k hlt] at hb
          exact wordLen_no _ _ hb
        · rw [drop_none s k hlt]; rfl
      go_wp2_with (first | (go_at_call 102; refine (byteAt_any _ _ _ hs (by omega)).mono ?_; rintro e w' ⟨rfl, rfl⟩) | (go_at_call 151; refine (isWord_any _ _).mono ?_; rintro e w' ⟨rfl, rfl⟩))
      go_ret
      exact ⟨ret_int (by have h1 := Hn.out; have h2 := Hd.out; omega), rfl⟩
    · have hlt : k < s.size := by
        rcases Nat.lt_or_ge k s.size with h | h
        · exact h
        · rw [byteOr_past s k (by omega), alnum_zero] at hb; cases hb
      have Hd : Hid (wordLen (s.data.toList.drop k) = wordLen (s.data.toList.drop (k + 1)) + 1) := by
        show _ = _
        rw [drop_cons s k hlt]
        rw [byteOr_at s k hlt] at hb
        exact wordLen_yes _ _ hb
      go_wp2_with (first | (go_at_call 102; refine (byteAt_any _ _ _ hs (by omega)).mono ?_; rintro e w' ⟨rfl, rfl⟩) | (go_at_call 151; refine (isWord_any _ _).mono ?_; rintro e w' ⟨rfl, rfl⟩))
      go_round
      case rel => exact ⟨k + 1, by omega, by go_num, by have h1 := Hn.out; have h2 := Hd.out; omega⟩
      case measure => simp [intOf]; omega

end Go.Proofs.YtcbckkenifmchaaGreatDoor
