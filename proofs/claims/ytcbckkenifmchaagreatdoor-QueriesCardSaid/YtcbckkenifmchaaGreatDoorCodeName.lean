/-
  PROVED HERE: what the program's 'clause.VariableName' and 'clause.symbolText' answer (the conditions stand in each statement).
-/
import Derived.Test.YtcbckkenifmchaaGreatDoorRefWritten
namespace Go.Proofs.YtcbckkenifmchaaGreatDoor
open Go.RowKit
set_option linter.unusedSimpArgs false
set_option linter.unusedVariables false

theorem digits_cut (n : Nat) (h : n < 10) : (⟨#[48, 49, 50, 51, 52, 53, 54, 55, 56, 57, 97, 98, 99, 100, 101, 102, 103, 104, 105, 106, 107, 108, 109, 110, 111, 112, 113, 114, 115, 116, 117, 118, 119, 120, 121, 122]⟩ : ByteArray).extract n (n + 1) = ⟨(Lib.decDigits n).toArray⟩ := by
  have : ∀ n, n < 10 → ((⟨#[48, 49, 50, 51, 52, 53, 54, 55, 56, 57, 97, 98, 99, 100, 101, 102, 103, 104, 105, 106, 107, 108, 109, 110, 111, 112, 113, 114, 115, 116, 117, 118, 119, 120, 121, 122]⟩ : ByteArray).extract n (n + 1)).data.toList = [UInt8.ofNat (48 + n)] := by decide +kernel
  apply ByteArray.ext
  apply Array.ext'
  rw [this n h, Lib.decDigits, dif_pos h]
set_option maxRecDepth 20000 in
theorem smalls_cut (n : Nat) (h : n < 100) (h10 : ¬ n < 10) : (⟨#[48, 48, 48, 49, 48, 50, 48, 51, 48, 52, 48, 53, 48, 54, 48, 55, 48, 56, 48, 57, 49, 48, 49, 49, 49, 50, 49, 51, 49, 52, 49, 53, 49, 54, 49, 55, 49, 56, 49, 57, 50, 48, 50, 49, 50, 50, 50, 51, 50, 52, 50, 53, 50, 54, 50, 55, 50, 56, 50, 57, 51, 48, 51, 49, 51, 50, 51, 51, 51, 52, 51, 53, 51, 54, 51, 55, 51, 56, 51, 57, 52, 48, 52, 49, 52, 50, 52, 51, 52, 52, 52, 53, 52, 54, 52, 55, 52, 56, 52, 57, 53, 48, 53, 49, 53, 50, 53, 51, 53, 52, 53, 53, 53, 54, 53, 55, 53, 56, 53, 57, 54, 48, 54, 49, 54, 50, 54, 51, 54, 52, 54, 53, 54, 54, 54, 55, 54, 56, 54, 57, 55, 48, 55, 49, 55, 50, 55, 51, 55, 52, 55, 53, 55, 54, 55, 55, 55, 56, 55, 57, 56, 48, 56, 49, 56, 50, 56, 51, 56, 52, 56, 53, 56, 54, 56, 55, 56, 56, 56, 57, 57, 48, 57, 49, 57, 50, 57, 51, 57, 52, 57, 53, 57, 54, 57, 55, 57, 56, 57, 57]⟩ : ByteArray).extract (n * 2) (n * 2 + 2) = ⟨(Lib.decDigits n).toArray⟩ := by
  have : ∀ n, n < 100 → ((⟨#[48, 48, 48, 49, 48, 50, 48, 51, 48, 52, 48, 53, 48, 54, 48, 55, 48, 56, 48, 57, 49, 48, 49, 49, 49, 50, 49, 51, 49, 52, 49, 53, 49, 54, 49, 55, 49, 56, 49, 57, 50, 48, 50, 49, 50, 50, 50, 51, 50, 52, 50, 53, 50, 54, 50, 55, 50, 56, 50, 57, 51, 48, 51, 49, 51, 50, 51, 51, 51, 52, 51, 53, 51, 54, 51, 55, 51, 56, 51, 57, 52, 48, 52, 49, 52, 50, 52, 51, 52, 52, 52, 53, 52, 54, 52, 55, 52, 56, 52, 57, 53, 48, 53, 49, 53, 50, 53, 51, 53, 52, 53, 53, 53, 54, 53, 55, 53, 56, 53, 57, 54, 48, 54, 49, 54, 50, 54, 51, 54, 52, 54, 53, 54, 54, 54, 55, 54, 56, 54, 57, 55, 48, 55, 49, 55, 50, 55, 51, 55, 52, 55, 53, 55, 54, 55, 55, 55, 56, 55, 57, 56, 48, 56, 49, 56, 50, 56, 51, 56, 52, 56, 53, 56, 54, 56, 55, 56, 56, 56, 57, 57, 48, 57, 49, 57, 50, 57, 51, 57, 52, 57, 53, 57, 54, 57, 55, 57, 56, 57, 57]⟩ : ByteArray).extract (n * 2) (n * 2 + 2)).data.toList = [UInt8.ofNat (48 + n / 10), UInt8.ofNat (48 + n % 10)] := by decide +kernel
  apply ByteArray.ext
  apply Array.ext'
  rw [this n h, Lib.decDigits, dif_neg h10, Lib.decDigits, dif_pos (by omega)]
  rfl
theorem letter_enc (n : Nat) : Utf8.encode (65 + (n : Int) % 26) = ⟨[UInt8.ofNat (65 + n % 26)].toArray⟩ := by
  have : ∀ m : Nat, m < 26 → (Utf8.encode (65 + (m : Int))).data.toList = [UInt8.ofNat (65 + m)] := by decide +kernel
  rw [show (n : Int) % 26 = ((n % 26 : Nat) : Int) from by omega]
  apply ByteArray.ext
  apply Array.ext'
  rw [this (n % 26) (by omega)]

set_option maxRecDepth 20000 in
set_option maxHeartbeats 1000000 in
theorem small_any (n : Nat) (w : World) (h : n < 100) : Calls Tryz.prog 97 #[.int .i64 n] w fun e w' => e = .returned (.string ⟨(Lib.decDigits n).toArray⟩) ∧ w' = w := by
  by_cases h10 : n < 10
  · go_enter Tryz.func97, Tryz.ntmps97
    go_wp2
    go_ret
    exact ⟨ret_str (digits_cut n h10), rfl⟩
  · go_enter Tryz.func97, Tryz.ntmps97
    go_wp2
    go_ret
    exact ⟨ret_str (smalls_cut n h h10), rfl⟩

set_option maxHeartbeats 1000000 in
theorem format_any (n : Nat) (w : World) (h : n < 100) : Calls Tryz.prog 76 #[.int .i64 n, .int .i64 10] w fun e w' => e = .returned (.string ⟨(Lib.decDigits n).toArray⟩) ∧ w' = w := by
  go_enter Tryz.func76, Tryz.ntmps76
  go_wp2_with fail
  refine (small_any n _ h).mono ?_
  rintro e w' ⟨rfl, rfl⟩
  go_wp2
  go_ret
  exact ⟨rfl, rfl⟩
theorem itoai_any (n : Nat) (w : World) (h : n < 100) : Calls Tryz.prog 57 #[.int .i64 n] w fun e w' => e = .returned (.string ⟨(Lib.decDigits n).toArray⟩) ∧ w' = w := by
  go_enter Tryz.func57, Tryz.ntmps57
  go_wp2_with fail
  refine (format_any n _ h).mono ?_
  rintro e w' ⟨rfl, rfl⟩
  go_wp2
  go_ret
  exact ⟨rfl, rfl⟩
theorem itoa_any (n : Nat) (w : World) (h : n < 100) : Calls Tryz.prog 30 #[.int .i64 n] w fun e w' => e = .returned (.string ⟨(Lib.decDigits n).toArray⟩) ∧ w' = w := by
  go_enter Tryz.func30, Tryz.ntmps30
  go_wp2_with fail
  refine (itoai_any n _ h).mono ?_
  rintro e w' ⟨rfl, rfl⟩
  go_wp2
  go_ret
  exact ⟨rfl, rfl⟩

set_option maxRecDepth 10000 in
set_option maxHeartbeats 1000000 in
theorem varName_any (n : Nat) (w : World) (h : n < 2600) : Calls Tryz.prog 138 #[.int .i64 n] w fun e w' => e = .returned (.string ⟨(calledL n).toArray⟩) ∧ w' = w := by
  by_cases h26 : n < 26
  · have hd : (n : Int) / 26 = 0 := by omega
    go_enter Tryz.func138, Tryz.ntmps138
    go_wp2
    go_ret
    refine ⟨ret_str ((letter_enc n).trans ?_), rfl⟩
    rw [calledL, if_pos h26, Nat.mod_eq_of_lt h26]
  · have hd : ((n : Int) / 26 == 0) = false := by rw [beq_eq_false_iff_ne]; omega
    go_enter Tryz.func138, Tryz.ntmps138
    go_wp2_with fail
    refine (itoa_any (n / 26) _ (by omega)).mono ?_
    rintro e w' ⟨rfl, rfl⟩
    have hlen := dec_len (n / 26)
    have henc := letter_enc n
    have Henc := hide' henc
    have hsz : (Utf8.encode (65 + (n : Int) % 26)).size = 1 := by rw [henc]; rfl
    clear henc
    go_wp2
    go_ret
    refine ⟨ret_str ?_, rfl⟩
    show Utf8.encode (65 + (n : Int) % 26) ++ _ = _
    rw [Henc.out, str_cat, calledL, if_neg h26]
    rfl

/-- How the program writes a symbol. -/
def symC (s : Sym) : List UInt8 := if s.name = [] then calledL s.num else s.name

set_option maxRecDepth 10000 in
set_option maxHeartbeats 1000000 in
theorem symbolText_any (s : Sym) (w : World) (h : s.num < 2600) : Calls Tryz.prog 113 #[.agg #[.string ⟨s.name.toArray⟩, .int .i64 s.num, .int .i64 s.args]] w fun e w' => e = .returned (.string ⟨(symC s).toArray⟩) ∧ Below w.heap.size w w' := by
  cases hn : s.name with
  | nil =>
    have Hc : Hid (symC s = calledL s.num) := by show _ = _; simp [symC, hn]
    clear hn
    go_enter Tryz.func113, Tryz.ntmps113
    go_wp2_with fail
    refine (varName_any s.num _ h).mono ?_
    rintro e w' ⟨rfl, rfl⟩
    go_wp2
    go_ret
    rw [Hc.out]
    exact ⟨rfl, (Below.refl _ _).alloc (Nat.le_refl _) _⟩
  | cons c r =>
    have Hc : Hid (symC s = c :: r) := by show _ = _; simp [symC, hn]
    clear hn
    go_enter Tryz.func113, Tryz.ntmps113
    go_wp2
    go_ret
    rw [Hc.out]
    exact ⟨rfl, (Below.refl _ _).alloc (Nat.le_refl _) _⟩

end Go.Proofs.YtcbckkenifmchaaGreatDoor
