/-
  PROVED HERE: what the reference's 'decimal' and 'called' answer, at every number that is not negative (and below a bound that no text reaches); the world stays as it was.
-/
import Derived.Test.YtcbckkenifmchaaGreatDoorMem
import Derived.Test.YtcbckkenifmchaaGreatDoorPure
import Derived.Lib.Strings
import Derived.Lib.ItoaNum
namespace Go.Proofs.YtcbckkenifmchaaGreatDoor
open Go.RowKit
set_option linter.unusedSimpArgs false
set_option linter.unusedVariables false

theorem str_cat (a b : List UInt8) : (⟨a.toArray⟩ : ByteArray) ++ ⟨b.toArray⟩ = ⟨(a ++ b).toArray⟩ := by
  apply ByteArray.ext
  simp [ByteArray.data_append]
theorem ret_str {a b : ByteArray} (h : a = b) : Ending.returned (.string a) = .returned (.string b) := by rw [h]
theorem digit_cut (m : Nat) (h : m < 10) : (⟨#[48, 49, 50, 51, 52, 53, 54, 55, 56, 57]⟩ : ByteArray).extract m (m + 1) = ⟨[UInt8.ofNat (48 + m)].toArray⟩ := by
  have : ∀ m, m < 10 → ((⟨#[48, 49, 50, 51, 52, 53, 54, 55, 56, 57]⟩ : ByteArray).extract m (m + 1)).data.toList = [UInt8.ofNat (48 + m)] := by decide
  apply ByteArray.ext
  apply Array.ext'
  rw [this m h]
theorem letter_cut (m : Nat) (h : m < 26) : great.extract m (m + 1) = ⟨[UInt8.ofNat (65 + m)].toArray⟩ := by
  have : ∀ m, m < 26 → (great.extract m (m + 1)).data.toList = [UInt8.ofNat (65 + m)] := by decide +kernel
  apply ByteArray.ext
  apply Array.ext'
  rw [this m h]

theorem dec_len (n : Nat) : (Lib.decDigits n).length ≤ n + 1 := by
  induction n using Nat.strongRecOn with
  | ind n ih =>
    rw [Lib.decDigits]
    split
    · simp
    · have := ih (n / 10) (by omega)
      simp only [List.length_append, List.length_cons, List.length_nil]
      omega

def DecSaid (n : Nat) : Prop := ∀ w : World, Calls Tryz.prog 52 #[.int .i64 n] w fun e w' => e = .returned (.string ⟨(Lib.decDigits n).toArray⟩) ∧ w' = w

set_option maxHeartbeats 400000 in
theorem decimal_lo (n : Nat) (hn : n < 10) : DecSaid n := by
  intro w
  have Hd := (show Hid _ from digit_cut (n % 10) (by omega))
  go_enter Tryz.func52, Tryz.ntmps52
  go_wp2
  go_ret
  refine ⟨ret_str (Hd.out.trans ?_), rfl⟩
  rw [Lib.decDigits, dif_pos hn, Nat.mod_eq_of_lt hn]

set_option maxHeartbeats 400000 in
theorem decimal_hi (n : Nat) (hn : ¬ n < 10) (hb : n < 1000000000) (ih : DecSaid (n / 10)) : DecSaid n := by
  intro w
  have Hd := (show Hid _ from digit_cut (n % 10) (by omega))
  have Hih := (show Hid _ from ih)
  clear ih
  have hlen := dec_len (n / 10)
  go_enter Tryz.func52, Tryz.ntmps52
  go_wp2_with fail
  refine (Hih.out _).mono ?_
  rintro e w' ⟨rfl, rfl⟩
  go_wp2
  go_ret
  refine ⟨ret_str ?_, rfl⟩
  rw [Hd.out, str_cat]
  congr 2
  conv => rhs; rw [Lib.decDigits, dif_neg hn]

theorem decimal_any (n : Nat) (hb : n < 1000000000) : DecSaid n := by
  induction n using Nat.strongRecOn with
  | ind n ih =>
    by_cases hn : n < 10
    · exact decimal_lo n hn
    · exact decimal_hi n hn hb (ih (n / 10) (by omega) (by omega))

/-- The n-th name for a variable. -/
def calledL (n : Nat) : List UInt8 := if n < 26 then [UInt8.ofNat (65 + n)] else UInt8.ofNat (65 + n % 26) :: Lib.decDigits (n / 26)

set_option maxHeartbeats 400000 in
theorem called_any (n : Nat) (w : World) (hb : n < 1000000000) :
    Calls Tryz.prog 64 #[.int .i64 n] w fun e w' => e = .returned (.string ⟨(calledL n).toArray⟩) ∧ w' = w := by
  have Hd := (show Hid _ from letter_cut (n % 26) (by omega))
  by_cases h : n < 26
  · go_enter Tryz.func64, Tryz.ntmps64
    go_wp2
    go_ret
    refine ⟨ret_str (Hd.out.trans ?_), rfl⟩
    rw [calledL, if_pos h, Nat.mod_eq_of_lt h]
  · go_enter Tryz.func64, Tryz.ntmps64
    go_wp2_with fail
    refine (decimal_any (n / 26) (by omega) _).mono ?_
    rintro e w' ⟨rfl, rfl⟩
    have hlen := dec_len (n / 26)
    go_wp2
    go_ret
    refine ⟨ret_str ?_, rfl⟩
    show great.extract (n % 26) (n % 26 + 1) ++ _ = _
    rw [Hd.out, str_cat, calledL, if_neg h]
    rfl

end Go.Proofs.YtcbckkenifmchaaGreatDoor
