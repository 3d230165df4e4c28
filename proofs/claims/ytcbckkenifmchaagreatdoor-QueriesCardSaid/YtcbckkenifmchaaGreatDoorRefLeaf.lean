/-
  PROVED HERE: what the reference's 'in' and 'word' answer, in any world, at every byte and string (no conditions but that a string is no longer than a string may be); the world stays as it was.
-/
import Derived.Test.YtcbckkenifmchaaGreatDoorMem
import Derived.Test.YtcbckkenifmchaaGreatDoorPure
namespace Go.Proofs.YtcbckkenifmchaaGreatDoor
open Go.RowKit

theorem ret_int {k : IntKind} {a b : Int} (h : a = b) : Ending.returned (.int k a) = .returned (.int k b) := by rw [h]
theorem ret_bool {a b : Bool} (h : a = b) : Ending.returned (.bool a) = .returned (.bool b) := by rw [h]

set_option maxHeartbeats 400000 in
theorem in_any (c : UInt8) (s : ByteArray) (w : World) (hs : s.size ≤ maxLen) :
    Calls Tryz.prog 82 #[.int .u8 c.toNat, .string s] w fun e w' => e = .returned (.bool (inB c s)) ∧ w' = w := by
  unfold maxLen at hs
  go_enter Tryz.func82, Tryz.ntmps82
  go_wp2
  go_loop [5] (fun i => ∃ k : Nat, k ≤ s.size ∧ i = .int .i64 k ∧ (s.data.toList.take k).contains c = false) (fun i => s.size - (intOf i).toNat)
  case atStart => exact ⟨0, Nat.zero_le _, rfl, rfl⟩
  case round =>
    obtain ⟨k, hk, rfl, hn⟩ := hrel
    have Hn : Hid ((s.data.toList.take k).contains c = false) := hn
    clear hn
    by_cases hlt : k < s.size
    · go_wp2
      · go_ret
        exact ⟨ret_bool (in_hit hlt (by assumption)).symm, rfl⟩
      · go_round
        case rel => exact ⟨k + 1, by omega, by go_num, in_on hlt (by assumption) Hn.out⟩
        case measure => simp [intOf]; omega
    · go_wp2
      go_ret
      exact ⟨ret_bool (in_end hlt Hn.out).symm, rfl⟩

set_option maxHeartbeats 400000 in
theorem word_any (s : ByteArray) (n : Nat) (w : World) (hs : s.size ≤ maxLen) (hn : n ≤ s.size) :
    Calls Tryz.prog 83 #[.string s, .int .i64 n] w fun e w' => e = .returned (.int .i64 ((n + wordLen (s.data.toList.drop n) : Nat) : Int)) ∧ w' = w := by
  unfold maxLen at hs
  go_enter Tryz.func83, Tryz.ntmps83
  go_wp2
  go_loop [1] (fun i => ∃ k : Nat, k ≤ s.size ∧ i = .int .i64 k ∧ n + wordLen (s.data.toList.drop n) = k + wordLen (s.data.toList.drop k)) (fun i => s.size - (intOf i).toNat)
  case atStart => exact ⟨n, hn, rfl, rfl⟩
  case round =>
    obtain ⟨k, hk, rfl, hn⟩ := hrel
    have Hn : Hid (n + wordLen (s.data.toList.drop n) = k + wordLen (s.data.toList.drop k)) := hn
    clear hn
    by_cases hlt : k < s.size
    · have hd := drop_cons s k hlt
      by_cases hin : inB s[k] alnum = true
      · have Hd : Hid (wordLen (s.data.toList.drop k) = wordLen (s.data.toList.drop (k + 1)) + 1) := by
          show _ = _; rw [hd]; exact wordLen_yes _ _ hin
        clear hd
        go_wp2_with (go_at_call 82; refine (in_any _ alnum _ (by decide)).mono ?_; rintro e w' ⟨rfl, rfl⟩)
        go_round
        case rel => exact ⟨k + 1, by omega, by go_num, by have h1 := Hn.out; have h2 := Hd.out; omega⟩
        case measure => simp [intOf]; omega
      · have hin' : inB s[k] alnum = false := by simpa using hin
        have Hd : Hid (wordLen (s.data.toList.drop k) = 0) := by
          show _ = _; rw [hd]; exact wordLen_no _ _ hin'
        clear hd hin
        go_wp2_with (go_at_call 82; refine (in_any _ alnum _ (by decide)).mono ?_; rintro e w' ⟨rfl, rfl⟩)
        go_ret
        exact ⟨ret_int (by have h1 := Hn.out; have h2 := Hd.out; omega), rfl⟩
    · have Hd : Hid (wordLen (s.data.toList.drop k) = 0) := by
        show _ = _; rw [drop_none s k hlt]; rfl
      go_wp2
      go_ret
      exact ⟨ret_int (by have h1 := Hn.out; have h2 := Hd.out; omega), rfl⟩

end Go.Proofs.YtcbckkenifmchaaGreatDoor
