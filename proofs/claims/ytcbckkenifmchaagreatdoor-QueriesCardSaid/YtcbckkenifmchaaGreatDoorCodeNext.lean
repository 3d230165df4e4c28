/-
  PROVED HERE: what the program's 'token.Next' and 'reader.textOf' answer (the conditions stand in each statement).
-/
import Derived.Test.YtcbckkenifmchaaGreatDoorCodeTok
namespace Go.Proofs.YtcbckkenifmchaaGreatDoor
open Go.RowKit
set_option linter.unusedSimpArgs false
set_option linter.unusedVariables false

/-- The kind of a token by its first byte and the next. -/
def kindC (c d : UInt8) : Nat :=
  if inB c little then 1 else if inB c great then 2 else if c = 40 then 3 else if c = 41 then 4 else if c = 44 then 5 else if c = 46 then 6 else if c = 58 ∧ d = 45 then 7 else 8

theorem byte_is {c k : UInt8} (h : c = k) : ((c.toNat : Int) == (k.toNat : Int)) = true := by subst h; simp
theorem byte_isnt {c k : UInt8} (h : ¬ c = k) : ((c.toNat : Int) == (k.toNat : Int)) = false := by
  rw [beq_eq_false_iff_ne]
  intro e
  exact h (UInt8.toNat_inj.1 (by omega))

set_option maxHeartbeats 800000 in
theorem kindOf_any (c d : UInt8) (w : World) : Calls Tryz.prog 103 #[.int .u8 c.toNat, .int .u8 d.toNat] w fun e w' => e = .returned (.int .i64 (kindC c d)) ∧ w' = w := by
  cases hA : inB c little
  case true =>
    have Hk : Hid (kindC c d = 1) := by show _ = _; simp [kindC, hA]
    go_enter Tryz.func103, Tryz.ntmps103
    go_wp2_with (first | (go_at_call 132; refine (isSmall_any _ _).mono ?_; rintro e w' ⟨rfl, rfl⟩) | (go_at_call 133; refine (isCapital_any _ _).mono ?_; rintro e w' ⟨rfl, rfl⟩))
    go_ret
    rw [Hk.out]
    exact ⟨rfl, rfl⟩
  case false =>
    cases hB : inB c great
    case true =>
      have Hk : Hid (kindC c d = 2) := by show _ = _; simp [kindC, hA, hB]
      go_enter Tryz.func103, Tryz.ntmps103
      go_wp2_with (first | (go_at_call 132; refine (isSmall_any _ _).mono ?_; rintro e w' ⟨rfl, rfl⟩) | (go_at_call 133; refine (isCapital_any _ _).mono ?_; rintro e w' ⟨rfl, rfl⟩))
      go_ret
      rw [Hk.out]
      exact ⟨rfl, rfl⟩
    case false =>
      by_cases h1 : c = 40
      · have Hk : Hid (kindC c d = 3) := by show _ = _; unfold kindC; rw [if_neg (by rw [hA]; simp), if_neg (by rw [hB]; simp), if_pos h1]
        have t1 : ((c.toNat : Int) == 40) = true := byte_is h1
        clear h1
        go_enter Tryz.func103, Tryz.ntmps103
        go_wp2_with (first | (go_at_call 132; refine (isSmall_any _ _).mono ?_; rintro e w' ⟨rfl, rfl⟩) | (go_at_call 133; refine (isCapital_any _ _).mono ?_; rintro e w' ⟨rfl, rfl⟩))
        go_ret
        rw [Hk.out]
        exact ⟨rfl, rfl⟩
      · have t1 : ((c.toNat : Int) == 40) = false := byte_isnt h1
        by_cases h2 : c = 41
        · have Hk : Hid (kindC c d = 4) := by show _ = _; unfold kindC; rw [if_neg (by rw [hA]; simp), if_neg (by rw [hB]; simp), if_neg h1, if_pos h2]
          have t2 : ((c.toNat : Int) == 41) = true := byte_is h2
          clear h1 h2
          go_enter Tryz.func103, Tryz.ntmps103
          go_wp2_with (first | (go_at_call 132; refine (isSmall_any _ _).mono ?_; rintro e w' ⟨rfl, rfl⟩) | (go_at_call 133; refine (isCapital_any _ _).mono ?_; rintro e w' ⟨rfl, rfl⟩))
          go_ret
          rw [Hk.out]
          exact ⟨rfl, rfl⟩
        · have t2 : ((c.toNat : Int) == 41) = false := byte_isnt h2
          by_cases h3 : c = 44
          · have Hk : Hid (kindC c d = 5) := by show _ = _; unfold kindC; rw [if_neg (by rw [hA]; simp), if_neg (by rw [hB]; simp), if_neg h1, if_neg h2, if_pos h3]
            have t3 : ((c.toNat : Int) == 44) = true := byte_is h3
            clear h1 h2 h3
            go_enter Tryz.func103, Tryz.ntmps103
            go_wp2_with (first | (go_at_call 132; refine (isSmall_any _ _).mono ?_; rintro e w' ⟨rfl, rfl⟩) | (go_at_call 133; refine (isCapital_any _ _).mono ?_; rintro e w' ⟨rfl, rfl⟩))
            go_ret
            rw [Hk.out]
            exact ⟨rfl, rfl⟩
          · have t3 : ((c.toNat : Int) == 44) = false := byte_isnt h3
            by_cases h4 : c = 46
            · have Hk : Hid (kindC c d = 6) := by show _ = _; unfold kindC; rw [if_neg (by rw [hA]; simp), if_neg (by rw [hB]; simp), if_neg h1, if_neg h2, if_neg h3, if_pos h4]
              have t4 : ((c.toNat : Int) == 46) = true := byte_is h4
              clear h1 h2 h3 h4
              go_enter Tryz.func103, Tryz.ntmps103
              go_wp2_with (first | (go_at_call 132; refine (isSmall_any _ _).mono ?_; rintro e w' ⟨rfl, rfl⟩) | (go_at_call 133; refine (isCapital_any _ _).mono ?_; rintro e w' ⟨rfl, rfl⟩))
              go_ret
              rw [Hk.out]
              exact ⟨rfl, rfl⟩
            · have t4 : ((c.toNat : Int) == 46) = false := byte_isnt h4
              by_cases h5 : c = 58
              · have t5 : ((c.toNat : Int) == 58) = true := byte_is h5
                by_cases h6 : d = 45
                · have t6 : ((d.toNat : Int) == 45) = true := byte_is h6
                  have Hk : Hid (kindC c d = 7) := by show _ = _; unfold kindC; rw [if_neg (by rw [hA]; simp), if_neg (by rw [hB]; simp), if_neg h1, if_neg h2, if_neg h3, if_neg h4, if_pos ⟨h5, h6⟩]
                  clear h1 h2 h3 h4 h5 h6
                  go_enter Tryz.func103, Tryz.ntmps103
                  go_wp2_with (first | (go_at_call 132; refine (isSmall_any _ _).mono ?_; rintro e w' ⟨rfl, rfl⟩) | (go_at_call 133; refine (isCapital_any _ _).mono ?_; rintro e w' ⟨rfl, rfl⟩))
                  go_ret
                  rw [Hk.out]
                  exact ⟨rfl, rfl⟩
                · have t6 : ((d.toNat : Int) == 45) = false := byte_isnt h6
                  have Hk : Hid (kindC c d = 8) := by show _ = _; unfold kindC; rw [if_neg (by rw [hA]; simp), if_neg (by rw [hB]; simp), if_neg h1, if_neg h2, if_neg h3, if_neg h4, if_neg (fun h => h6 h.2)]
                  clear h1 h2 h3 h4 h5 h6
                  go_enter Tryz.func103, Tryz.ntmps103
                  go_wp2_with (first | (go_at_call 132; refine (isSmall_any _ _).mono ?_; rintro e w' ⟨rfl, rfl⟩) | (go_at_call 133; refine (isCapital_any _ _).mono ?_; rintro e w' ⟨rfl, rfl⟩))
                  go_ret
                  rw [Hk.out]
                  exact ⟨rfl, rfl⟩
              · have t5 : ((c.toNat : Int) == 58) = false := byte_isnt h5
                have Hk : Hid (kindC c d = 8) := by show _ = _; unfold kindC; rw [if_neg (by rw [hA]; simp), if_neg (by rw [hB]; simp), if_neg h1, if_neg h2, if_neg h3, if_neg h4, if_neg (fun h => h5 h.1)]
                clear h1 h2 h3 h4 h5
                go_enter Tryz.func103, Tryz.ntmps103
                go_wp2_with (first | (go_at_call 132; refine (isSmall_any _ _).mono ?_; rintro e w' ⟨rfl, rfl⟩) | (go_at_call 133; refine (isCapital_any _ _).mono ?_; rintro e w' ⟨rfl, rfl⟩))
                go_ret
                rw [Hk.out]
                exact ⟨rfl, rfl⟩

/-- Where a token ends. -/
def endC (s : ByteArray) (p kd : Nat) : Nat := if kd = 1 ∨ kd = 2 then p + wordLen (s.data.toList.drop p) else if kd = 7 then p + 2 else p + 1

set_option maxHeartbeats 400000 in
theorem endOf_any (s : ByteArray) (p kd : Nat) (w : World) (hs : s.size ≤ 4096) (hp : p ≤ s.size) : Calls Tryz.prog 104 #[.string s, .int .i64 p, .int .i64 kd] w fun e w' => e = .returned (.int .i64 (endC s p kd)) ∧ w' = w := by
  by_cases h1 : kd = 1
  · subst h1
    have Hk : Hid (endC s p 1 = p + wordLen (s.data.toList.drop p)) := by show _ = _; simp [endC]
    go_enter Tryz.func104, Tryz.ntmps104
    go_wp2_with (go_at_call 134; refine (endOfWord_any _ _ _ hs hp).mono ?_; rintro e w' ⟨rfl, rfl⟩)
    go_ret
    rw [Hk.out]
    exact ⟨rfl, rfl⟩
  · have t1 : ((kd : Int) == 1) = false := by rw [beq_eq_false_iff_ne]; omega
    by_cases h2 : kd = 2
    · subst h2
      have Hk : Hid (endC s p 2 = p + wordLen (s.data.toList.drop p)) := by show _ = _; simp [endC]
      clear h1
      go_enter Tryz.func104, Tryz.ntmps104
      go_wp2_with (go_at_call 134; refine (endOfWord_any _ _ _ hs hp).mono ?_; rintro e w' ⟨rfl, rfl⟩)
      go_ret
      rw [Hk.out]
      exact ⟨rfl, rfl⟩
    · have t2 : ((kd : Int) == 2) = false := by rw [beq_eq_false_iff_ne]; omega
      by_cases h7 : kd = 7
      · have t7 : ((kd : Int) == 7) = true := by rw [beq_iff_eq]; omega
        have Hk : Hid (endC s p kd = p + 2) := by show _ = _; simp [endC, h7]
        clear h1 h2 h7
        go_enter Tryz.func104, Tryz.ntmps104
        go_wp2
        go_ret
        rw [Hk.out]
        exact ⟨ret_int (by omega), rfl⟩
      · have t7 : ((kd : Int) == 7) = false := by rw [beq_eq_false_iff_ne]; omega
        have Hk : Hid (endC s p kd = p + 1) := by show _ = _; simp [endC, h1, h2, h7]
        clear h1 h2 h7
        go_enter Tryz.func104, Tryz.ntmps104
        go_wp2
        go_ret
        rw [Hk.out]
        exact ⟨ret_int (by omega), rfl⟩

/-- What 'Next' tells: the kind, where the token begins, where it ends. -/
def nextC (s : ByteArray) (n : Nat) : Nat × Nat × Nat :=
  if n + blanks (s.data.toList.drop n) < s.size then
    (kindC (byteOr s (n + blanks (s.data.toList.drop n))) (byteOr s (n + blanks (s.data.toList.drop n) + 1)), n + blanks (s.data.toList.drop n),
      endC s (n + blanks (s.data.toList.drop n)) (kindC (byteOr s (n + blanks (s.data.toList.drop n))) (byteOr s (n + blanks (s.data.toList.drop n) + 1))))
  else (0, s.size, s.size)

set_option maxRecDepth 10000 in
set_option maxHeartbeats 400000 in
theorem next_any (s : ByteArray) (n : Nat) (w : World) (hs : s.size ≤ 4096) (hn : n ≤ s.size) : Calls Tryz.prog 77 #[.string s, .int .i64 n] w fun e w' =>
    e = .returned (.agg #[.int .i64 (nextC s n).1, .int .i64 (nextC s n).2.1, .int .i64 (nextC s n).2.2]) ∧ Below w.heap.size w w' := by
  have hbl := blanks_le (s.data.toList.drop n)
  simp only [List.length_drop, Array.length_toList] at hbl
  have hbl' : n + blanks (s.data.toList.drop n) ≤ s.size := by
    have : s.data.size = s.size := rfl
    omega
  obtain ⟨p, hp⟩ : ∃ p, p = n + blanks (s.data.toList.drop n) := ⟨_, rfl⟩
  have hps : p ≤ s.size := by omega
  have Hp := (show Hid _ from hp)
  by_cases h : p < s.size
  · have Hr : Hid (nextC s n = (kindC (byteOr s p) (byteOr s (p + 1)), p, endC s p (kindC (byteOr s p) (byteOr s (p + 1))))) := by
      show _ = _
      unfold nextC
      rw [← hp, if_pos h]
    clear hp hbl hbl'
    go_enter Tryz.func77, Tryz.ntmps77
    go_wp2_with fail
    refine (skipBlanks_any _ _ _ hs hn).mono ?_
    rintro e w' ⟨rfl, rfl⟩
    rw [← Hp.out]
    go_wp2_with fail
    refine (byteAt_any _ _ _ hs (by omega)).mono ?_
    rintro e w' ⟨rfl, rfl⟩
    go_wp2_with fail
    refine (byteAt_any s (p + 1) _ hs (by omega)).mono ?_
    rintro e w' ⟨rfl, rfl⟩
    go_wp2_with fail
    refine (kindOf_any _ _ _).mono ?_
    rintro e w' ⟨rfl, rfl⟩
    go_wp2_with fail
    refine (endOf_any _ _ _ _ hs hps).mono ?_
    rintro e w' ⟨rfl, rfl⟩
    go_wp2
    rw [Hr.out]
    exact bodyPost_ret (v := .agg #[.int .i64 (kindC (byteOr s p) (byteOr s (p + 1))), .int .i64 p, .int .i64 (endC s p (kindC (byteOr s p) (byteOr s (p + 1))))]) (by simp [results, Tryz.results77, go_sem]) rfl ⟨rfl, (Below.refl _ _).alloc (Nat.le_refl _) _⟩
  · have Hr : Hid (nextC s n = (0, s.size, s.size)) := by
      show _ = _
      unfold nextC
      rw [← hp, if_neg h]
    clear hp hbl hbl'
    go_enter Tryz.func77, Tryz.ntmps77
    go_wp2_with fail
    refine (skipBlanks_any _ _ _ hs hn).mono ?_
    rintro e w' ⟨rfl, rfl⟩
    rw [← Hp.out]
    go_wp2
    rw [Hr.out]
    exact bodyPost_ret (v := .agg #[.int .i64 0, .int .i64 s.size, .int .i64 s.size]) (by simp [results, Tryz.results77, go_sem]) rfl ⟨rfl, (Below.refl _ _).alloc (Nat.le_refl _) _⟩

end Go.Proofs.YtcbckkenifmchaaGreatDoor
