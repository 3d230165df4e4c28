/-
  PROVED HERE: what the reference's 'number' answers: which of the names a text is, or one more (the conditions stand in the statement).
-/
import Derived.Test.YtcbckkenifmchaaGreatDoorRefFollows
namespace Go.Proofs.YtcbckkenifmchaaGreatDoor
open Go.RowKit
set_option linter.unusedSimpArgs false
set_option linter.unusedVariables false

theorem Tryz.infoStr : (Tryz.prog.info? 9).map (fun i => (i.zero, i.size, i.bytes)) = some (some (.string ⟨#[]⟩), 1, 16) := by kernel_rfl

/-- Names as cells. -/
def strs (l : List (List UInt8)) : List Value := l.map fun s => Value.string ⟨s.toArray⟩
/-- Which of the names a text is; if none, one more. -/
def numberOf (names : List (List UInt8)) (s : List UInt8) : List (List UInt8) × Nat :=
  if s ∈ names then (names, names.idxOf s) else (names ++ [s], names.length)

theorem str_one (s : ByteArray) : ∀ u ∈ (#[Value.string s] : Array Value).toList, u.oneCell' = true := by
  intro u hu
  simp at hu
  subst hu
  rfl

theorem numberOf_hit {names : List (List UInt8)} {s : List UInt8} {k : Nat} (hk : k < names.length) (h : names[k] = s) (hn : s ∉ names.take k) : numberOf names s = (names, k) := by
  have hm : s ∈ names := by rw [← h]; exact List.getElem_mem _
  unfold numberOf
  rw [if_pos hm]
  congr 1
  have h1 : names.idxOf s ≤ k := by
    rcases Nat.lt_or_ge k (names.idxOf s) with hl | hl
    · have := List.not_of_lt_findIdx (p := (· == s)) (xs := names) hl
      simp [h] at this
    · exact hl
  rcases Nat.lt_or_ge (names.idxOf s) k with hl | hl
  · exfalso
    apply hn
    have hlt : names.idxOf s < names.length := List.idxOf_lt_length_of_mem hm
    have : names[names.idxOf s] = s := List.getElem_idxOf hlt
    rw [← this]
    rw [List.mem_take_iff_getElem]
    exact ⟨names.idxOf s, by omega, rfl⟩
  · omega
theorem not_on {names : List (List UInt8)} {s : List UInt8} {k : Nat} (hk : k < names.length) (h : ¬ names[k] = s) (hn : s ∉ names.take k) : s ∉ names.take (k + 1) := by
  rw [List.take_succ_eq_append_getElem hk]
  simp only [List.mem_append, List.mem_singleton, not_or]
  exact ⟨hn, fun e => h e.symm⟩
theorem numberOf_miss {names : List (List UInt8)} {s : List UInt8} {k : Nat} (hk : ¬ k < names.length) (hn : s ∉ names.take k) : numberOf names s = (names ++ [s], names.length) := by
  rw [List.take_of_length_le (by omega)] at hn
  unfold numberOf
  rw [if_neg hn]

set_option maxHeartbeats 400000 in
theorem number_any (w : World) (B : Nat) (names : List (List UInt8)) (s : List UInt8) (v : Value) (h : w.ownsRow B 9 1 v names.length (strs names)) (hB : B ≤ w.heap.size) (hn : names.length ≤ 4096) (hs : s.length ≤ 4096) :
    Calls Tryz.prog 86 #[v, .string ⟨s.toArray⟩] w fun e w' => ∃ v', e = .returned (.tuple #[v', .int .i64 (numberOf names s).2]) ∧ Appended w B 9 1 v (numberOf names s).1.length (strs (numberOf names s).1) v' w' := by
  obtain ⟨a, cap, rfl⟩ := owns_slice h
  have Hown := hide' h
  clear h
  go_enter Tryz.func86, Tryz.ntmps86
  go_wp2
  go_loop [6] (fun i => ∃ k : Nat, k ≤ names.length ∧ i = .int .i64 k ∧ s ∉ names.take k) (fun i => names.length - (intOf i).toNat)
  case atStart => exact ⟨0, Nat.zero_le _, rfl, by simp⟩
  case round =>
    obtain ⟨k, hk, rfl, hnot⟩ := hrel
    have Hnot := hide' hnot
    clear hnot
    by_cases hlt : k < names.length
    · obtain ⟨g, cap', cur, he, hBg, hg, hcp⟩ := owns_some Hown.out (by omega)
      simp only [Value.slice.injEq] at he
      obtain ⟨rfl, _, rfl⟩ := he
      obtain ⟨nm, hnm⟩ : ∃ nm, nm = names[k] := ⟨_, rfl⟩
      have hc : w.cell? ⟨g, k, none⟩ = some (.string ⟨nm.toArray⟩) := owns_cell Hown.out k _ (by simp [strs, hlt, hnm])
      have Hnm := hide' hnm
      clear hg hnm
      go_wp2
      · have hq : nm = s := eq_of_beq (by assumption)
        go_ret2
        have hr := numberOf_hit hlt (Hnm.out.symm.trans hq) Hnot.out
        rw [hr]
        exact ⟨_, rfl, Hown.out, Kept.refl _ _, Or.inl rfl⟩
      · have hq : nm ≠ s := ne_of_beq_false (by assumption)
        go_round
        case rel => exact ⟨k + 1, by omega, by go_num, not_on hlt (fun h => hq (Hnm.out.trans h)) Hnot.out⟩
        case measure => simp [intOf]; omega
    · have Hmiss := hide' (numberOf_miss hlt Hnot.out)
      go_wp2_with (at_builtin; refine wpList_append1 _ rfl (.tmp 24) (.tmp 26) 36 rfl B 9 Tryz.infoStr Tryz.underlying36 rfl (by decide) _ names.length (strs names) rfl Hown.out _ rfl rfl rfl (str_one _) ?_ hB ?_)
      · omega
      intro v' w1 hap
      have Hap := hide' hap
      clear hap
      go_wp2
      go_ret2
      rw [Hmiss.out]
      refine ⟨v', rfl, ?_⟩
      have := Hap.out
      simpa [strs] using this

end Go.Proofs.YtcbckkenifmchaaGreatDoor
