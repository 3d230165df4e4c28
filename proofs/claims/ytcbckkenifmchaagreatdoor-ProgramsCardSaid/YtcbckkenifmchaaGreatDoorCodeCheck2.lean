/-
  PROVED HERE: what the program's reader lets by: the methods 'argumentsSoFar', 'canFollowTerm', 'canStand', 'isFull', 'check' (the conditions stand in each statement).
-/
import Derived.Test.YtcbckkenifmchaaGreatDoorCodeRead
import Derived.Test.YtcbckkenifmchaaGreatDoorRefWritten
namespace Go.Proofs.YtcbckkenifmchaaGreatDoor
open Go.RowKit
set_option linter.unusedSimpArgs false
set_option linter.unusedVariables false

theorem nb (kd k : Nat) : ((kd : Int) == (k : Int)) = (kd == k) := by
  rw [Bool.eq_iff_iff, beq_iff_eq, beq_iff_eq]; omega

/-- How many terms stand behind the symbol ahead of the innermost open bracket. -/
def argsN (st : RS) : Nat := match st.opn with
  | [] => 0
  | n :: _ => match st.atom[n]? with
    | none => 0
    | some s => s.args
def followC (st : RS) (kd : Nat) : Bool := if st.opn.isEmpty then (if st.inBody then (kd == 5 || kd == 6) else (kd == 7 || kd == 6)) else (kd == 5 || kd == 4)
def standC (st : RS) (kd : Nat) : Bool :=
  if st.next = 0 ∨ st.next = 1 then kd == 1 else if st.next = 2 then (kd == 1 || kd == 2) else if st.next = 3 then (kd == 3 || followC st kd) else if st.next = 4 then followC st kd else false
def fullC (st : RS) : Bool :=
  if st.next = 0 then decide (24 ≤ st.clauses.length) else if st.next = 1 then decide (6 ≤ st.body.length) else if st.next = 2 then (decide (30 ≤ st.atom.length) || decide (4 ≤ argsN st)) else false
def checkC (st : RS) (kd len : Nat) : Nat := if standC st kd = false then 2 else if (kd = 1 ∨ kd = 2) ∧ (8 < len ∨ fullC st = true) then 3 else 0

/-- What a state is bounded by. -/
structure RBd (st : RS) : Prop where
  opn : st.opn.length ≤ 4096
  atom : st.atom.length ≤ 4096
  body : st.body.length ≤ 4096
  cls : st.clauses.length ≤ 4096
  args : ∀ s ∈ st.atom, s.args ≤ 4096

theorem ROpen.drewN {w : World} {B rb : Nat} {st : RS} {V : RV} (h : ROpen w B rb st V) (n : Nat) : ROpen (w.drewN n) B rb st V := ⟨h.blk, h.atom, h.opn, h.body, h.cls⟩

set_option maxHeartbeats 800000 in
theorem args_any (w : World) (B rb : Nat) (st : RS) (V : RV) (h : ROpen w B rb st V) (hb : RBd st) :
    Calls Tryz.prog 136 #[.pointer (some ⟨rb, 0, none⟩)] w fun e w' => e = .returned (.int .i64 (argsN st)) ∧ ∃ n, w' = w.drewN n := by
  obtain ⟨c0, c1, c2, c3, c4, c5, c6, c7, c8⟩ := h.facts
  obtain ⟨aa, acap, hva⟩ := owns_slice h.atom
  rw [hva] at c3
  have Hown := hide' (owner_any w B rb st V h hb.opn hb.atom)
  by_cases ho : ownerI st = -1
  · have Ha : Hid (argsN st = 0) := by
      show _ = _
      cases hst : st.opn with
      | nil => simp [argsN, hst]
      | cons n r =>
        have hle : st.atom.length ≤ n := by
          unfold ownerI at ho
          rw [hst] at ho
          simp only at ho
          split at ho
          · assumption
          · omega
        simp [argsN, hst, List.getElem?_eq_none hle]
    have Ho := hide' ho
    clear ho h hva
    go_enter Tryz.func136, Tryz.ntmps136
    go_wp2_with fail
    refine Hown.out.mono ?_
    rintro e w1 ⟨rfl, n, rfl⟩
    rw [Ho.out]
    go_wp2
    go_ret
    rw [Ha.out]
    exact ⟨rfl, n, rfl⟩
  · obtain ⟨k, r, hst, hk⟩ : ∃ k r, st.opn = k :: r ∧ k < st.atom.length := by
      unfold ownerI at ho
      split at ho
      · exact absurd rfl ho
      · rename_i k r hn
        split at ho
        · exact absurd rfl ho
        · exact ⟨k, r, hn, by omega⟩
    obtain ⟨s, hs⟩ : ∃ s, st.atom[k]? = some s := ⟨_, List.getElem?_eq_getElem hk⟩
    have Ha : Hid (argsN st = s.args) := by show _ = _; simp [argsN, hst, hs]
    have Ho : Hid (ownerI st = k) := by show _ = _; simp [ownerI, hst]; omega
    have hat := h.atom
    rw [hva] at hat
    obtain ⟨g, gcap, gcur, he, hBg, hg, hcap⟩ := owns_some hat (by omega)
    simp only [Value.slice.injEq] at he
    obtain ⟨rfl, _, rfl⟩ := he
    have cg : w.cell? ⟨g, k * 3 + 2, none⟩ = some (.int .i64 s.args) := owns_cell hat _ _ (by rw [symsCells_at _ k s hs 2 (by omega)]; rfl)
    have hla := hb.atom
    clear ho h hva hat hst hs hg
    go_enter Tryz.func136, Tryz.ntmps136
    go_wp2_with fail
    refine Hown.out.mono ?_
    rintro e w1 ⟨rfl, n, rfl⟩
    rw [Ho.out]
    go_wp2
    go_ret
    rw [Ha.out]
    exact ⟨rfl, n, rfl⟩

set_option maxHeartbeats 800000 in
theorem follow_any (w : World) (B rb : Nat) (st : RS) (V : RV) (kd : Nat) (h : ROpen w B rb st V) (hb : RBd st) :
    Calls Tryz.prog 135 #[.pointer (some ⟨rb, 0, none⟩), .int .i64 kd] w fun e w' => e = .returned (.bool (followC st kd)) ∧ w' = w := by
  obtain ⟨c0, c1, c2, c3, c4, c5, c6, c7, c8⟩ := h.facts
  obtain ⟨oa, ocap, hvo⟩ := owns_slice h.opn
  have hl := hb.opn
  rw [hvo] at c4
  clear h hvo
  have e4 := nb kd 4
  have e5 := nb kd 5
  have e6 := nb kd 6
  have e7 := nb kd 7
  cases hst : st.opn with
  | nil =>
    simp only [hst, List.length_nil] at c4
    cases hib : st.inBody
    · rw [hib] at c2
      have Hf : Hid (followC st kd = (kd == 7 || kd == 6)) := by show _ = _; simp [followC, hst, hib]
      rw [Hf.out, ← e7, ← e6]
      clear e4 e5 e6 e7 hst hib
      cases t1 : ((kd : Int) == (7 : Nat))
      all_goals
        have t1' : ((kd : Int) == 7) = _ := t1
        go_enter Tryz.func135, Tryz.ntmps135
        go_wp2
        go_ret
        exact ⟨rfl, rfl⟩
    · rw [hib] at c2
      have Hf : Hid (followC st kd = (kd == 5 || kd == 6)) := by show _ = _; simp [followC, hst, hib]
      rw [Hf.out, ← e5, ← e6]
      clear e4 e5 e6 e7 hst hib
      cases t1 : ((kd : Int) == (5 : Nat))
      all_goals
        have t1' : ((kd : Int) == 5) = _ := t1
        go_enter Tryz.func135, Tryz.ntmps135
        go_wp2
        go_ret
        exact ⟨rfl, rfl⟩
  | cons n r =>
    have Hf : Hid (followC st kd = (kd == 5 || kd == 4)) := by show _ = _; simp [followC, hst]
    rw [Hf.out, ← e5, ← e4]
    have hrl : r.length + 1 ≤ 4096 := by rw [hst] at hl; simpa using hl
    simp only [hst, List.length_cons] at c4
    clear e4 e5 e6 e7 hst
    cases t1 : ((kd : Int) == (5 : Nat))
    all_goals
      have t1' : ((kd : Int) == 5) = _ := t1
      go_enter Tryz.func135, Tryz.ntmps135
      go_wp2
      go_ret
      exact ⟨rfl, rfl⟩

set_option maxHeartbeats 800000 in
theorem stand_any (w : World) (B rb : Nat) (st : RS) (V : RV) (kd : Nat) (h : ROpen w B rb st V) (hb : RBd st) (hn : st.next ≤ 5) :
    Calls Tryz.prog 105 #[.pointer (some ⟨rb, 0, none⟩), .int .i64 kd] w fun e w' => e = .returned (.bool (standC st kd)) ∧ w' = w := by
  obtain ⟨c0, c1, c2, c3, c4, c5, c6, c7, c8⟩ := h.facts
  have HF := hide' (follow_any w B rb st V kd h hb)
  have e1 := nb kd 1
  have e2 := nb kd 2
  have e3 := nb kd 3
  clear h hb c0 c2 c3 c4 c5 c6 c7 c8
  have hs : st.next = 0 ∨ st.next = 1 ∨ st.next = 2 ∨ st.next = 3 ∨ st.next = 4 ∨ st.next = 5 := by omega
  rcases hs with hs | hs | hs | hs | hs | hs
  · rw [hs] at c1
    have Hf : Hid (standC st kd = (kd == 1)) := by show _ = _; simp [standC, hs]
    rw [Hf.out]
    rw [← e1]
    clear hs e1 e2 e3
    go_enter Tryz.func105, Tryz.ntmps105
    go_wp2
    go_ret
    exact ⟨rfl, rfl⟩
  · rw [hs] at c1
    have Hf : Hid (standC st kd = (kd == 1)) := by show _ = _; simp [standC, hs]
    rw [Hf.out]
    rw [← e1]
    clear hs e1 e2 e3
    go_enter Tryz.func105, Tryz.ntmps105
    go_wp2
    go_ret
    exact ⟨rfl, rfl⟩
  · rw [hs] at c1
    have Hf : Hid (standC st kd = (kd == 1 || kd == 2)) := by show _ = _; simp [standC, hs]
    rw [Hf.out]
    rw [← e1, ← e2]
    clear hs e1 e2 e3
    cases t1 : ((kd : Int) == (1 : Nat))
    all_goals
      have t1' : ((kd : Int) == 1) = _ := t1
      go_enter Tryz.func105, Tryz.ntmps105
      go_wp2
      go_ret
      exact ⟨rfl, rfl⟩
  · rw [hs] at c1
    have Hf : Hid (standC st kd = (kd == 3 || followC st kd)) := by show _ = _; simp [standC, hs]
    rw [Hf.out]
    rw [← e3]
    clear hs e1 e2 e3
    cases t1 : ((kd : Int) == (3 : Nat))
    all_goals
      have t1' : ((kd : Int) == 3) = _ := t1
      go_enter Tryz.func105, Tryz.ntmps105
      go_wp2_with (go_at_call 135; refine HF.out.mono ?_; rintro e w' ⟨rfl, rfl⟩)
      go_ret
      exact ⟨rfl, rfl⟩
  · rw [hs] at c1
    have Hf : Hid (standC st kd = followC st kd) := by show _ = _; simp [standC, hs]
    rw [Hf.out]
    clear hs e1 e2 e3
    go_enter Tryz.func105, Tryz.ntmps105
    go_wp2_with (go_at_call 135; refine HF.out.mono ?_; rintro e w' ⟨rfl, rfl⟩)
    go_ret
    exact ⟨rfl, rfl⟩
  · rw [hs] at c1
    have Hf : Hid (standC st kd = false) := by show _ = _; simp [standC, hs]
    rw [Hf.out]
    clear hs e1 e2 e3
    go_enter Tryz.func105, Tryz.ntmps105
    go_wp2
    go_ret
    exact ⟨rfl, rfl⟩

set_option maxHeartbeats 800000 in
theorem full_any (w : World) (B rb : Nat) (st : RS) (V : RV) (h : ROpen w B rb st V) (hb : RBd st) (hn : st.next ≤ 5) :
    Calls Tryz.prog 106 #[.pointer (some ⟨rb, 0, none⟩)] w fun e w' => e = .returned (.bool (fullC st)) ∧ ∃ n, w' = w.drewN n := by
  obtain ⟨c0, c1, c2, c3, c4, c5, c6, c7, c8⟩ := h.facts
  have HA := hide' (args_any w B rb st V h hb)
  obtain ⟨aa, acap, hva⟩ := owns_slice h.atom
  obtain ⟨ba, bcap, hvb⟩ := h.body
  obtain ⟨ca, ccap, hvc⟩ := h.cls
  rw [hva] at c3
  rw [hvb] at c6
  rw [hvc] at c8
  have l1 := hb.atom
  have l2 := hb.body
  have l3 := hb.cls
  clear h hb hva hvb hvc
  have hs : st.next = 0 ∨ st.next = 1 ∨ st.next = 2 ∨ (st.next ≠ 0 ∧ st.next ≠ 1 ∧ st.next ≠ 2) := by omega
  rcases hs with hs | hs | hs | hs
  · rw [hs] at c1
    have Hf : Hid (fullC st = decide (24 ≤ st.clauses.length)) := by show _ = _; simp [fullC, hs]
    clear hs
    go_enter Tryz.func106, Tryz.ntmps106
    go_wp2
    go_ret
    rw [Hf.out]
    exact ⟨ret_bool (by rw [Bool.eq_iff_iff]; simp; try omega), 0, rfl⟩
  · rw [hs] at c1
    have Hf : Hid (fullC st = decide (6 ≤ st.body.length)) := by show _ = _; simp [fullC, hs]
    clear hs
    go_enter Tryz.func106, Tryz.ntmps106
    go_wp2
    go_ret
    rw [Hf.out]
    exact ⟨ret_bool (by rw [Bool.eq_iff_iff]; simp; try omega), 0, rfl⟩
  · rw [hs] at c1
    by_cases h30 : (30 : Int) ≤ (st.atom.length : Int)
    · have Hf : Hid (fullC st = true) := by show _ = _; simp [fullC, hs]; left; omega
      clear hs
      go_enter Tryz.func106, Tryz.ntmps106
      go_wp2
      go_ret
      rw [Hf.out]
      exact ⟨rfl, 0, rfl⟩
    · have Hf : Hid (fullC st = decide (4 ≤ argsN st)) := by show _ = _; simp [fullC, hs]; omega
      have hd : decide ((30 : Int) ≤ (st.atom.length : Int)) = false := by simpa using h30
      clear hs
      go_enter Tryz.func106, Tryz.ntmps106
      go_wp2_with (go_at_call 136; refine HA.out.mono ?_; rintro e w' ⟨rfl, n, rfl⟩)
      go_ret
      rw [Hf.out]
      exact ⟨ret_bool (by rw [Bool.eq_iff_iff]; simp; try omega), _, rfl⟩
  · have t0 : ((st.next : Int) == 0) = false := by rw [beq_eq_false_iff_ne]; omega
    have t1 : ((st.next : Int) == 1) = false := by rw [beq_eq_false_iff_ne]; omega
    have t2 : ((st.next : Int) == 2) = false := by rw [beq_eq_false_iff_ne]; omega
    have Hf : Hid (fullC st = false) := by show _ = _; simp [fullC, hs]
    clear hs
    go_enter Tryz.func106, Tryz.ntmps106
    go_wp2
    go_ret
    rw [Hf.out]
    exact ⟨rfl, 0, rfl⟩

end Go.Proofs.YtcbckkenifmchaaGreatDoor

/-
  PROVED HERE: what the program's reader lets by: the method 'check'; and 'textOf' (the conditions stand in each statement).
-/
namespace Go.Proofs.YtcbckkenifmchaaGreatDoor
open Go.RowKit
set_option linter.unusedSimpArgs false
set_option linter.unusedVariables false

theorem ROpen.later {S : Nat → Prop} {w w' : World} {B rb : Nat} {st : RS} {V : RV} (h : ROpen w B rb st V) (hk : Kept S w w') (h1 : ¬ S rb) (h2 : ∀ k, V.a.ownBlock = some k → ¬ S k) (h3 : ∀ k, V.o.ownBlock = some k → ¬ S k) : ROpen w' B rb st V :=
  ⟨(hk.block rb (lt_of_block h.blk) h1).trans h.blk, hk.owns h.atom h2, hk.owns h.opn h3, h.body, h.cls⟩

set_option maxRecDepth 10000 in
set_option maxHeartbeats 800000 in
theorem check_any (w : World) (B rb : Nat) (st : RS) (V : RV) (kd p q : Nat) (h : ROpen w B rb st V) (hb : RBd st) (hn : st.next ≤ 5) (hpq : p ≤ q) (hq : q ≤ 4096) :
    Calls Tryz.prog 78 #[.pointer (some ⟨rb, 0, none⟩), .agg #[.int .i64 kd, .int .i64 p, .int .i64 q]] w fun e w' => e = .returned (.int .i64 (checkC st kd (q - p))) ∧ Kept noBlock w w' := by
  have h1 : ∀ o, ROpen (w.alloc o) B rb st V := fun o => h.later (S := noBlock) ((Kept.refl _ w).alloc o) (fun h => h) (fun _ _ h => h) (fun _ _ h => h)
  have HS := hide' (fun o => stand_any (w.alloc o) B rb st V kd (h1 o) hb hn)
  have HF := hide' (fun o => full_any (w.alloc o) B rb st V (h1 o) hb hn)
  have e1 := nb kd 1
  have e2 := nb kd 2
  clear h h1
  cases hst : standC st kd
  · have Hc : Hid (checkC st kd (q - p) = 2) := by show _ = _; simp [checkC, hst]
    go_enter Tryz.func78, Tryz.ntmps78
    go_wp2_with (go_at_call 105; refine (HS.out _).mono ?_; rintro e w' ⟨rfl, rfl⟩)
    go_ret
    rw [Hc.out]
    exact ⟨rfl, (Kept.refl _ w).alloc _⟩
  · by_cases hw : kd = 1 ∨ kd = 2
    · have hword : ((kd : Int) == 1) = true ∨ (((kd : Int) == 1) = false ∧ ((kd : Int) == 2) = true) := by
        rcases hw with rfl | rfl
        · exact Or.inl rfl
        · exact Or.inr ⟨rfl, rfl⟩
      by_cases h8 : 8 < q - p
      · have h8' : (8 : Int) < (q : Int) - (p : Int) := by omega
        have Hc : Hid (checkC st kd (q - p) = 3) := by show _ = _; simp [checkC, hst, hw, h8]
        clear hw e1 e2
        rcases hword with t1 | ⟨t1, t2⟩
        all_goals
          go_enter Tryz.func78, Tryz.ntmps78
          go_wp2_with (go_at_call 105; refine (HS.out _).mono ?_; rintro e w' ⟨rfl, rfl⟩)
          go_ret
          rw [Hc.out]
          exact ⟨rfl, (Kept.refl _ w).alloc _⟩
      · have h8' : ¬ (8 : Int) < (q : Int) - (p : Int) := by omega
        have hd8 : decide ((8 : Int) < (q : Int) - (p : Int)) = false := by simpa using h8'
        cases hfl : fullC st
        · have Hc : Hid (checkC st kd (q - p) = 0) := by show _ = _; simp [checkC, hst, h8, hfl]
          clear hw e1 e2
          rcases hword with t1 | ⟨t1, t2⟩
          all_goals
            go_enter Tryz.func78, Tryz.ntmps78
            go_wp2_with (first | (go_at_call 105; refine (HS.out _).mono ?_; rintro e w' ⟨rfl, rfl⟩) | (go_at_call 106; refine (HF.out _).mono ?_; rintro e w' ⟨rfl, n, rfl⟩))
            go_ret
            rw [Hc.out]
            exact ⟨rfl, ((Kept.refl _ w).alloc _).drewN _⟩
        · have Hc : Hid (checkC st kd (q - p) = 3) := by show _ = _; simp [checkC, hst, hw, hfl]
          clear hw e1 e2
          rcases hword with t1 | ⟨t1, t2⟩
          all_goals
            go_enter Tryz.func78, Tryz.ntmps78
            go_wp2_with (first | (go_at_call 105; refine (HS.out _).mono ?_; rintro e w' ⟨rfl, rfl⟩) | (go_at_call 106; refine (HF.out _).mono ?_; rintro e w' ⟨rfl, n, rfl⟩))
            go_ret
            rw [Hc.out]
            exact ⟨rfl, ((Kept.refl _ w).alloc _).drewN _⟩
    · have t1 : ((kd : Int) == 1) = false := by rw [beq_eq_false_iff_ne]; omega
      have t2 : ((kd : Int) == 2) = false := by rw [beq_eq_false_iff_ne]; omega
      have Hc : Hid (checkC st kd (q - p) = 0) := by show _ = _; simp [checkC, hst, hw]
      clear hw e1 e2
      go_enter Tryz.func78, Tryz.ntmps78
      go_wp2_with (go_at_call 105; refine (HS.out _).mono ?_; rintro e w' ⟨rfl, rfl⟩)
      go_ret
      rw [Hc.out]
      exact ⟨rfl, (Kept.refl _ w).alloc _⟩

set_option maxRecDepth 10000 in
set_option maxHeartbeats 800000 in
theorem textOf_any (s : ByteArray) (kd : Int) (p q : Nat) (w : World) (hpq : p ≤ q) (hq : q ≤ s.size) (hs : s.size ≤ 4096) :
    Calls Tryz.prog 80 #[.string s, .agg #[.int .i64 kd, .int .i64 p, .int .i64 q]] w fun e w' => e = .returned (.string (s.extract p q)) ∧ Kept noBlock w w' := by
  have d1 : decide (((p : Nat) : Int) < 0) = false := by simp
  have d2 : decide ((q : Int) < (p : Int)) = false := by simp; omega
  go_enter Tryz.func80, Tryz.ntmps80
  go_wp2
  go_ret
  exact ⟨rfl, (Kept.refl _ w).alloc _⟩

end Go.Proofs.YtcbckkenifmchaaGreatDoor
