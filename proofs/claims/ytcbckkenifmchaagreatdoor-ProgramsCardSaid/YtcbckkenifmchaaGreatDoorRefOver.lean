/-
  PROVED HERE: what the reference's 'over' answers of a row of tokens (its conditions stand in the statement); nothing that was there turns.
-/
import Derived.Test.YtcbckkenifmchaaGreatDoorRefOpen
namespace Go.Proofs.YtcbckkenifmchaaGreatDoor
open Go.RowKit
set_option linter.unusedSimpArgs false
set_option linter.unusedVariables false

/-- What holds of a Look behind i tokens. -/
structure LInv (L : LookS) (i : Nat) : Prop where
  want : L.want ≤ 5
  term : L.want = 2 → L.stk ≠ []
  size : L.size ≤ i
  heads : L.heads ≤ i
  goals : L.goals ≤ i
  len : L.stk.length ≤ i
  all : ∀ n ∈ L.stk, n ≤ i

/-- A token more. -/
def lstep (L : LookS) (kd tn : Nat) : LookS :=
  if L.want ≤ 2 then lbegins L kd tn else if L.want = 5 then { L with err := 2 } else lfollows L kd

theorem LInv.mono {L : LookS} {i j : Nat} (h : LInv L i) (hij : i ≤ j) : LInv L j :=
  ⟨h.want, h.term, Nat.le_trans h.size hij, Nat.le_trans h.heads hij, Nat.le_trans h.goals hij, Nat.le_trans h.len hij, fun n hn => Nat.le_trans (h.all n hn) hij⟩

theorem lbegins_inv {L : LookS} {i : Nat} (h : LInv L i) (kd tn : Nat) : LInv (lbegins L kd tn) (i + 1) := by
  unfold lbegins
  have h1 := h.size
  have h2 := h.heads
  have h3 := h.goals
  have h4 := h.len
  split
  · exact ⟨h.want, h.term, by simp; omega, by simp; omega, by simp; omega, by simp; omega, fun n hn => Nat.le_trans (h.all n hn) (Nat.le_succ i)⟩
  · have hw : (if kd = 1 then 3 else 4) ≤ 5 ∧ ((if kd = 1 then 3 else 4) ≠ 2) := by split <;> simp
    have hall : ∀ n ∈ L.stk, n ≤ i + 1 := fun n hn => Nat.le_trans (h.all n hn) (Nat.le_succ i)
    refine ⟨hw.1, fun e => absurd e hw.2, ?_, ?_, ?_, ?_, ?_⟩
    all_goals
      unfold lsized lstart
      dsimp only
      split
      · first | (simp; done) | (simp; omega) | exact hall
      · split
        · first | (simp; done) | (simp; omega) | exact hall
        · cases hs : L.stk with
          | nil => first | (simp; done) | (simp; omega) | (simp [hs]; done)
          | cons n r =>
            have hn : n ≤ i := h.all n (by rw [hs]; simp)
            have hr : ∀ x ∈ r, x ≤ i := fun x hx => h.all x (by rw [hs]; simp [hx])
            rw [hs] at h4
            simp only [List.length_cons] at h4
            first
              | (simp; done)
              | (simp; omega)
              | (intro x hx; simp at hx; rcases hx with rfl | hx; · omega
                 have := hr x hx; omega)

theorem lfollows_inv {L : LookS} {i : Nat} (h : LInv L i) (kd : Nat) : LInv (lfollows L kd) (i + 1) := by
  have h1 := h.size
  have h2 := h.heads
  have h3 := h.goals
  have h4 := h.len
  have h5 := h.want
  have hall : ∀ n ∈ L.stk, n ≤ i + 1 := fun n hn => Nat.le_trans (h.all n hn) (Nat.le_succ i)
  unfold lfollows
  split
  · exact ⟨by simp, fun _ => by simp, by simp; omega, by simp; omega, by simp; omega, by simp; omega, by intro n hn; simp at hn; rcases hn with rfl | hn; · omega
                                                                                                         exact hall n hn⟩
  · split
    · rename_i _ hc
      exact ⟨by simp, fun _ => hc.2, by simp; omega, by simp; omega, by simp; omega, by simp; omega, hall⟩
    · split
      · exact ⟨by simp, fun e => by simp at e, by simp; omega, by simp; omega, by simp; omega, by simp; omega, fun n hn => hall n (List.mem_of_mem_tail hn)⟩
      · split
        · exact ⟨h5, h.term, by simp; omega, by simp; omega, by simp; omega, by simp; omega, hall⟩
        · split
          · exact ⟨by simp, fun e => by simp at e, by simp; omega, by simp; omega, by simp; omega, by simp; omega, hall⟩
          · split
            · exact ⟨by simp, fun e => by simp at e, by simp; omega, by simp; omega, by simp, by simp; omega, hall⟩
            · split
              · exact ⟨by simp, fun e => by simp at e, by simp; omega, by simp; omega, by simp; omega, by simp; omega, hall⟩
              · split
                · exact ⟨by simp, fun e => by simp at e, by simp; omega, by simp; omega, by simp; omega, by simp; omega, hall⟩
                · exact ⟨h5, h.term, by simp; omega, by simp; omega, by simp; omega, by simp; omega, hall⟩

theorem lstep_inv {L : LookS} {i : Nat} (h : LInv L i) (kd tn : Nat) : LInv (lstep L kd tn) (i + 1) := by
  unfold lstep
  split
  · exact lbegins_inv h kd tn
  · split
    · have h := h.mono (Nat.le_succ i)
      exact ⟨h.want, h.term, h.size, h.heads, h.goals, h.len, h.all⟩
    · exact lfollows_inv h kd

/-- What 'over' answers: the error, the place. -/
def lover : List Tok → LookS → Nat × Nat
  | [], _ => (0, 0)
  | t :: ts, L =>
    if t.kind = 4 ∧ (L.want = 5 ∨ L.want = 0) then (0, 0)
    else if (lstep L t.kind t.text.length).err ≠ 0 then ((lstep L t.kind t.text.length).err, t.pos)
    else lover ts (lstep L t.kind t.text.length)

theorem begins_all (w : World) (B b : Nat) (L : LookS) (ov : Value) (kd : Nat) (ps : Int) (tx : ByteArray) (h : IsLook w B b L ov) (hBb : B ≤ b) (hi : LInv L 4000) (hw : L.want ≤ 2) (ht : tx.size ≤ 4096) :
    Calls Tryz.prog 84 #[.pointer (some ⟨b, 0, none⟩), .agg #[.int .i64 kd, .string tx, .int .i64 ps]] w fun e w' =>
      e = .returned (.tuple #[]) ∧ ∃ ov', Kept (lookSet b ov) w w' ∧ IsLook w' B b (lbegins L kd tx.size) ov' := by
  have hb := lt_of_block h.blk
  have own : ∀ k, ov.ownBlock = some k → B ≤ k := fun k hk => (h.opn.lt k hk).1
  have hs := hi.size
  have hh := hi.heads
  have hg := hi.goals
  have hl := hi.len
  by_cases hk : kd ≠ 1 ∧ (kd ≠ 2 ∨ L.want ≠ 2)
  · refine (begins_err w B b L ov kd ps tx h hk).mono ?_
    rintro e w' ⟨rfl, h1, h2⟩
    exact ⟨rfl, ov, h1.mono (fun _ _ e => Or.inl e), h2⟩
  · by_cases h2 : L.want = 2
    · obtain ⟨n, r, hst⟩ : ∃ n r, L.stk = n :: r := by
        cases hc : L.stk with
        | nil => exact absurd hc (hi.term h2)
        | cons n r => exact ⟨n, r, rfl⟩
      have hn := hi.all n (by rw [hst]; simp)
      rw [hst] at hl
      simp only [List.length_cons] at hl
      by_cases h1 : kd = 1
      · subst h1
        refine (begins_term1 w B b L n r ov ps tx h hst (by omega) (by omega) (by omega) ht h2).mono ?_
        rintro e w' ⟨rfl, h1, h2⟩
        exact ⟨rfl, ov, h1, h2⟩
      · obtain rfl : kd = 2 := by omega
        refine (begins_term2 w B b L n r ov ps tx h hst (by omega) (by omega) (by omega) ht h2).mono ?_
        rintro e w' ⟨rfl, h1, h2⟩
        exact ⟨rfl, ov, h1, h2⟩
    · obtain rfl : kd = 1 := by omega
      by_cases h0 : L.want = 0
      · refine (begins_head w B b L ov ps tx h (by omega) ht h0).mono ?_
        rintro e w' ⟨rfl, h1, h2⟩
        exact ⟨rfl, ov, h1.mono (fun _ _ e => Or.inl e), h2⟩
      · refine (begins_goal w B b L ov ps tx h (by omega) ht (by omega)).mono ?_
        rintro e w' ⟨rfl, h1, h2⟩
        exact ⟨rfl, ov, h1.mono (fun _ _ e => Or.inl e), h2⟩

theorem follows_all (w : World) (B b : Nat) (L : LookS) (ov : Value) (kd : Nat) (ps : Int) (tx : ByteArray) (h : IsLook w B b L ov) (hBb : B ≤ b) (hi : LInv L 4000) :
    Calls Tryz.prog 85 #[.pointer (some ⟨b, 0, none⟩), .agg #[.int .i64 kd, .string tx, .int .i64 ps]] w fun e w' =>
      e = .returned (.tuple #[]) ∧ ∃ ov', Kept (lookSet b ov) w w' ∧ IsLook w' B b (lfollows L kd) ov' := by
  have hl : L.stk.length ≤ 4096 := by have := hi.len; omega
  by_cases h1 : kd = 40
  · subst h1
    by_cases h2 : L.want = 3
    · exact follows_open w B b L ov ps tx h hBb hl h2
    · exact follows_opennot w B b L ov ps tx h hBb hl h2
  · by_cases h2 : kd = 41
    · subst h2; exact follows_close w B b L ov ps tx h hBb hl
    · by_cases h3 : kd = 44
      · subst h3; exact follows_comma w B b L ov ps tx h hBb hl
      · by_cases h4 : kd = 46
        · subst h4; exact follows_dot w B b L ov ps tx h hBb hl
        · by_cases h5 : kd = 3
          · subst h5; exact follows_arrow w B b L ov ps tx h hBb hl
          · exact follows_other w B b L ov kd ps tx h hBb hl ⟨h1, h2, h3, h4, h5⟩

end Go.Proofs.YtcbckkenifmchaaGreatDoor
