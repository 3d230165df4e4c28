/-
  PROVED HERE: a text that the reference's 'over' lets by can be read (plain facts on tokens; the conditions stand in each statement).
-/
import Derived.Test.YtcbckkenifmchaaGreatDoorRefProg3
namespace Go.Proofs.YtcbckkenifmchaaGreatDoor
set_option linter.unusedSimpArgs false
set_option linter.unusedVariables false

/-- Let by. -/
def okk (ts : List Tok) (L : LookS) : Prop := (lover ts L).1 = 0
/-- There is an End. -/
def fin : List Tok → Prop
  | [] => False
  | t :: ts => t.kind = 4 ∨ fin ts

theorem okk_cons {t : Tok} {ts : List Tok} {L : LookS} (h : okk (t :: ts) L) (hn : ¬ (t.kind = 4 ∧ (L.want = 5 ∨ L.want = 0))) : (lstep L t.kind t.text.length).err = 0 ∧ okk ts (lstep L t.kind t.text.length) := by
  unfold okk at h
  rw [lover, if_neg hn] at h
  by_cases he : (lstep L t.kind t.text.length).err = 0
  · rw [if_neg (by simp [he])] at h
    exact ⟨he, h⟩
  · rw [if_pos he] at h
    exact absurd h he

/-- What holds behind a term. -/
structure Aft (rest : List Tok) (L L' : LookS) (stk : List Nat) : Prop where
  ok : okk rest L'
  fin : fin rest
  want : L'.want = 4 ∨ (L'.want = 3 ∧ ∀ y ys, rest = y :: ys → y.kind ≠ 40)
  stk : L'.stk = stk
  err : L'.err = 0
  query : L'.query = L.query
  body : L'.body = (if L.want = 0 then false else L.body)

theorem lbegins_err {L : LookS} {kd tn : Nat} (he : L.err = 0) (h : (lbegins L kd tn).err = 0) : kd = 1 ∨ (kd = 2 ∧ L.want = 2) := by
  unfold lbegins at h
  split at h
  · simp at h
  · omega
theorem lbegins_keeps {L : LookS} {kd tn : Nat} (h : (lbegins L kd tn).err = 0) (hk : kd = 1 ∨ (kd = 2 ∧ L.want = 2)) :
    (lbegins L kd tn).want = (if kd = 1 then 3 else 4) ∧ (lbegins L kd tn).stk = (lstart L).stk ∧ (lbegins L kd tn).query = L.query ∧ (lbegins L kd tn).body = (if L.want = 0 then false else L.body) := by
  have hn : ¬ (kd ≠ 1 ∧ (kd ≠ 2 ∨ L.want ≠ 2)) := by omega
  unfold lbegins
  rw [if_neg hn]
  refine ⟨rfl, rfl, ?_, ?_⟩
  · show (lstart L).query = _
    unfold lstart
    split
    · rfl
    · split
      · rfl
      · split <;> rfl
  · show (lstart L).body = _
    unfold lstart
    split
    · rfl
    · split
      · rfl
      · split <;> rfl

/-- Behind a term inside brackets: a comma or a closing bracket. -/
theorem aft_in {y : Tok} {ys : List Tok} {L L' : LookS} {n : Nat} {r : List Nat} (h : Aft (y :: ys) L L' (n :: r)) :
    (y.kind = 44 ∧ okk ys (lfollows L' 44) ∧ fin ys ∧ (lfollows L' 44) = { L' with want := 2 }) ∨ (y.kind = 41 ∧ okk ys (lfollows L' 41) ∧ fin ys ∧ (lfollows L' 41) = { L' with stk := r, want := 4 }) := by
  have hw : ¬ L'.want ≤ 2 ∧ L'.want ≠ 5 ∧ L'.want ≠ 0 := by rcases h.want with hw | ⟨hw, _⟩ <;> omega
  have h4 : ¬ (y.kind = 4 ∧ (L'.want = 5 ∨ L'.want = 0)) := by omega
  obtain ⟨he, ho⟩ := okk_cons h.ok h4
  unfold lstep at he ho
  rw [if_neg hw.1, if_neg hw.2.1] at he ho
  have hst := h.stk
  have h40 : ¬ (y.kind = 40 ∧ L'.want = 3) := by
    rintro ⟨h1, h2⟩
    rcases h.want with hw | ⟨_, hw⟩
    · omega
    · exact hw y ys rfl h1
  have hfin : y.kind ≠ 4 → fin ys := fun hy => by
    rcases h.fin with h | h
    · exact absurd h hy
    · exact h
  by_cases h44 : y.kind = 44
  · left
    rw [h44] at ho
    exact ⟨h44, ho, hfin (by omega), by simp [lfollows, hst]⟩
  · by_cases h41 : y.kind = 41
    · right
      rw [h41] at ho
      exact ⟨h41, ho, hfin (by omega), by simp [lfollows, hst]⟩
    · exfalso
      simp [lfollows, hst, h44, h41] at he
      split at he
      · rename_i hc; exact h40 hc
      · simp at he

def TermOk (n : Nat) : Prop := ∀ (ts : List Tok) (L : LookS) (f : Nat) (names : Names), ts.length ≤ n → ts.length ≤ f → okk ts L → fin ts → L.want ≤ 2 → L.err = 0 → (L.want = 2 → L.stk ≠ []) → (∀ t r, ts = t :: r → t.kind ≠ 4) →
  ∃ r L', pterm f ts names = some r ∧ Aft r.2.1 L L' (lstart L).stk ∧ r.2.1.length < ts.length

theorem args_ok (n f : Nat) (IH : TermOk n) : ∀ (g : Nat) (x : Tok) (xs : List Tok) (L : LookS) (m : Nat) (r : List Nat) (names : Names) (acc : List (List Sym)), xs.length ≤ n → xs.length ≤ f → xs.length + 1 ≤ g → x.kind ≠ 41 →
    okk xs L → fin xs → L.want = 2 → L.stk = m :: r → L.err = 0 →
    ∃ q L', pargs (pterm f) g (x :: xs) names acc = some q ∧ Aft q.2.1 L L' r ∧ q.2.1.length < xs.length := by
  intro g
  induction g with
  | zero => intro x xs L m r names acc h1 h1' h2; omega
  | succ g ih =>
    intro x xs L m r names acc h1 h1' h2 h41 hok hfin hw hst he
    have hx4 : ∀ t r, xs = t :: r → t.kind ≠ 4 := by
      rintro t r rfl h4
      have := (okk_cons hok (by omega)).1
      unfold lstep at this
      rw [if_pos (by omega)] at this
      rcases lbegins_err he this with h | h <;> omega
    obtain ⟨r1, L1, hp, ha, hl⟩ := IH xs L f names h1 (by omega) hok hfin (by omega) he (by rw [hst]; simp) hx4
    have hls : (lstart L).stk = (m + 1) :: r := by simp [lstart, hw, hst]
    rw [hls] at ha
    rw [pargs, if_neg h41, hp]
    simp only
    cases hr : r1.2.1 with
    | nil => rw [hr] at ha; exact ha.fin.elim
    | cons y ys =>
      rw [hr] at ha hl
      simp only [List.length_cons] at hl
      rcases aft_in ha with ⟨hy, ho, hf, hE⟩ | ⟨hy, ho, hf, hE⟩
      · obtain ⟨q, L2, h5, h6, h7⟩ := ih y ys (lfollows L1 44) (m + 1) r r1.2.2 (acc ++ [r1.1]) (by omega) (by omega) (by omega) (by omega) ho hf (by rw [hE]) (by rw [hE]; exact ha.stk) (by rw [hE]; exact ha.err)
        refine ⟨q, L2, h5, ⟨h6.ok, h6.fin, h6.want, h6.stk, h6.err, ?_, ?_⟩, by omega⟩
        · rw [h6.query, hE]; exact ha.query
        · rw [h6.body, hE]
          have := ha.body
          simp [hw] at this ⊢
          exact this
      · refine ⟨(acc ++ [r1.1], ys, r1.2.2), lfollows L1 41, ?_, ⟨ho, hf, Or.inl (by rw [hE]), by rw [hE], by rw [hE]; exact ha.err, by rw [hE]; exact ha.query, by rw [hE]; exact ha.body⟩, by simp; omega⟩
        cases g with
        | zero => omega
        | succ g => rw [pargs, if_pos hy]

theorem term_ok : ∀ n, TermOk n := by
  intro n
  induction n with
  | zero =>
    intro ts L f names h1 h2 hok hfin
    cases ts with
    | nil => exact hfin.elim
    | cons t ts => simp at h1
  | succ n IH =>
    intro ts L f names h1 h2 hok hfin hw he hst hne
    cases ts with
    | nil => exact hfin.elim
    | cons t ts =>
      have h4 := hne t ts rfl
      simp only [List.length_cons] at h1 h2
      cases f with
      | zero => omega
      | succ f =>
        obtain ⟨he1, ho1⟩ := okk_cons hok (by omega)
        unfold lstep at he1 ho1
        rw [if_pos hw] at he1 ho1
        have hk := lbegins_err he he1
        obtain ⟨k1, k2, k3, k4⟩ := lbegins_keeps he1 hk
        have hfin1 : fin ts := by
          rcases hfin with h | h
          · exact absurd h h4
          · exact h
        by_cases hv : t.kind = 2
        · rw [pterm, if_pos hv]
          exact ⟨_, lbegins L t.kind t.text.length, rfl, ⟨ho1, hfin1, Or.inl (by rw [k1, hv]; rfl), k2, he1, k3, k4⟩, by simp⟩
        · have hk1 : t.kind = 1 := by omega
          rw [pterm, if_neg hv]
          cases ts with
          | nil => exact hfin1.elim
          | cons u us =>
            rw [pname]
            simp only [List.length_cons] at h1 h2
            rw [if_pos hk1] at k1
            by_cases hu : u.kind = 40
            · rw [if_neg (by simp [hu])]
              obtain ⟨he2, ho2⟩ := okk_cons ho1 (by omega)
              unfold lstep at he2 ho2
              rw [if_neg (by omega), if_neg (by omega), hu] at he2 ho2
              have hE : lfollows (lbegins L t.kind t.text.length) 40 = { lbegins L t.kind t.text.length with stk := 0 :: (lbegins L t.kind t.text.length).stk, want := 2 } := by
                simp [lfollows, k1]
              have hfin2 : fin us := by
                rcases hfin1 with h | h
                · omega
                · exact h
              obtain ⟨q, L2, h5, h6, h7⟩ := args_ok n f IH (us.length + 1) u us _ 0 (lstart L).stk names [] (by omega) (by omega) (by omega) (by omega) ho2 hfin2 (by rw [hE]) (by rw [hE, ← k2]) (by rw [hE]; exact he1)
              rw [h5]
              refine ⟨_, L2, rfl, ⟨h6.ok, h6.fin, h6.want, h6.stk, h6.err, ?_, ?_⟩, by simp; omega⟩
              · rw [h6.query, hE]; exact k3
              · rw [h6.body, hE]
                simpa using k4
            · rw [if_pos hu]
              refine ⟨_, lbegins L t.kind t.text.length, rfl, ⟨ho1, hfin1, Or.inr ⟨k1, ?_⟩, k2, he1, k3, k4⟩, by simp⟩
              intro y ys hy
              simp at hy
              rw [← hy.1]; exact hu

end Go.Proofs.YtcbckkenifmchaaGreatDoor
