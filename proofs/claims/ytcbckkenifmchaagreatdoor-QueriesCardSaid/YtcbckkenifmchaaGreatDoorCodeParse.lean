/-
  PROVED HERE: plain facts: what the program's reader has read of a text that is let by is what the reference reads (the conditions stand in each statement).
-/
import Derived.Test.YtcbckkenifmchaaGreatDoorCodeSim
namespace Go.Proofs.YtcbckkenifmchaaGreatDoor
set_option linter.unusedSimpArgs false
set_option linter.unusedVariables false

/-- The reader behind a term. -/
def termS (st : RS) (l : List Sym) (names : Names) (nx : Nat) : RS := { st with atom := bumpS st ++ l, vars := names, next := nx }

def TermRun (n : Nat) : Prop := ∀ (ts : List Tok) (L : LookS) (f : Nat) (st : RS), ts.length ≤ n → ts.length ≤ f → okk ts L → fin ts → L.want ≤ 2 → L.err = 0 → (L.want = 2 → L.stk ≠ []) → (∀ t r, ts = t :: r → t.kind ≠ 4) →
  ∃ r L' m, pterm f ts st.vars = some r ∧ Aft r.2.1 L L' (lstart L).stk ∧ r.2.1 = ts.drop m ∧ r.2.1.length < ts.length ∧ takes (ts.take m) st = termS st r.1 r.2.2 L'.want

theorem takes_split {xs ys : List Tok} {y : Tok} {m1 : Nat} (h : xs.drop m1 = y :: ys) (m2 : Nat) (st : RS) : takes (xs.take (m1 + (1 + m2))) st = takes (ys.take m2) (takeS (takes (xs.take m1) st) (kmap y.kind) y.text) ∧ xs.drop (m1 + (1 + m2)) = ys.drop m2 := by
  constructor
  · rw [List.take_add, takes_append, h, Nat.add_comm 1 m2]
    rfl
  · rw [← List.drop_drop, h, Nat.add_comm 1 m2]
    rfl

theorem bump_at (A : List Sym) (nm : List UInt8) (k : Nat) (B : List Sym) : (A ++ (⟨nm, 0, k⟩ : Sym) :: B).modify A.length (fun s => { s with args := s.args + 1 }) = A ++ ⟨nm, 0, k + 1⟩ :: B := by
  induction A with
  | nil => simp
  | cons a A ih => simp [ih]

theorem args_run (n f : Nat) (IH : TermRun n) : ∀ (g : Nat) (x : Tok) (xs : List Tok) (L : LookS) (m : Nat) (r : List Nat) (acc : List (List Sym)) (st : RS) (A : List Sym) (nm : List UInt8) (o : List Nat), xs.length ≤ n → xs.length ≤ f → xs.length + 1 ≤ g → x.kind ≠ 41 →
    okk xs L → fin xs → L.want = 2 → L.stk = m :: r → L.err = 0 → st.atom = A ++ ⟨nm, 0, acc.length⟩ :: acc.flatten → st.opn = A.length :: o →
    ∃ q L' i, pargs (pterm f) g (x :: xs) st.vars acc = some q ∧ Aft q.2.1 L L' r ∧ L'.want = 4 ∧ q.2.1 = xs.drop i ∧ q.2.1.length < xs.length ∧
      takes (xs.take i) st = { st with atom := A ++ ⟨nm, 0, q.1.length⟩ :: q.1.flatten, opn := o, vars := q.2.2, next := 4 } := by
  intro g
  induction g with
  | zero => intro x xs L m r acc st A nm o h1 h1' h2; omega
  | succ g ih =>
    intro x xs L m r acc st A nm o h1 h1' h2 h41 hok hfin hw hst he hat hop
    have hx4 : ∀ t r, xs = t :: r → t.kind ≠ 4 := by
      rintro t r rfl h4
      have := (okk_cons hok (by omega)).1
      unfold lstep at this
      rw [if_pos (by omega)] at this
      rcases lbegins_err he this with h | h <;> omega
    obtain ⟨r1, L1, m1, hp, ha, hd, hl, htk⟩ := IH xs L f st h1 (by omega) hok hfin (by omega) he (by rw [hst]; simp) hx4
    have hls : (lstart L).stk = (m + 1) :: r := by simp [lstart, hw, hst]
    rw [hls] at ha
    rw [pargs, if_neg h41, hp]
    simp only
    have hbump : bumpS st = A ++ ⟨nm, 0, acc.length + 1⟩ :: acc.flatten := by
      unfold bumpS
      rw [hop]
      simp only
      rw [hat, bump_at]
    cases hr : r1.2.1 with
    | nil => rw [hr] at ha; exact ha.fin.elim
    | cons y ys =>
      rw [hr] at ha hl hd
      simp only [List.length_cons] at hl
      have hat1 : (termS st r1.1 r1.2.2 L1.want).atom = A ++ ⟨nm, 0, (acc ++ [r1.1]).length⟩ :: (acc ++ [r1.1]).flatten := by
        unfold termS
        simp [hbump]
      rcases aft_in ha with ⟨hy, ho, hf, hE⟩ | ⟨hy, ho, hf, hE⟩
      · have hst1 : takeS (termS st r1.1 r1.2.2 L1.want) (kmap y.kind) y.text = { termS st r1.1 r1.2.2 L1.want with next := 2 } := by
          rw [hy]
          simp [kmap44, takeS, commaS, termS, hop]
        obtain ⟨q, L2, i, h5, h6, h6', h7, h7', h8⟩ := ih y ys (lfollows L1 44) (m + 1) r (acc ++ [r1.1]) { termS st r1.1 r1.2.2 L1.want with next := 2 } A nm o (by omega) (by omega) (by omega) (by omega) ho hf (by rw [hE]) (by rw [hE]; exact ha.stk) (by rw [hE]; exact ha.err) hat1 hop
        obtain ⟨hs1, hs2⟩ := takes_split hd.symm i st
        refine ⟨q, L2, m1 + (1 + i), h5, ⟨h6.ok, h6.fin, h6.want, h6.stk, h6.err, ?_, ?_⟩, h6', ?_, by omega, ?_⟩
        · rw [h6.query, hE]; exact ha.query
        · rw [h6.body, hE]
          have := ha.body
          simp [hw] at this ⊢
          exact this
        · rw [hs2]; exact h7
        · rw [hs1, htk, hst1, h8]
          rfl
      · have hst1 : takeS (termS st r1.1 r1.2.2 L1.want) (kmap y.kind) y.text = { termS st r1.1 r1.2.2 L1.want with opn := o, next := 4 } := by
          rw [hy]
          simp [kmap41, takeS, closeS, termS, hop]
        obtain ⟨hs1, hs2⟩ := takes_split hd.symm 0 st
        refine ⟨(acc ++ [r1.1], ys, r1.2.2), lfollows L1 41, m1 + (1 + 0), ?_, ⟨ho, hf, Or.inl (by rw [hE]), by rw [hE], by rw [hE]; exact ha.err, by rw [hE]; exact ha.query, by rw [hE]; exact ha.body⟩, by rw [hE], ?_, by simp; omega, ?_⟩
        · cases g with
          | zero => omega
          | succ g => rw [pargs, if_pos hy]
        · rw [hs2]; rfl
        · rw [hs1, htk, hst1]
          show ({ termS st r1.1 r1.2.2 L1.want with opn := o, next := 4 } : RS) = _
          have : ({ termS st r1.1 r1.2.2 L1.want with opn := o, next := 4 } : RS) = { st with atom := (termS st r1.1 r1.2.2 L1.want).atom, opn := o, vars := r1.2.2, next := 4 } := rfl
          rw [this, hat1]

theorem term_run : ∀ n, TermRun n := by
  intro n
  induction n with
  | zero =>
    intro ts L f st h1 h2 hok hfin
    cases ts with
    | nil => exact hfin.elim
    | cons t ts => simp at h1
  | succ n IH =>
    intro ts L f st h1 h2 hok hfin hw he hst hne
    cases ts with
    | nil => exact hfin.elim
    | cons t ts =>
      have h4 := hne t ts rfl
      simp only [List.length_cons] at h1 h2
      cases f with
      | zero => omega
      | succ f =>
        obtain ⟨he1, ho1⟩ := okk_cons hok (by omega)
        unfold lstep at he1 ho1
        rw [if_pos hw] at he1 ho1
        have hk := lbegins_err he he1
        obtain ⟨k1, k2, k3, k4⟩ := lbegins_keeps he1 hk
        have hfin1 : fin ts := by
          rcases hfin with h | h
          · exact absurd h h4
          · exact h
        by_cases hv : t.kind = 2
        · rw [pterm, if_pos hv]
          refine ⟨_, lbegins L t.kind t.text.length, 1, rfl, ⟨ho1, hfin1, Or.inl (by rw [k1, hv]; rfl), k2, he1, k3, k4⟩, rfl, by simp, ?_⟩
          have ht : takeS st (kmap t.kind) t.text = { st with atom := bumpS st ++ [⟨[], (numberOf st.vars t.text).2, 0⟩], vars := (numberOf st.vars t.text).1, next := 4 } := by rw [hv]; simp [kmap2, takeS, addS, varS, bumpS]
          show takeS st (kmap t.kind) t.text = _
          rw [ht, k1, if_neg (by omega)]
          rfl
        · have hk1 : t.kind = 1 := by omega
          have ht1 : takeS st (kmap t.kind) t.text = { st with atom := bumpS st ++ [⟨t.text, 0, 0⟩], next := 3 } := by rw [hk1]; simp [kmap1, takeS, addS]
          rw [pterm, if_neg hv]
          cases ts with
          | nil => exact hfin1.elim
          | cons u us =>
            rw [pname]
            simp only [List.length_cons] at h1 h2
            rw [if_pos hk1] at k1
            by_cases hu : u.kind = 40
            · rw [if_neg (by simp [hu])]
              obtain ⟨he2, ho2⟩ := okk_cons ho1 (by omega)
              unfold lstep at he2 ho2
              rw [if_neg (by omega), if_neg (by omega), hu] at he2 ho2
              have hE : lfollows (lbegins L t.kind t.text.length) 40 = { lbegins L t.kind t.text.length with stk := 0 :: (lbegins L t.kind t.text.length).stk, want := 2 } := by
                simp [lfollows, k1]
              have hfin2 : fin us := by
                rcases hfin1 with h | h
                · omega
                · exact h
              have ht2 : takeS { st with atom := bumpS st ++ [⟨t.text, 0, 0⟩], next := 3 } (kmap u.kind) u.text = { st with atom := bumpS st ++ [⟨t.text, 0, 0⟩], opn := (bumpS st).length :: st.opn, next := 2 } := by
                rw [hu]; simp [kmap40, takeS]
              obtain ⟨q, L2, i, h5, h6, h6', h7, h7', h8⟩ := args_run n f IH (us.length + 1) u us _ 0 (lstart L).stk [] { st with atom := bumpS st ++ [⟨t.text, 0, 0⟩], opn := (bumpS st).length :: st.opn, next := 2 } (bumpS st) t.text st.opn (by omega) (by omega) (by omega) (by omega) ho2 hfin2 (by rw [hE]) (by rw [hE, ← k2]) (by rw [hE]; exact he1) rfl rfl
              rw [show pargs (pterm f) (us.length + 1) (u :: us) st.vars [] = some q from h5]
              refine ⟨_, L2, i + 2, rfl, ⟨h6.ok, h6.fin, h6.want, h6.stk, h6.err, ?_, ?_⟩, ?_, by simp; omega, ?_⟩
              · rw [h6.query, hE]; exact k3
              · rw [h6.body, hE]
                simpa using k4
              · exact h7
              · show takes (us.take i) (takeS (takeS st (kmap t.kind) t.text) (kmap u.kind) u.text) = _
                rw [ht1, ht2, h8, h6']
                rfl
            · rw [if_pos hu]
              refine ⟨_, lbegins L t.kind t.text.length, 1, rfl, ⟨ho1, hfin1, Or.inr ⟨k1, ?_⟩, k2, he1, k3, k4⟩, rfl, by simp, ?_⟩
              · intro y ys hy
                simp at hy
                rw [← hy.1]; exact hu
              · show takeS st (kmap t.kind) t.text = _
                rw [ht1, k1]
                rfl

/-- The reader behind a clause. -/
def clsS (st : RS) (hd : List Sym) (bd : List (List Sym)) : RS := { st with clauses := st.clauses ++ [⟨hd, bd⟩], atom := [], opn := [], head := [], body := [], vars := [], inBody := false, next := if st.query then 5 else 0 }

theorem terms_run : ∀ (g : Nat) (ts : List Tok) (L : LookS) (acc : List (List Sym)) (st : RS), ts.length ≤ g → ts.length ≤ 1000 → okk ts L → fin ts → L.want = 1 → L.stk = [] → L.body = true → L.err = 0 → st.opn = [] → st.atom = [] → st.inBody = true →
    ∃ q L' i ex, pterms 1000 g ts st.vars acc = some q ∧ okk q.2.1 L' ∧ fin q.2.1 ∧ L'.want = (if L.query then 5 else 0) ∧ L'.stk = [] ∧ L'.err = 0 ∧ L'.query = L.query ∧ q.2.1.length < ts.length ∧ q.2.1 = ts.drop i ∧ q.1 = acc ++ ex ∧
      takes (ts.take i) st = clsS st st.head (st.body ++ ex) := by
  intro g
  induction g with
  | zero =>
    intro ts L acc st h1 h2 hok hfin
    cases ts with
    | nil => exact hfin.elim
    | cons t ts => simp at h1
  | succ g ih =>
    intro ts L acc st h1 h2 hok hfin hw hst hb he hop hat hib
    obtain ⟨r1, L1, m1, hp, ha, hd, hl, htk⟩ := term_run ts.length ts L 1000 st (Nat.le_refl _) h2 hok hfin (by omega) he (by omega) (not_end hok hw he)
    have hls : (lstart L).stk = [] := by simp [lstart, hw, hst]
    rw [hls] at ha
    have hb1 : L1.body = true := by rw [ha.body, if_neg (by omega)]; exact hb
    have hbump : bumpS st = [] := by simp [bumpS, hop, hat]
    rw [pterms, hp]
    simp only
    cases hr : r1.2.1 with
    | nil => rw [hr] at ha; exact ha.fin.elim
    | cons y ys =>
      rw [hr] at ha hl hd
      simp only [List.length_cons] at hl
      simp only
      rcases aft_out ha with ⟨hy, _, ho, hf, hE⟩ | ⟨hy, hb2, _⟩ | ⟨hy, ho, hf, hE⟩
      · rw [if_neg (by omega)]
        have hst1 : takeS (termS st r1.1 r1.2.2 L1.want) (kmap y.kind) y.text = { st with body := st.body ++ [r1.1], atom := [], vars := r1.2.2, next := 1 } := by
          rw [hy]
          simp [kmap44, takeS, commaS, endAtomS, termS, hop, hib, hbump]
        obtain ⟨q, L2, i, ex, h5, h6, h7, h8, h9, h10, h11, h12, h13, h14, h15⟩ := ih ys (lfollows L1 44) (acc ++ [r1.1]) { st with body := st.body ++ [r1.1], atom := [], vars := r1.2.2, next := 1 } (by omega) (by omega) ho hf (by rw [hE]) (by rw [hE]; exact ha.stk) (by rw [hE]; exact hb1) (by rw [hE]; exact ha.err) hop rfl hib
        have hq : (lfollows L1 44).query = L.query := by rw [hE]; exact ha.query
        rw [hq] at h8 h11
        obtain ⟨hs1, hs2⟩ := takes_split hd.symm i st
        refine ⟨q, L2, m1 + (1 + i), r1.1 :: ex, h5, h6, h7, h8, h9, h10, h11, by omega, by rw [hs2]; exact h13, by rw [h14]; simp, ?_⟩
        rw [hs1, htk, hst1, h15]
        simp [clsS]
      · rw [hb1] at hb2; cases hb2
      · rw [if_pos hy]
        have hst1 : takeS (termS st r1.1 r1.2.2 L1.want) (kmap y.kind) y.text = clsS st st.head (st.body ++ [r1.1]) := by
          rw [hy]
          simp [kmap46, takeS, endClauseS, endAtomS, termS, hop, hib, hbump, clsS]
        obtain ⟨hs1, hs2⟩ := takes_split hd.symm 0 st
        refine ⟨_, _, m1 + (1 + 0), [r1.1], rfl, ho, hf, by rw [hE, ha.query], by rw [hE]; exact ha.stk, by rw [hE]; exact ha.err, by rw [hE]; exact ha.query, by simp; omega, by rw [hs2]; rfl, rfl, ?_⟩
        rw [hs1, htk, hst1]
        rfl

/-- Between two clauses. -/
structure Clean (st : RS) : Prop where
  query : st.query = false
  next : st.next = 0
  inb : st.inBody = false
  atom : st.atom = []
  opn : st.opn = []
  head : st.head = []
  body : st.body = []
  vars : st.vars = []

theorem clause_run (ts : List Tok) (L : LookS) (st : RS) (h2 : ts.length ≤ 1000) (hok : okk ts L) (hfin : fin ts) (hw : L.want = 0) (hst : L.stk = []) (he : L.err = 0) (hq : L.query = false) (hne : ∀ t r, ts = t :: r → t.kind ≠ 4) (hc : Clean st) :
    ∃ c L' i, pclause ts = some c ∧ okk c.2 L' ∧ fin c.2 ∧ L'.want = 0 ∧ L'.stk = [] ∧ L'.err = 0 ∧ L'.query = false ∧ c.2.length < ts.length ∧ c.2 = ts.drop i ∧ takes (ts.take i) st = { st with clauses := st.clauses ++ [⟨c.1.head, c.1.body⟩] } := by
  obtain ⟨r1, L1, m1, hp, ha, hd, hl, htk⟩ := term_run ts.length ts L 1000 st (Nat.le_refl _) h2 hok hfin (by omega) he (by omega) hne
  have hls : (lstart L).stk = [] := by simp [lstart, hw, hst]
  rw [hls] at ha
  have hb1 : L1.body = false := by rw [ha.body, if_pos hw]
  have hbump : bumpS st = [] := by simp [bumpS, hc.opn, hc.atom]
  have hback : ∀ hd bd, clsS st hd bd = { st with clauses := st.clauses ++ [⟨hd, bd⟩] } := by
    intro hd bd
    obtain ⟨c1, c2, c3, c4, c5, c6, c7, c8⟩ := hc
    cases st
    simp only at c1 c2 c3 c4 c5 c6 c7 c8
    subst c1 c2 c3 c4 c5 c6 c7 c8
    rfl
  rw [hc.vars] at hp
  rw [pclause, hp]
  simp only
  cases hr : r1.2.1 with
  | nil => rw [hr] at ha; exact ha.fin.elim
  | cons y ys =>
    rw [hr] at ha hl hd
    simp only [List.length_cons] at hl
    simp only
    rcases aft_out ha with ⟨hy, hb2, _⟩ | ⟨hy, _, ho, hf, hE⟩ | ⟨hy, ho, hf, hE⟩
    · rw [hb1] at hb2; cases hb2
    · rw [if_pos hy]
      have hst1 : takeS (termS st r1.1 r1.2.2 L1.want) (kmap y.kind) y.text = { st with head := r1.1, atom := [], vars := r1.2.2, inBody := true, next := 1 } := by
        rw [hy]
        simp [kmap3, takeS, endAtomS, termS, hc.inb, hbump]
      obtain ⟨q, L2, i, ex, h5, h6, h7, h8, h9, h10, h11, h12, h13, h14, h15⟩ := terms_run 1000 ys (lfollows L1 3) [] { st with head := r1.1, atom := [], vars := r1.2.2, inBody := true, next := 1 } (by omega) (by omega) ho hf (by rw [hE]) (by rw [hE]; exact ha.stk) (by rw [hE]) (by rw [hE]; exact ha.err) hc.opn rfl rfl
      have hq2 : (lfollows L1 3).query = false := by rw [hE]; exact ha.query.trans hq
      rw [hq2] at h8 h11
      rw [h5]
      obtain ⟨hs1, hs2⟩ := takes_split hd.symm i st
      refine ⟨_, L2, m1 + (1 + i), rfl, h6, h7, by simpa using h8, h9, h10, h11, by simp; omega, by rw [hs2]; exact h13, ?_⟩
      rw [hs1, htk, hst1, h15, ← hback]
      simp only [List.nil_append] at h14
      simp [clsS, hc.body, h14]
    · rw [if_neg (by omega)]
      have hq2 : L1.query = false := ha.query.trans hq
      have hst1 : takeS (termS st r1.1 r1.2.2 L1.want) (kmap y.kind) y.text = clsS st r1.1 [] := by
        rw [hy]
        simp [kmap46, takeS, endClauseS, endAtomS, termS, hc.opn, hc.inb, hc.body, hbump, clsS]
      obtain ⟨hs1, hs2⟩ := takes_split hd.symm 0 st
      refine ⟨_, _, m1 + (1 + 0), rfl, ho, hf, by rw [hE, hq2]; rfl, by rw [hE]; exact ha.stk, by rw [hE]; exact ha.err, by rw [hE]; exact hq2, by simp; omega, by rw [hs2]; rfl, ?_⟩
      rw [hs1, htk, hst1, hback]
      rfl

theorem prog_run : ∀ (g : Nat) (ts : List Tok) (L : LookS) (acc : List Cls) (st : RS), ts.length ≤ g → ts.length ≤ 1000 → okk ts L → fin ts → L.want = 0 → L.stk = [] → L.err = 0 → L.query = false → Clean st →
    ∃ cs i ex, pprog g ts acc = some cs ∧ (∃ t r, ts.drop i = t :: r ∧ t.kind = 4) ∧ cs = acc ++ ex ∧ takes (ts.take i) st = { st with clauses := st.clauses ++ ex.map (fun c => ⟨c.head, c.body⟩) } := by
  intro g
  induction g with
  | zero =>
    intro ts L acc st h1 h2 hok hfin
    cases ts with
    | nil => exact hfin.elim
    | cons t ts => simp at h1
  | succ g ih =>
    intro ts L acc st h1 h2 hok hfin hw hst he hq hc
    cases ts with
    | nil => exact hfin.elim
    | cons t ts =>
      rw [pprog]
      by_cases h4 : t.kind = 4
      · rw [if_pos h4]
        exact ⟨_, 0, [], rfl, ⟨t, ts, rfl, h4⟩, by simp, by simp [takes]⟩
      · rw [if_neg h4]
        obtain ⟨c, L1, i, hp, h5, h6, h7, h8, h9, h10, h11, h12, h13⟩ := clause_run (t :: ts) L st h2 hok hfin hw hst he hq (fun t' r' e => by simp at e; rw [← e.1]; exact h4) hc
        rw [hp]
        simp only
        simp only [List.length_cons] at h1 h2 h11
        obtain ⟨cs, j, ex, k1, k2, k3, k4⟩ := ih c.2 L1 (acc ++ [c.1]) { st with clauses := st.clauses ++ [⟨c.1.head, c.1.body⟩] } (by omega) (by omega) h5 h6 h7 h8 h9 h10 ⟨hc.query, hc.next, hc.inb, hc.atom, hc.opn, hc.head, hc.body, hc.vars⟩
        refine ⟨cs, i + j, c.1 :: ex, k1, ?_, by rw [k3]; simp, ?_⟩
        · rw [← List.drop_drop, ← h12]; exact k2
        · rw [List.take_add, takes_append, h13, ← h12, k4]
          simp

/-- The End is the last of the tokens. -/
theorem end_is {ts : List Tok} {e : Tok} {i : Nat} (hk : ∀ t ∈ ts, isKind t.kind) (h : ∃ t r, (ts ++ [e]).drop i = t :: r ∧ t.kind = 4) : (ts ++ [e]).take i = ts := by
  obtain ⟨t, r, hd, h4⟩ := h
  rcases Nat.lt_trichotomy i ts.length with hi | hi | hi
  · exfalso
    rw [List.drop_append_of_le_length (by omega), List.drop_eq_getElem_cons hi, List.cons_append] at hd
    simp only [List.cons.injEq] at hd
    have := hk ts[i] (List.getElem_mem hi)
    rw [hd.1] at this
    rcases this with h | h | h | h | h | h | h | h <;> omega
  · subst hi
    simp
  · exfalso
    rw [List.drop_eq_nil_of_le (by simp; omega)] at hd
    simp at hd

end Go.Proofs.YtcbckkenifmchaaGreatDoor
