/-
  PROVED HERE: a query, a program that the reference's 'over' lets by can be read; what the reference's 'Query' and 'Program' answer at every text (the one condition: a string is no longer than a string may be).
-/
import Derived.Test.YtcbckkenifmchaaGreatDoorRefOk
namespace Go.Proofs.YtcbckkenifmchaaGreatDoor
open Go.RowKit
set_option linter.unusedSimpArgs false
set_option linter.unusedVariables false

theorem aft_out {y : Tok} {ys : List Tok} {L L' : LookS} (h : Aft (y :: ys) L L' []) :
    (y.kind = 44 ∧ L'.body = true ∧ okk ys (lfollows L' 44) ∧ fin ys ∧ (lfollows L' 44) = { L' with want := 1 }) ∨
    (y.kind = 3 ∧ L'.body = false ∧ okk ys (lfollows L' 3) ∧ fin ys ∧ (lfollows L' 3) = { L' with body := true, goals := 0, want := 1 }) ∨
    (y.kind = 46 ∧ okk ys (lfollows L' 46) ∧ fin ys ∧ (lfollows L' 46) = { L' with want := if L'.query then 5 else 0 }) := by
  have hw : ¬ L'.want ≤ 2 ∧ L'.want ≠ 5 ∧ L'.want ≠ 0 := by rcases h.want with hw | ⟨hw, _⟩ <;> omega
  have h4 : ¬ (y.kind = 4 ∧ (L'.want = 5 ∨ L'.want = 0)) := by omega
  obtain ⟨he, ho⟩ := okk_cons h.ok h4
  unfold lstep at he ho
  rw [if_neg hw.1, if_neg hw.2.1] at he ho
  have hst := h.stk
  have h40 : ¬ (y.kind = 40 ∧ L'.want = 3) := by
    rintro ⟨h1, h2⟩
    rcases h.want with hw | ⟨_, hw⟩
    · omega
    · exact hw y ys rfl h1
  have hfin : y.kind ≠ 4 → fin ys := fun hy => by
    rcases h.fin with h | h
    · exact absurd h hy
    · exact h
  by_cases h44 : y.kind = 44
  · left
    rw [h44] at ho he
    cases hb : L'.body
    · simp [lfollows, hst, hb] at he
    · exact ⟨h44, rfl, ho, hfin (by omega), by simp [lfollows, hst, hb]⟩
  · by_cases h3 : y.kind = 3
    · right; left
      rw [h3] at ho he
      cases hb : L'.body
      · exact ⟨h3, rfl, ho, hfin (by omega), by simp [lfollows, hst, hb]⟩
      · simp [lfollows, hst, hb] at he
    · by_cases h46 : y.kind = 46
      · right; right
        rw [h46] at ho he
        refine ⟨h46, ho, hfin (by omega), ?_⟩
        cases hq : L'.query <;> simp [lfollows, hst, hq]
      · exfalso
        simp [lfollows, hst, h44, h3, h46] at he
        split at he
        · rename_i hc; exact h40 hc
        · simp at he

theorem not_end {ts : List Tok} {L : LookS} (hok : okk ts L) (hw : L.want = 1) (he : L.err = 0) : ∀ t r, ts = t :: r → t.kind ≠ 4 := by
  rintro t r rfl h4
  have := (okk_cons hok (by omega)).1
  unfold lstep at this
  rw [if_pos (by omega)] at this
  rcases lbegins_err he this with h | h <;> omega

theorem terms_ok : ∀ (g : Nat) (ts : List Tok) (L : LookS) (names : Names) (acc : List (List Sym)), ts.length ≤ g → ts.length ≤ 1000 → okk ts L → fin ts → L.want = 1 → L.stk = [] → L.body = true → L.err = 0 →
    ∃ q L', pterms 1000 g ts names acc = some q ∧ okk q.2.1 L' ∧ fin q.2.1 ∧ L'.want = (if L.query then 5 else 0) ∧ L'.stk = [] ∧ L'.err = 0 ∧ L'.query = L.query ∧ q.2.1.length < ts.length := by
  intro g
  induction g with
  | zero =>
    intro ts L names acc h1 h2 hok hfin
    cases ts with
    | nil => exact hfin.elim
    | cons t ts => simp at h1
  | succ g ih =>
    intro ts L names acc h1 h2 hok hfin hw hst hb he
    obtain ⟨r1, L1, hp, ha, hl⟩ := term_ok ts.length ts L 1000 names (Nat.le_refl _) h2 hok hfin (by omega) he (by omega) (not_end hok hw he)
    have hls : (lstart L).stk = [] := by simp [lstart, hw, hst]
    rw [hls] at ha
    have hb1 : L1.body = true := by rw [ha.body, if_neg (by omega)]; exact hb
    rw [pterms, hp]
    simp only
    cases hr : r1.2.1 with
    | nil => rw [hr] at ha; exact ha.fin.elim
    | cons y ys =>
      rw [hr] at ha hl
      simp only [List.length_cons] at hl
      simp only
      rcases aft_out ha with ⟨hy, _, ho, hf, hE⟩ | ⟨hy, hb2, _⟩ | ⟨hy, ho, hf, hE⟩
      · rw [if_neg (by omega)]
        obtain ⟨q, L2, h5, h6, h7, h8, h9, h10, h11, h12⟩ := ih ys (lfollows L1 44) r1.2.2 (acc ++ [r1.1]) (by omega) (by omega) ho hf (by rw [hE]) (by rw [hE]; exact ha.stk) (by rw [hE]; exact hb1) (by rw [hE]; exact ha.err)
        have hq : (lfollows L1 44).query = L.query := by rw [hE]; exact ha.query
        rw [hq] at h8 h11
        exact ⟨q, L2, h5, h6, h7, h8, h9, h10, h11, by omega⟩
      · rw [hb1] at hb2; cases hb2
      · rw [if_pos hy]
        exact ⟨_, _, rfl, ho, hf, by rw [hE, ha.query], by rw [hE]; exact ha.stk, by rw [hE]; exact ha.err, by rw [hE]; exact ha.query, by simp; omega⟩

theorem clause_ok (ts : List Tok) (L : LookS) (h2 : ts.length ≤ 1000) (hok : okk ts L) (hfin : fin ts) (hw : L.want = 0) (hst : L.stk = []) (he : L.err = 0) (hq : L.query = false) (hne : ∀ t r, ts = t :: r → t.kind ≠ 4) :
    ∃ c L', pclause ts = some c ∧ okk c.2 L' ∧ fin c.2 ∧ L'.want = 0 ∧ L'.stk = [] ∧ L'.err = 0 ∧ L'.query = false ∧ c.2.length < ts.length := by
  obtain ⟨r1, L1, hp, ha, hl⟩ := term_ok ts.length ts L 1000 [] (Nat.le_refl _) h2 hok hfin (by omega) he (by omega) hne
  have hls : (lstart L).stk = [] := by simp [lstart, hw, hst]
  rw [hls] at ha
  have hb1 : L1.body = false := by rw [ha.body, if_pos hw]
  rw [pclause, hp]
  simp only
  cases hr : r1.2.1 with
  | nil => rw [hr] at ha; exact ha.fin.elim
  | cons y ys =>
    rw [hr] at ha hl
    simp only [List.length_cons] at hl
    simp only
    rcases aft_out ha with ⟨hy, hb2, _⟩ | ⟨hy, _, ho, hf, hE⟩ | ⟨hy, ho, hf, hE⟩
    · rw [hb1] at hb2; cases hb2
    · rw [if_pos hy]
      obtain ⟨q, L2, h5, h6, h7, h8, h9, h10, h11, h12⟩ := terms_ok 1000 ys (lfollows L1 3) r1.2.2 [] (by omega) (by omega) ho hf (by rw [hE]) (by rw [hE]; exact ha.stk) (by rw [hE]) (by rw [hE]; exact ha.err)
      have hq2 : (lfollows L1 3).query = false := by rw [hE]; exact ha.query.trans hq
      rw [hq2] at h8 h11
      rw [h5]
      exact ⟨_, L2, rfl, h6, h7, by simpa using h8, h9, h10, h11, by simp; omega⟩
    · rw [if_neg (by omega)]
      have hq2 : L1.query = false := ha.query.trans hq
      exact ⟨_, _, rfl, ho, hf, by rw [hE, hq2]; rfl, by rw [hE]; exact ha.stk, by rw [hE]; exact ha.err, by rw [hE]; exact hq2, by simp; omega⟩

theorem prog_ok : ∀ (g : Nat) (ts : List Tok) (L : LookS) (acc : List Cls), ts.length ≤ g → ts.length ≤ 1000 → okk ts L → fin ts → L.want = 0 → L.stk = [] → L.err = 0 → L.query = false → ∃ cs, pprog g ts acc = some cs := by
  intro g
  induction g with
  | zero =>
    intro ts L acc h1 h2 hok hfin
    cases ts with
    | nil => exact hfin.elim
    | cons t ts => simp at h1
  | succ g ih =>
    intro ts L acc h1 h2 hok hfin hw hst he hq
    cases ts with
    | nil => exact hfin.elim
    | cons t ts =>
      rw [pprog]
      by_cases h4 : t.kind = 4
      · rw [if_pos h4]; exact ⟨_, rfl⟩
      · rw [if_neg h4]
        obtain ⟨c, L1, hp, h5, h6, h7, h8, h9, h10, h11⟩ := clause_ok (t :: ts) L h2 hok hfin hw hst he hq (fun t' r' e => by simp at e; rw [← e.1]; exact h4)
        rw [hp]
        simp only
        simp only [List.length_cons] at h1 h2 h11
        exact ih c.2 L1 _ (by omega) (by omega) h5 h6 h7 h8 h9 h10

theorem fin_end (l : List Tok) (p : Nat) : fin (l ++ [⟨4, [], p⟩]) := by
  induction l with
  | nil => exact Or.inl rfl
  | cons t l ih => exact Or.inr ih

theorem pclause_syms {M : Nat} (ts : List Tok) (c : Cls × List Tok) (hM : ∀ t ∈ ts, t.text.length ≤ M) (h : pclause ts = some c) :
    csize c.1 + c.2.length ≤ ts.length ∧ 1 ≤ csize c.1 + 0 * M ∧ (∀ s ∈ c.1.head, s.name.length ≤ M) ∧ (∀ s ∈ c.1.body.flatten, s.name.length ≤ M) ∧ ∀ t ∈ c.2, t.text.length ≤ M := by
  rw [pclause] at h
  cases hp : pterm 1000 ts [] with
  | none => rw [hp] at h; simp at h
  | some r =>
    rw [hp] at h
    simp only at h
    obtain ⟨h1, h2, h3⟩ := pterm_syms 1000 ts [] r hM hp
    have hpos : 1 ≤ r.1.length := by
      cases hts : ts with
      | nil => rw [hts] at hp; simp [pterm] at hp
      | cons t tr =>
        rw [hts, pterm] at hp
        split at hp
        · simp at hp; rw [← hp]; simp
        · cases tr with
          | nil => simp [pname] at hp
          | cons u us =>
            rw [pname] at hp
            split at hp
            · simp at hp; rw [← hp]; simp
            · rw [Option.map_eq_some_iff] at hp
              obtain ⟨q, _, rfl⟩ := hp
              simp
    cases hr : r.2.1 with
    | nil => rw [hr] at h; simp at h
    | cons y ys =>
      rw [hr] at h h1 h3
      simp only [List.length_cons] at h h1
      split at h
      · rw [Option.map_eq_some_iff] at h
        obtain ⟨q, hq, rfl⟩ := h
        obtain ⟨g1, g2, g3⟩ := pterms_syms 1000 ys r.2.2 [] q (fun t ht => h3 t (by simp [ht])) (by simp) hq
        simp only [List.flatten_nil, List.length_nil] at g1
        refine ⟨?_, ?_, h2, g2, g3⟩
        · unfold csize; simp only; omega
        · unfold csize; simp only; omega
      · simp at h
        subst h
        refine ⟨?_, ?_, h2, by simp, fun t ht => h3 t (by simp [ht])⟩
        · unfold csize; simp; omega
        · unfold csize; simp; omega

theorem pprog_syms {M : Nat} : ∀ (g : Nat) (ts : List Tok) (acc cs : List Cls), (∀ t ∈ ts, t.text.length ≤ M) → (∀ c ∈ acc, (∀ s ∈ c.head, s.name.length ≤ M) ∧ ∀ s ∈ c.body.flatten, s.name.length ≤ M) → pprog g ts acc = some cs →
    (cs.map csize).sum ≤ (acc.map csize).sum + ts.length ∧ cs.length + (acc.map csize).sum ≤ acc.length + (cs.map csize).sum ∧ ∀ c ∈ cs, (∀ s ∈ c.head, s.name.length ≤ M) ∧ ∀ s ∈ c.body.flatten, s.name.length ≤ M := by
  intro g
  induction g with
  | zero => intro ts acc cs _ _ h; simp [pprog] at h
  | succ g ih =>
    intro ts acc cs hM hA h
    cases ts with
    | nil => simp [pprog] at h
    | cons t ts =>
      rw [pprog] at h
      split at h
      · simp at h; subst h
        exact ⟨by omega, by omega, hA⟩
      · split at h
        · simp at h
        · rename_i c hc
          obtain ⟨h1, h1', h2, h3, h4⟩ := pclause_syms (t :: ts) c hM hc
          obtain ⟨h5, h6, h7⟩ := ih c.2 (acc ++ [c.1]) cs h4 (fun d hd => by
            simp at hd
            rcases hd with hd | rfl
            · exact hA d hd
            · exact ⟨h2, h3⟩) h
          simp only [List.map_append, List.map_cons, List.map_nil, List.sum_append, List.sum_cons, List.sum_nil, List.length_append, List.length_cons, List.length_nil] at h5 h6
          simp only [List.length_cons] at h1 ⊢
          exact ⟨by omega, by omega, h7⟩

/-- What the reference's 'Program' answers: the text, the error, the place. -/
def refProgram (s : ByteArray) : List UInt8 × Nat × Nat :=
  if 800 < s.size then ([], 1, 0)
  else if (lover (alltoks s) (lstart0 false)).1 ≠ 0 then ([], (lover (alltoks s) (lstart0 false)).1, (lover (alltoks s) (lstart0 false)).2)
  else match pprog 1000 (alltoks s) [] with
    | none => ([], 0, 0)
    | some cs => (cs.flatMap wclause, 0, 0)

theorem query_reads (s : ByteArray) (hs : s.size ≤ 120) (h : (lover (alltoks s) (lstart0 true)).1 = 0) : ∃ q, pterms 1000 1000 (alltoks s) [] [] = some q := by
  have hl := alltoks_len s
  obtain ⟨q, L', h1, _⟩ := terms_ok 1000 (alltoks s) (lstart0 true) [] [] (by omega) (by omega) h (fin_end _ _) rfl rfl rfl rfl
  exact ⟨q, h1⟩
theorem program_reads (s : ByteArray) (hs : s.size ≤ 800) (h : (lover (alltoks s) (lstart0 false)).1 = 0) : ∃ cs, pprog 1000 (alltoks s) [] = some cs := by
  have hl := alltoks_len s
  exact prog_ok 1000 (alltoks s) (lstart0 false) [] (by omega) (by omega) h (fin_end _ _) rfl rfl rfl rfl

theorem query_refs (s : ByteArray) (w : World) (hm : s.size ≤ maxLen) :
    Calls Tryz.prog 17 #[.string s] w fun e w' => e = .returned (.tuple #[.string ⟨(refQuery s).1.toArray⟩, .int .i64 (refQuery s).2.1, .int .i64 (refQuery s).2.2]) ∧ Below w.heap.size w w' :=
  query_ref s w hm (query_reads s)

set_option maxRecDepth 10000 in
set_option maxHeartbeats 1000000 in
theorem program_refs (s : ByteArray) (w : World) (hm : s.size ≤ maxLen) :
    Calls Tryz.prog 15 #[.string s] w fun e w' => e = .returned (.tuple #[.string ⟨(refProgram s).1.toArray⟩, .int .i64 (refProgram s).2.1, .int .i64 (refProgram s).2.2]) ∧ Below w.heap.size w w' := by
  by_cases hs : 800 < s.size
  · have hr : refProgram s = ([], 1, 0) := by rw [refProgram, if_pos hs]
    rw [hr]
    clear hr
    go_enter Tryz.func15, Tryz.ntmps15
    go_wp2_with fail
    refine (readProgram_long s _ hm hs).mono ?_
    rintro e w1 ⟨rfl, hb⟩
    have Hb := hide' hb
    clear hb
    go_wp2
    go_ret3
    exact ⟨rfl, Hb.out⟩
  · by_cases he : (lover (alltoks s) (lstart0 false)).1 ≠ 0
    · have hr : refProgram s = ([], (lover (alltoks s) (lstart0 false)).1, (lover (alltoks s) (lstart0 false)).2) := by rw [refProgram, if_neg hs, if_pos he]
      rw [hr]
      clear hr
      have he' : (((lover (alltoks s) (lstart0 false)).1 : Int) != 0) = true := by rw [bne_iff_ne]; omega
      go_enter Tryz.func15, Tryz.ntmps15
      go_wp2_with fail
      refine (readProgram_err s _ (by omega) he).mono ?_
      rintro e w1 ⟨rfl, hb⟩
      have Hb := hide' hb
      clear hb
      go_wp2
      go_ret3
      exact ⟨rfl, Hb.out⟩
    · have he0 : (lover (alltoks s) (lstart0 false)).1 = 0 := by omega
      obtain ⟨cs, hq⟩ := program_reads s (by omega) he0
      have hr : refProgram s = (cs.flatMap wclause, 0, 0) := by rw [refProgram, if_neg hs, if_neg he, hq]
      rw [hr]
      have hl := alltoks_len s
      obtain ⟨y1, y2, y3⟩ := pprog_syms (M := 4096) 1000 (alltoks s) [] cs (fun t ht => by have := alltoks_text s t ht; omega) (by simp) hq
      simp only [List.map_nil, List.sum_nil, List.length_nil] at y1 y2
      exact program_text s w cs (by omega) he0 hq (by omega) (by omega) y3

end Go.Proofs.YtcbckkenifmchaaGreatDoor
