/-
  PROVED HERE: plain facts: the program's own reading and writing of a whole text is the reference's (the conditions stand in each statement).
-/
import Derived.Test.YtcbckkenifmchaaGreatDoorCodePlain
namespace Go.Proofs.YtcbckkenifmchaaGreatDoor
set_option linter.unusedSimpArgs false
set_option linter.unusedVariables false

theorem alltoks_worded (s : ByteArray) : Worded (alltoks s) := alltoks_some s

theorem runs_lover (s : ByteArray) (q : Bool) : (runs s q).1 = (lover (alltoks s) (lstart0 q)).1 ∧ ((runs s q).1 ≠ 0 → (runs s q).2.1 = (lover (alltoks s) (lstart0 q)).2) ∧ ((runs s q).1 = 0 → (runs s q).2.2 = takes (toks s.data.toList 0) (st0 q)) :=
  run_lover s.size _ _ _ (sim0 q) (toks_kinds _ _)

theorem rest_end {ts : List Tok} {L : LookS} (hok : okk ts L) (hf : fin ts) (hw : L.want = 5) : ∃ t r, ts = t :: r ∧ t.kind = 4 := by
  cases ts with
  | nil => exact hf.elim
  | cons t r =>
    refine ⟨t, r, rfl, ?_⟩
    apply Classical.byContradiction
    intro hk
    have h := (okk_cons hok (fun hc => hk hc.1)).1
    unfold lstep at h
    rw [if_neg (by omega), if_pos hw] at h
    simp at h

theorem query_fits (s : ByteArray) (hs : s.size ≤ 120) (h0 : (runs s true).1 = 0) :
    ∃ q, pterms 1000 1000 (alltoks s) [] [] = some q ∧ (runs s true).2.2.clauses = [⟨[], q.1⟩] ∧ bodyC [] q.1 = wlisted 1000 [] q.1 [] ∧ q.1.length ≤ 4000 ∧ (∀ l ∈ q.1, SymOk l) ∧ (bodyC [] q.1).length ≤ 100000000 := by
  obtain ⟨r1, _, r3⟩ := runs_lover s true
  have hl := alltoks_len s
  have hok : okk (alltoks s) (lstart0 true) := r1.symm.trans h0
  obtain ⟨q, L', i, ex, h1, h2, h3, h4, _, _, _, _, h9, h10, h11⟩ := terms_run 1000 (alltoks s) (lstart0 true) [] (st0 true) (by omega) (by omega) hok (fin_end _ _) rfl rfl rfl rfl rfl rfl rfl
  have hend : (alltoks s).take i = toks s.data.toList 0 := end_is (toks_kinds _ _) (by
    obtain ⟨t, r, e1, e2⟩ := rest_end h2 h3 (by rw [h4]; rfl)
    exact ⟨t, r, by rw [← e1, h9]; rfl, e2⟩)
  rw [hend] at h11
  have h1' : pterms 1000 1000 (alltoks s) [] [] = some q := h1
  have hM := pterms_syms (M := 120) 1000 (alltoks s) [] [] q (fun t ht => Nat.le_trans (alltoks_text s t ht) hs) (by simp) h1'
  obtain ⟨g1, g2, _⟩ := terms_good 1000 0 1000 (alltoks s) [] [] q (alltoks_worded s) (by simp) rfl h1'
  have hfl := flat_len 1000 q.1 g1
  have hlen : q.1.flatten.length ≤ 121 := by have := hM.1; simp only [List.flatten_nil, List.length_nil] at this; omega
  obtain ⟨_, b2, _⟩ := scan_bound _ _ _ g2
  have hw := body_writes 1000 q.1 g1 0 _ [] g2
  simp only [List.range_zero] at hw
  have hwl := wlisted_len 1000 q.1 g1 (fun x hx => Nat.le_trans (hM.2.1 x hx) (by omega)) [] [] (by simp) (by simp only [List.length_nil]; omega)
  refine ⟨q, h1', ?_, hw, by omega, body_ok 1000 q.1 0 _ g1 g2 (by omega) (by omega), ?_⟩
  · rw [r3 h0, h11, h10]
    rfl
  · rw [hw]; omega

theorem sums_len (cs : List Cls) (h : ∀ c ∈ cs, (wclause c).length ≤ 4110 * csize c) : (cs.flatMap wclause).length ≤ 4110 * (cs.map csize).sum := by
  induction cs with
  | nil => simp
  | cons c cs ih =>
    have h1 := ih (fun x hx => h x (by simp [hx]))
    have h2 := h c (by simp)
    simp only [List.flatMap_cons, List.length_append, List.map_cons, List.sum_cons]
    omega
theorem sums_mem (cs : List Cls) (c : Cls) (h : c ∈ cs) : csize c ≤ (cs.map csize).sum := by
  induction cs with
  | nil => simp at h
  | cons x cs ih =>
    simp only [List.mem_cons] at h
    simp only [List.map_cons, List.sum_cons]
    rcases h with rfl | h
    · omega
    · have := ih h; omega

theorem program_fits (s : ByteArray) (hs : s.size ≤ 800) (h0 : (runs s false).1 = 0) :
    ∃ cs, pprog 1000 (alltoks s) [] = some cs ∧ (progC (runs s false).2.2.clauses) = cs.flatMap wclause ∧ (runs s false).2.2.clauses.length ≤ 4000 ∧ (∀ c ∈ (runs s false).2.2.clauses, c.body.length ≤ 4000 ∧ SymOk c.head ∧ ∀ l ∈ c.body, SymOk l) ∧ (cs.flatMap wclause).length ≤ 100000000 := by
  obtain ⟨r1, _, r3⟩ := runs_lover s false
  have hl := alltoks_len s
  have hok : okk (alltoks s) (lstart0 false) := r1.symm.trans h0
  obtain ⟨cs, i, ex, h1, h2, h3, h4⟩ := prog_run 1000 (alltoks s) (lstart0 false) [] (st0 false) (by omega) (by omega) hok (fin_end _ _) rfl rfl rfl rfl ⟨rfl, rfl, rfl, rfl, rfl, rfl, rfl, rfl⟩
  rw [show (alltoks s).take i = toks s.data.toList 0 from end_is (toks_kinds _ _) h2] at h4
  rw [List.nil_append] at h3
  subst h3
  have hcl : (runs s false).2.2.clauses = cs.map (fun c => ⟨c.head, c.body⟩) := by
    rw [r3 h0, h4]
    rfl
  have hg := prog_good 1000 (alltoks s) [] cs (alltoks_worded s) (by simp) h1
  obtain ⟨m1, m2, m3⟩ := pprog_syms (M := 800) 1000 (alltoks s) [] cs (fun t ht => Nat.le_trans (alltoks_text s t ht) hs) (by simp) h1
  simp only [List.map_nil, List.sum_nil, List.length_nil] at m1 m2
  rw [hcl]
  refine ⟨cs, h1, prog_writes cs hg, by rw [List.length_map]; omega, ?_, ?_⟩
  · intro d hd
    rw [List.mem_map] at hd
    obtain ⟨c, hc, rfl⟩ := hd
    obtain ⟨g1, g2, k1, k2, g3, g4⟩ := hg c hc
    have hm := Nat.le_trans (sums_mem cs c hc) m1
    unfold csize at hm
    have hfl := flat_len 1000 c.body g2
    obtain ⟨_, b1, _⟩ := scan_bound _ _ _ g3
    obtain ⟨_, b2, _⟩ := scan_bound _ _ _ g4
    exact ⟨by simp only; omega, sym_ok 1000 c.head 0 k1 g1 g3 (by omega) (by omega), body_ok 1000 c.body k1 k2 g2 g4 (by omega) (by omega)⟩
  · have := sums_len cs (fun c hc => by
      obtain ⟨g1, g2, _⟩ := hg c hc
      have hm := sums_mem cs c hc
      exact wclause_len c g1 g2 (fun x hx => Nat.le_trans ((m3 c hc).1 x hx) (by omega)) (fun x hx => Nat.le_trans ((m3 c hc).2 x hx) (by omega)) (by omega))
    omega

end Go.Proofs.YtcbckkenifmchaaGreatDoor
