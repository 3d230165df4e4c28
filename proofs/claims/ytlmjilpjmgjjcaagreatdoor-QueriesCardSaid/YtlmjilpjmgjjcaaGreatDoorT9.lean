/-
  PROVED HERE: the given statements of the laws 'Programs' and 'Queries': for every script, every Program and every Query of it answers as the document's own reading does (no conditions but the statements' own).
-/
import Derived.Test.YtlmjilpjmgjjcaaGreatDoorT8
namespace Go.Proofs.YtlmjilpjmgjjcaaGreatDoor
open Go.RowKit
set_option linter.unusedSimpArgs false
set_option linter.unusedVariables false

set_option maxRecDepth 10000 in
set_option maxHeartbeats 1000000 in
theorem program_err (s : ByteArray) (w : World) (er pl : Nat) (her : er ≠ 0) (h : Calls Tryz.prog 72 #[.string s] w fun e w' => e = .returned (.tuple #[.slice none 0 0, .agg #[.int .i64 er, .int .i64 pl]]) ∧ Below w.heap.size w w') :
    Calls Tryz.prog 83 #[.string s] w fun e w' => e = .returned (.tuple #[.string ⟨#[]⟩, .int .i64 er, .int .i64 pl]) ∧ Below w.heap.size w w' := by
  have H := hide' h
  have he' : ((er : Int) != 0) = true := by rw [bne_iff_ne]; omega
  clear h her
  go_enter Tryz.func83, Tryz.ntmps83
  go_wp2_with fail
  refine H.out.mono ?_
  rintro e w1 ⟨rfl, hb⟩
  have Hb := hide' hb
  clear hb
  go_wp2_with fail
  go_quiet (fail)
  go_wp2
  go_ret3
  exact ⟨rfl, (Hb.out.alloc Hb.out.size _).trans ⟨rfl, rfl, rfl, Nat.le_refl _, fun _ _ => rfl⟩⟩

set_option maxRecDepth 10000 in
set_option maxHeartbeats 1000000 in
theorem query_err (s : ByteArray) (w : World) (er pl : Nat) (her : er ≠ 0) (h : Calls Tryz.prog 73 #[.string s] w fun e w' => e = .returned (.tuple #[.agg #[.slice none 0 0, .slice none 0 0, .slice none 0 0], .agg #[.int .i64 er, .int .i64 pl]]) ∧ Below w.heap.size w w') :
    Calls Tryz.prog 85 #[.string s] w fun e w' => e = .returned (.tuple #[.string ⟨#[]⟩, .int .i64 er, .int .i64 pl]) ∧ Below w.heap.size w w' := by
  have H := hide' h
  have he' : ((er : Int) != 0) = true := by rw [bne_iff_ne]; omega
  clear h her
  go_enter Tryz.func85, Tryz.ntmps85
  go_wp2_with fail
  refine H.out.mono ?_
  rintro e w1 ⟨rfl, hb⟩
  have Hb := hide' hb
  clear hb
  go_wp2_with fail
  go_quiet (fail)
  go_wp2
  go_ret3
  exact ⟨rfl, ((Hb.out.alloc Hb.out.size _).alloc (Hb.out.alloc Hb.out.size _).size _).trans ⟨rfl, rfl, rfl, Nat.le_refl _, fun _ _ => rfl⟩⟩

set_option maxRecDepth 10000 in
set_option maxHeartbeats 1000000 in
theorem program_ok (s : ByteArray) (w : World) (F : List UInt8) (h : Calls Tryz.prog 72 #[.string s] w fun e w' => Below w.heap.size w w' ∧ ∃ v, e = .returned (.tuple #[v, .agg #[.int .i64 0, .int .i64 0]]) ∧ (∃ a n x, v = .slice a n x) ∧
      ∀ o, Calls Tryz.prog 105 #[v] (w'.alloc o) fun e w'' => e = .returned (.string ⟨F.toArray⟩) ∧ Below w'.heap.size w' w'') :
    Calls Tryz.prog 83 #[.string s] w fun e w' => e = .returned (.tuple #[.string ⟨F.toArray⟩, .int .i64 0, .int .i64 0]) ∧ Below w.heap.size w w' := by
  have H := hide' h
  clear h
  go_enter Tryz.func83, Tryz.ntmps83
  go_wp2_with fail
  refine H.out.mono ?_
  rintro e w1 ⟨hb, v, rfl, ⟨a, n, x, rfl⟩, hT⟩
  have Hb := hide' hb
  have HT := hide' hT
  clear hb hT
  go_wp2_with fail
  refine (HT.out _).mono ?_
  rintro e w2 ⟨rfl, hb2⟩
  have Hb2 := hide' hb2
  clear hb2
  go_wp2
  go_ret3
  exact ⟨rfl, Hb.out.trans (Hb2.out.mono Hb.out.size)⟩

set_option maxRecDepth 10000 in
set_option maxHeartbeats 1000000 in
theorem query_ok (s : ByteArray) (w : World) (F : List UInt8) (h : Calls Tryz.prog 73 #[.string s] w fun e w' => Below w.heap.size w w' ∧ ∃ hv bv vv, e = .returned (.tuple #[.agg #[hv, bv, vv], .agg #[.int .i64 0, .int .i64 0]]) ∧ (∃ a n x, hv = .slice a n x) ∧ (∃ a n x, bv = .slice a n x) ∧ (∃ a n x, vv = .slice a n x) ∧
      ∀ o p, Calls Tryz.prog 109 #[.agg #[hv, bv, vv]] ((w'.alloc o).alloc p) fun e w'' => e = .returned (.string ⟨F.toArray⟩) ∧ Below w'.heap.size w' w'') :
    Calls Tryz.prog 85 #[.string s] w fun e w' => e = .returned (.tuple #[.string ⟨F.toArray⟩, .int .i64 0, .int .i64 0]) ∧ Below w.heap.size w w' := by
  have H := hide' h
  clear h
  go_enter Tryz.func85, Tryz.ntmps85
  go_wp2_with fail
  refine H.out.mono ?_
  rintro e w1 ⟨hb, hv, bv, vv, rfl, ⟨a1, n1, x1, rfl⟩, ⟨a2, n2, x2, rfl⟩, ⟨a3, n3, x3, rfl⟩, hT⟩
  have Hb := hide' hb
  have HT := hide' hT
  clear hb hT
  go_wp2_with fail
  refine (HT.out _ _).mono ?_
  rintro e w2 ⟨rfl, hb2⟩
  have Hb2 := hide' hb2
  clear hb2
  go_wp2
  go_ret3
  exact ⟨rfl, Hb.out.trans (Hb2.out.mono Hb.out.size)⟩

theorem program_code : ProgramCode := by
  intro s w hm
  by_cases hs : 800 < s.size
  · rw [refProgram, if_pos hs]
    exact program_err s w 1 0 (by omega) (rprogram_long s w hm hs)
  · obtain ⟨r1, r2, _⟩ := runs_lover s false
    by_cases h0 : (runs s false).1 = 0
    · obtain ⟨cs, f1, f2, f3, f4, f5⟩ := program_fits s (by omega) h0
      rw [refProgram, if_neg hs, if_neg (by rw [← r1]; simp [h0]), f1]
      refine program_ok s w _ ((rprogram_any s w (by omega)).mono ?_)
      rintro e w' ⟨hb, hc⟩
      rcases hc with ⟨hc, _⟩ | ⟨_, v, B, Sa, Sb, xs, rfl, hrow⟩
      · exact absurd h0 hc
      · refine ⟨hb, v, rfl, ?_, fun o => ?_⟩
        · obtain ⟨a, x, rfl⟩ := owns_slice hrow.1
          exact ⟨a, _, x, rfl⟩
        · have ht := programText_any (w'.alloc o) B Sa Sb v _ xs (hrow.fresh ((Kept.refl _ w').alloc o)) f3 f4 (by rw [f2]; exact f5)
          refine ht.mono ?_
          rintro e w2 ⟨rfl, hb2⟩
          refine ⟨by rw [f2], ((Below.refl _ w').alloc (Nat.le_refl _) o).trans (hb2.mono (by simp))⟩
    · rw [refProgram, if_neg hs, if_pos (by rw [← r1]; exact h0)]
      refine program_err s w _ _ (by rw [← r1]; exact h0) ((rprogram_any s w (by omega)).mono ?_)
      rintro e w' ⟨hb, hc⟩
      rcases hc with ⟨hc, rfl⟩ | ⟨hc, _⟩
      · rw [← r1, ← r2 h0]
        exact ⟨rfl, hb⟩
      · exact absurd hc h0

theorem query_code : QueryCode := by
  intro s w hm
  by_cases hs : 120 < s.size
  · rw [refQuery, if_pos hs]
    exact query_err s w 1 0 (by omega) (rquery_long s w hm hs)
  · obtain ⟨r1, r2, _⟩ := runs_lover s true
    have hcl : (runs s true).1 = 0 → ∃ c cs, (runs s true).2.2.clauses = c :: cs := fun h0 => by
      obtain ⟨q, _, f2, _⟩ := query_fits s (by omega) h0
      exact ⟨_, _, f2⟩
    by_cases h0 : (runs s true).1 = 0
    · obtain ⟨q, f1, f2, f3, f4, f5, f6⟩ := query_fits s (by omega) h0
      rw [refQuery, if_neg hs, if_neg (by rw [← r1]; simp [h0]), f1]
      refine query_ok s w _ ((rquery_any s w (by omega) hcl).mono ?_)
      rintro e w' ⟨hb, hc⟩
      rcases hc with ⟨hc, _⟩ | ⟨_, hv, bv, vv, B, Sa, vs, c, cs, rfl, hcs, hh, hnm, hrow⟩
      · exact absurd h0 hc
      · rw [f2] at hcs
        simp only [List.cons.injEq] at hcs
        obtain ⟨rfl, _⟩ := hcs
        have hvv : ∃ a n x, vv = .slice a n x := by
          obtain ⟨a, x, rfl⟩ := owns_slice hnm
          exact ⟨a, _, x, rfl⟩
        refine ⟨hb, hv, bv, vv, rfl, hh, ?_, hvv, fun o p => ?_⟩
        · obtain ⟨a, x, rfl⟩ := owns_slice hrow.1
          exact ⟨a, _, x, rfl⟩
        · have ht := queryText_any ((w'.alloc o).alloc p) B Sa hv bv vv q.1 vs hh hvv (hrow.fresh (((Kept.refl _ w').alloc o).alloc p)) f4 f5 f6
          refine ht.mono ?_
          rintro e w2 ⟨rfl, hb2⟩
          refine ⟨by rw [f3], (((Below.refl _ w').alloc (Nat.le_refl _) o).alloc (by simp) p).trans (hb2.mono (by simp; omega))⟩
    · rw [refQuery, if_neg hs, if_pos (by rw [← r1]; exact h0)]
      refine query_err s w _ _ (by rw [← r1]; exact h0) ((rquery_any s w (by omega) hcl).mono ?_)
      rintro e w' ⟨hb, hc⟩
      rcases hc with ⟨hc, rfl⟩ | ⟨hc, _⟩
      · rw [← r1, ← r2 h0]
        exact ⟨rfl, hb⟩
      · exact absurd hc h0

theorem programs_hold : Rows.ProgramsCardSaid := programs_card program_code
theorem queries_hold : Rows.QueriesCardSaid := queries_card query_code

end Go.Proofs.YtlmjilpjmgjjcaaGreatDoor
