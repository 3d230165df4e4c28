/-
  PROVED HERE: what the reference's 'Query' answers, under the one condition that a query that is let by can be read (which is shown elsewhere).
-/
import Derived.Test.YtcbckkenifmchaaGreatDoorRefQuery
namespace Go.Proofs.YtcbckkenifmchaaGreatDoor
open Go.RowKit
set_option linter.unusedSimpArgs false
set_option linter.unusedVariables false

theorem pargs_syms {p : List Tok → Names → Option (List Sym × List Tok × Names)} {M : Nat}
    (hp : ∀ ts names r, (∀ t ∈ ts, t.text.length ≤ M) → p ts names = some r → r.1.length + r.2.1.length ≤ ts.length ∧ (∀ s ∈ r.1, s.name.length ≤ M) ∧ (∀ t ∈ r.2.1, t.text.length ≤ M)) :
    ∀ (g : Nat) (ts : List Tok) (names : Names) (acc : List (List Sym)) r, (∀ t ∈ ts, t.text.length ≤ M) → (∀ s ∈ acc.flatten, s.name.length ≤ M) → pargs p g ts names acc = some r →
      r.1.flatten.length + r.2.1.length ≤ acc.flatten.length + ts.length ∧ (∀ s ∈ r.1.flatten, s.name.length ≤ M) ∧ (∀ t ∈ r.2.1, t.text.length ≤ M) := by
  intro g
  induction g with
  | zero => intro ts names acc r _ _ h; simp [pargs] at h
  | succ g ih =>
    intro ts names acc r hM hA h
    cases ts with
    | nil => simp [pargs] at h
    | cons t ts =>
      rw [pargs] at h
      split at h
      · simp at h; subst h
        exact ⟨by simp, hA, fun t ht => hM t (by simp [ht])⟩
      · split at h
        · simp at h
        · rename_i q hq
          obtain ⟨h1, h2, h3⟩ := hp _ _ _ (fun t ht => hM t (by simp [ht])) hq
          obtain ⟨h4, h5, h6⟩ := ih _ _ _ _ h3 (fun s hs => by
            simp only [List.flatten_append, List.flatten_cons, List.flatten_nil, List.append_nil, List.mem_append] at hs
            rcases hs with hs | hs
            · exact hA s hs
            · exact h2 s hs) h
          refine ⟨?_, h5, h6⟩
          simp only [List.flatten_append, List.flatten_cons, List.flatten_nil, List.append_nil, List.length_append, List.length_cons] at h4 ⊢
          omega

theorem pterm_syms {M : Nat} : ∀ (f : Nat) (ts : List Tok) (names : Names) r, (∀ t ∈ ts, t.text.length ≤ M) → pterm f ts names = some r → r.1.length + r.2.1.length ≤ ts.length ∧ (∀ s ∈ r.1, s.name.length ≤ M) ∧ (∀ t ∈ r.2.1, t.text.length ≤ M) := by
  intro f
  induction f with
  | zero => intro ts names r _ h; simp [pterm] at h
  | succ f ih =>
    intro ts names r hM h
    cases ts with
    | nil => simp [pterm] at h
    | cons t ts =>
      rw [pterm] at h
      split at h
      · simp at h; subst h
        exact ⟨by simp; omega, by simp, fun t ht => hM t (by simp [ht])⟩
      · cases ts with
        | nil => simp [pname] at h
        | cons u us =>
          rw [pname] at h
          split at h
          · simp at h; subst h
            exact ⟨by simp; omega, by simp; exact hM t (by simp), fun t ht => hM t (by simp at ht ⊢; exact Or.inr ht)⟩
          · rw [Option.map_eq_some_iff] at h
            obtain ⟨q, hq, rfl⟩ := h
            obtain ⟨h1, h2, h3⟩ := pargs_syms ih _ _ _ _ _ (fun t ht => hM t (List.mem_cons_of_mem _ ht)) (by simp) hq
            refine ⟨by simp at h1 ⊢; omega, ?_, h3⟩
            intro s hs
            simp only [List.mem_cons] at hs
            rcases hs with rfl | hs
            · exact hM t (by simp)
            · exact h2 s hs

theorem pterms_syms {M f : Nat} : ∀ (g : Nat) (ts : List Tok) (names : Names) (acc : List (List Sym)) r, (∀ t ∈ ts, t.text.length ≤ M) → (∀ s ∈ acc.flatten, s.name.length ≤ M) → pterms f g ts names acc = some r →
      r.1.flatten.length + r.2.1.length ≤ acc.flatten.length + ts.length ∧ (∀ s ∈ r.1.flatten, s.name.length ≤ M) ∧ (∀ t ∈ r.2.1, t.text.length ≤ M) := by
  intro g
  induction g with
  | zero => intro ts names acc r _ _ h; simp [pterms] at h
  | succ g ih =>
    intro ts names acc r hM hA h
    rw [pterms] at h
    split at h
    · simp at h
    · rename_i q hq
      obtain ⟨h1, h2, h3⟩ := pterm_syms f _ _ _ hM hq
      have hA' : ∀ s ∈ (acc ++ [q.1]).flatten, s.name.length ≤ M := fun s hs => by
        simp only [List.flatten_append, List.flatten_cons, List.flatten_nil, List.append_nil, List.mem_append] at hs
        rcases hs with hs | hs
        · exact hA s hs
        · exact h2 s hs
      split at h
      · simp at h
      · rename_i x rest hx
        rw [hx] at h1 h3
        split at h
        · simp at h; subst h
          refine ⟨?_, hA', fun t ht => h3 t (by simp [ht])⟩
          simp only [List.flatten_append, List.flatten_cons, List.flatten_nil, List.append_nil, List.length_append, List.length_cons] at h1 ⊢
          omega
        · obtain ⟨h4, h5, h6⟩ := ih _ _ _ _ (fun t ht => h3 t (by simp [ht])) hA' h
          refine ⟨?_, h5, h6⟩
          simp only [List.flatten_append, List.flatten_cons, List.flatten_nil, List.append_nil, List.length_append, List.length_cons] at h1 h4 ⊢
          omega

/-- What the reference's 'Query' answers: the text, the error, the place. -/
def refQuery (s : ByteArray) : List UInt8 × Nat × Nat :=
  if 120 < s.size then ([], 1, 0)
  else if (lover (alltoks s) (lstart0 true)).1 ≠ 0 then ([], (lover (alltoks s) (lstart0 true)).1, (lover (alltoks s) (lstart0 true)).2)
  else match pterms 1000 1000 (alltoks s) [] [] with
    | none => ([], 0, 0)
    | some q => (wlisted 1000 [] q.1 [] ++ [46], 0, 0)

set_option maxRecDepth 10000 in
set_option maxHeartbeats 1000000 in
theorem query_ref (s : ByteArray) (w : World) (hm : s.size ≤ maxLen) (hok : s.size ≤ 120 → (lover (alltoks s) (lstart0 true)).1 = 0 → ∃ q, pterms 1000 1000 (alltoks s) [] [] = some q) :
    Calls Tryz.prog 17 #[.string s] w fun e w' => e = .returned (.tuple #[.string ⟨(refQuery s).1.toArray⟩, .int .i64 (refQuery s).2.1, .int .i64 (refQuery s).2.2]) ∧ Below w.heap.size w w' := by
  by_cases hs : 120 < s.size
  · have hr : refQuery s = ([], 1, 0) := by rw [refQuery, if_pos hs]
    rw [hr]
    clear hr
    go_enter Tryz.func17, Tryz.ntmps17
    go_wp2_with fail
    refine (readQuery_long s _ hm hs).mono ?_
    rintro e w1 ⟨rfl, hb⟩
    have Hb := hide' hb
    clear hb
    go_wp2
    go_ret3
    exact ⟨rfl, Hb.out.alloc Hb.out.size _⟩
  · by_cases he : (lover (alltoks s) (lstart0 true)).1 ≠ 0
    · have hr : refQuery s = ([], (lover (alltoks s) (lstart0 true)).1, (lover (alltoks s) (lstart0 true)).2) := by rw [refQuery, if_neg hs, if_pos he]
      rw [hr]
      clear hr
      have he' : (((lover (alltoks s) (lstart0 true)).1 : Int) != 0) = true := by rw [bne_iff_ne]; omega
      go_enter Tryz.func17, Tryz.ntmps17
      go_wp2_with fail
      refine (readQuery_err s _ (by omega) he).mono ?_
      rintro e w1 ⟨rfl, hb⟩
      have Hb := hide' hb
      clear hb
      go_wp2
      go_ret3
      exact ⟨rfl, Hb.out.alloc Hb.out.size _⟩
    · have he0 : (lover (alltoks s) (lstart0 true)).1 = 0 := by omega
      obtain ⟨q, hq⟩ := hok (by omega) he0
      have hr : refQuery s = (wlisted 1000 [] q.1 [] ++ [46], 0, 0) := by rw [refQuery, if_neg hs, if_neg he, hq]
      rw [hr]
      clear hr
      have hal := alltoks_len s
      obtain ⟨y1, y2, _⟩ := pterms_syms 1000 (alltoks s) [] [] q (fun t ht => alltoks_text s t ht) (by simp) hq
      simp only [List.flatten_nil, List.length_nil] at y1
      have Hy2 := hide' y2
      have Hq := hide' hq
      clear y2 hq hok
      go_enter Tryz.func17, Tryz.ntmps17
      go_wp2_with fail
      refine (readQuery_ok s _ q (by omega) he0 Hq.out).mono ?_
      rintro e w1 ⟨lv, nv, lo, xs, rfl, hlo, hlo', hkids, hnv, hb⟩
      obtain ⟨la, lcap, rfl⟩ := owns_slice hkids.owns
      obtain ⟨na, ncap, rfl⟩ := owns_slice hnv
      have Hb := hide' hb
      have Hkids := hide' hkids
      clear hb hkids hnv
      go_wp2_with fail
      refine (listed_any 1000 _ (.slice la q.1.length lcap) 0 [] (.slice none 0 0) lo xs q.1 ?_ (World.ownsRow_nil _ _ _ _) (by omega) (fun s hs => by have := Hy2.out s hs; omega) (by simp only [List.length_nil]; omega)).mono ?_
      · refine ⟨Hkids.out.owns.alloc _, fun i l' hl => ?_⟩
        obtain ⟨a', b', c', l1, h1, z1, z2, z3, g1, g2, g3, g4⟩ := Hkids.out.all i l' hl
        exact ⟨a', b', c', l1, h1, z1, z2, z3, g1, by simp; omega, g3, RepT.later 1000 g4 (fun k hk1 hk2 _ => Below.heap_alloc _ _ _ (by omega))⟩
      rintro e w2 ⟨rfl, hk2⟩
      have Hk2 := hide' hk2
      clear hk2
      go_wp2
      go_ret3
      refine ⟨rfl, (Hb.out.alloc Hb.out.size _).trans (Hk2.out.below ?_ (fun k h => by simp [ownOf, Value.ownBlock] at h))⟩
      have := Hb.out.size
      simp
      omega

end Go.Proofs.YtcbckkenifmchaaGreatDoor
