/-
  PROVED HERE: what the reference's 'term' reads out of a row of tokens (the conditions stand in the statement).
-/
import Derived.Test.YtcbckkenifmchaaGreatDoorRefParse
import Derived.Test.YtcbckkenifmchaaGreatDoorRefOver2
import Derived.Deep.LoopGhost
namespace Go.Proofs.YtcbckkenifmchaaGreatDoor
open Go.RowKit
set_option linter.unusedSimpArgs false
set_option linter.unusedVariables false

theorem Tryz.infoTerm : (Tryz.prog.info? 74).map (fun i => (i.zero, i.size, i.bytes)) = some (some (.agg #[.string ⟨#[]⟩, .int .i64 0, .slice none 0 0]), 3, 48) := by kernel_rfl

/-- What 'term' leaves: the term, the place behind it, the names. -/
def TermSaid (f : Nat) : Prop := ∀ (w : World) (ts : List Tok) (k : Nat) (tv : Value) (Bt B : Nat) (names : Names) (nv : Value) (r : List Sym × List Tok × Names),
  pterm f (ts.drop k) names = some r → w.ownsRow Bt 121 3 tv ts.length (toksCells ts) → w.ownsRow B 9 1 nv names.length (strs names) → B ≤ w.heap.size →
  ts.length ≤ 1000 → names.length + (ts.length - k) ≤ 1000 → (∀ t ∈ ts, t.text.length ≤ 4096) → (∀ i t, ts[i]? = some t → i + 1 < ts.length → t.text ≠ []) →
  Calls Tryz.prog 62 #[tv, .int .i64 k, nv] w fun e w' => ∃ a b c nv' j, e = .returned (.tuple #[.agg #[a, b, c], .int .i64 (j : Nat), nv']) ∧ r.2.1 = ts.drop j ∧ k < j ∧ j ≤ ts.length ∧
    RepT f w' w.heap.size w'.heap.size a b c r.1 ∧ Appended w B 9 1 nv r.2.2.length (strs r.2.2) nv' w'

theorem Appended.around {w0 w w1 w2 : World} {S : Nat → Prop} {B : Nat} {e : TypeId} {size n : Nat} {v v' : Value} {xs : List Value} (h : Appended w B e size v n xs v' w1) (h0 : Kept (ownOf v) w0 w)
    (hv : ∀ k, v.ownBlock = some k → k < w0.heap.size) (h2 : Kept S w1 w2) (hS : ∀ k, S k → w0.heap.size ≤ k) (hSv : ∀ k, v'.ownBlock = some k → ¬ S k) : Appended w0 B e size v n xs v' w2 :=
  ⟨h2.owns h.owns hSv, (h0.then h.kept (fun _ _ e => e)).then h2 (fun i hi hs => by have := hS i hs; omega), by
    rcases h.where_ with h | ⟨g, h, hg⟩
    · exact Or.inl h
    · exact Or.inr ⟨g, h, Nat.le_trans h0.size hg⟩⟩

theorem tok_at {w : World} {Bt k : Nat} {ts : List Tok} {tv : Value} {t : Tok} (h : w.ownsRow Bt 121 3 tv ts.length (toksCells ts)) (ht : ts[k]? = some t) :
    ∃ g cap, tv = .slice (some ⟨g, 0, none⟩) ts.length cap ∧ g < w.heap.size ∧ w.cell? ⟨g, k * 3, none⟩ = some (.int .i64 t.kind) ∧ w.cell? ⟨g, k * 3 + 1, none⟩ = some (.string ⟨t.text.toArray⟩) ∧ w.cell? ⟨g, k * 3 + 2, none⟩ = some (.int .i64 t.pos) := by
  have hk : k < ts.length := (List.getElem?_eq_some_iff.1 ht).1
  obtain ⟨g, cap, cur, rfl, hBg, hg, hcp⟩ := owns_some h (by omega)
  have tcell : ∀ j v, j < 3 → (tokCells t)[j]? = some v → w.cell? ⟨g, k * 3 + j, none⟩ = some v := fun j v hj hv => owns_cell h (k * 3 + j) v (by rw [toksCells_at ts k t ht j hj]; exact hv)
  exact ⟨g, cap, rfl, lt_of_block hg, tcell 0 _ (by omega) rfl, tcell 1 _ (by omega) rfl, tcell 2 _ (by omega) rfl⟩

theorem drop_at {ts : List Tok} {k : Nat} {t : Tok} {r : List Tok} (h : ts.drop k = t :: r) : ts[k]? = some t ∧ ts.drop (k + 1) = r ∧ k < ts.length := by
  have hk : k < ts.length := by
    rcases Nat.lt_or_ge k ts.length with hl | hl
    · exact hl
    · rw [List.drop_eq_nil_of_le hl] at h; cases h
  rw [List.drop_eq_getElem_cons hk] at h
  injection h with h1 h2
  exact ⟨by rw [List.getElem?_eq_getElem hk, h1], h2, hk⟩

set_option maxRecDepth 10000 in
set_option maxHeartbeats 400000 in
theorem term_var (f : Nat) (w : World) (ts : List Tok) (k : Nat) (tv : Value) (Bt B : Nat) (names : Names) (nv : Value) (t : Tok) (r : List Tok)
    (hd : ts.drop k = t :: r) (hkd : t.kind = 2) (hts : w.ownsRow Bt 121 3 tv ts.length (toksCells ts)) (hnv : w.ownsRow B 9 1 nv names.length (strs names)) (hB : B ≤ w.heap.size)
    (hl : ts.length ≤ 1000) (hn : names.length + (ts.length - k) ≤ 1000) (htx : ∀ t ∈ ts, t.text.length ≤ 4096) :
    Calls Tryz.prog 62 #[tv, .int .i64 k, nv] w fun e w' => ∃ a b c nv' j, e = .returned (.tuple #[.agg #[a, b, c], .int .i64 (j : Nat), nv']) ∧ r = ts.drop j ∧ k < j ∧ j ≤ ts.length ∧
      RepT (f + 1) w' w.heap.size w'.heap.size a b c [⟨[], (numberOf names t.text).2, 0⟩] ∧ Appended w B 9 1 nv (numberOf names t.text).1.length (strs (numberOf names t.text).1) nv' w' := by
  obtain ⟨ht, hr, hk⟩ := drop_at hd
  obtain ⟨g, tcap, rfl, hg, t0, t1, t2⟩ := tok_at hts ht
  have hlen := htx t (List.mem_of_getElem? ht)
  rw [hkd] at t0
  have Hr := hide' hr
  have Hnv := hide' hnv
  have Hts := hide' hts
  obtain ⟨na, ncap, rfl⟩ := owns_slice hnv
  clear hd hts hnv ht hr
  go_enter Tryz.func62, Tryz.ntmps62
  go_wp2_with fail
  refine (number_any _ B names t.text _ (Hnv.out.alloc _) (by simp; omega) (by omega) hlen).mono ?_
  rintro e w1 ⟨v', rfl, hap⟩
  obtain ⟨va, vcap, rfl⟩ := owns_slice hap.owns
  have hN : ¬ ownOf (.slice na names.length ncap) w.heap.size := fun e => by have := (Hnv.out.lt _ e).2; omega
  have hblk := (hap.kept.block w.heap.size (by simp) hN).trans (heap_alloc_new w _)
  have z0 : w1.cell? ⟨w.heap.size, 0, none⟩ = some (.string ⟨#[]⟩) := cell_of_block hblk 0 _ rfl
  have z1 : w1.cell? ⟨w.heap.size, 1, none⟩ = some (.int .i64 0) := cell_of_block hblk 1 _ rfl
  have z2 : w1.cell? ⟨w.heap.size, 2, none⟩ = some (.slice none 0 0) := cell_of_block hblk 2 _ rfl
  have zf := fun i => thawed_of_block hblk i
  have hsz := lt_of_block hblk
  have Hap := hide' hap
  have Hblk := hide' hblk
  clear hap hblk
  go_wp2
  refine bodyPost_ret (v := .tuple #[.agg #[.string ⟨#[]⟩, .int .i64 (numberOf names t.text).2, .slice none 0 0], .int .i64 ((k + 1 : Nat) : Int), .slice va (numberOf names t.text).1.length vcap]) (by simp [results, Tryz.results62, go_sem, z0, z1, z2, zf, hsz]) rfl ?_
  refine ⟨_, _, _, _, k + 1, rfl, Hr.out.symm, by omega, by omega, Or.inl ⟨_, rfl, rfl, rfl, rfl⟩, ?_⟩
  refine Hap.out.around ((Kept.refl _ w).alloc _) (fun k e => (Hnv.out.lt k e).2) ((((Kept.refl (only w.heap.size) w1).put 0 _).put 1 _).put 2 _) (fun k e => Nat.le_of_eq (Eq.symm e)) ?_
  rintro k hk (rfl : k = w.heap.size)
  rcases Hap.out.where_ with h | ⟨g, h, hg⟩
  · exact hN (h.symm.trans hk)
  · rw [hk] at h
    simp at h hg
    omega

set_option maxRecDepth 10000 in
set_option maxHeartbeats 400000 in
theorem term_name (f : Nat) (w : World) (ts : List Tok) (k : Nat) (tv : Value) (Bt B : Nat) (names : Names) (nv : Value) (t u : Tok) (r : List Tok)
    (hd : ts.drop k = t :: u :: r) (hkd : t.kind ≠ 2) (hku : u.kind ≠ 40) (hts : w.ownsRow Bt 121 3 tv ts.length (toksCells ts)) (hnv : w.ownsRow B 9 1 nv names.length (strs names)) (hB : B ≤ w.heap.size)
    (hl : ts.length ≤ 1000) (hne : t.text ≠ []) :
    Calls Tryz.prog 62 #[tv, .int .i64 k, nv] w fun e w' => ∃ a b c nv' j, e = .returned (.tuple #[.agg #[a, b, c], .int .i64 (j : Nat), nv']) ∧ u :: r = ts.drop j ∧ k < j ∧ j ≤ ts.length ∧
      RepT (f + 1) w' w.heap.size w'.heap.size a b c [⟨t.text, 0, 0⟩] ∧ Appended w B 9 1 nv names.length (strs names) nv' w' := by
  obtain ⟨ht, hr, hk⟩ := drop_at hd
  obtain ⟨hu, hr', hk'⟩ := drop_at hr
  obtain ⟨g, tcap, rfl, hg, t0, t1, t2⟩ := tok_at hts ht
  obtain ⟨g', tcap', he, hg', u0, u1, u2⟩ := tok_at hts hu
  simp only [Value.slice.injEq, Option.some.injEq, Addr.mk.injEq] at he
  obtain ⟨⟨rfl, _⟩, _, rfl⟩ := he
  have k2 : ((t.kind : Int) == 2) = false := by rw [beq_eq_false_iff_ne]; omega
  have k40 : ((u.kind : Int) != 40) = true := by rw [bne_iff_ne]; omega
  have Hr := hide' hr
  have Hnv := hide' hnv
  obtain ⟨na, ncap, rfl⟩ := owns_slice hnv
  clear hd hts hnv ht hr hu hr'
  go_enter Tryz.func62, Tryz.ntmps62
  go_wp2
  refine bodyPost_ret (v := .tuple #[.agg #[.string ⟨t.text.toArray⟩, .int .i64 0, .slice none 0 0], .int .i64 ((k + 1 : Nat) : Int), .slice na names.length ncap]) (by simp [results, Tryz.results62, go_sem]) rfl ?_
  refine ⟨_, _, _, _, k + 1, rfl, Hr.out.symm, by omega, by omega, Or.inr ⟨t.text, [], [], hne, rfl, rfl, rfl, World.ownsRow_nil _ _ _ _, fun k e => by simp [Value.ownBlock] at e, fun i l' h => by simp at h⟩, ?_⟩
  exact ⟨(Hnv.out.alloc _).alloc _, ((Kept.refl _ w).alloc _).alloc _, Or.inl rfl⟩

end Go.Proofs.YtcbckkenifmchaaGreatDoor
