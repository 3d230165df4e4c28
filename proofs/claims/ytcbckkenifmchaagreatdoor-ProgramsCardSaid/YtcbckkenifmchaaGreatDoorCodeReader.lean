/-
  PROVED HERE: what the program's 'reader.Program' and 'reader.Query' answer (the conditions stand in each statement).
-/
import Derived.Test.YtcbckkenifmchaaGreatDoorCodeAll
namespace Go.Proofs.YtcbckkenifmchaaGreatDoor
open Go.RowKit
set_option linter.unusedSimpArgs false
set_option linter.unusedVariables false

/-- Where a reading begins. -/
def st0 (q : Bool) : RS := ⟨q, if q then 1 else 0, q, [], [], [], [], [], []⟩
theorem st0_inv (q : Bool) : RI 0 (st0 q) := by
  refine ⟨by simp [st0], by simp [st0], by simp [st0], by simp [st0], by simp [st0], by simp [st0], ?_, by simp [st0], ?_⟩
  · cases q <;> simp [st0]
  · cases q <;> simp [st0]
def nilV : RV := ⟨.slice none 0 0, .slice none 0 0, .slice none 0 0, .slice none 0 0, .slice none 0 0, .slice none 0 0⟩
theorem st0_is (w : World) (q : Bool) : IsRx (w.alloc (.cells (rsCells (st0 q) nilV) 114)) w.heap.size w.heap.size (st0 q) := by
  refine ⟨nilV, 0, 0, [], [], heap_alloc_new w _, ⟨World.ownsRow_nil _ _ _ _, World.ownsRow_nil _ _ _ _, World.ownsRow_nil _ _ _ _, ⟨World.ownsRow_nil _ _ _ _, fun k e => by simp [nilV, Value.ownBlock] at e⟩, ⟨World.ownsRow_nil _ _ _ _, fun i l hl => by simp [st0] at hl⟩,
    ⟨World.ownsRow_nil _ _ _ _, rfl, fun x hx => by simp at hx, fun i c hc => by simp [st0] at hc⟩, fun k e => by simp [nilV, Value.ownBlock] at e, fun k e => by simp [nilV, Value.ownBlock] at e, Nat.zero_le _, Nat.zero_le _⟩, Nat.le_refl _⟩

/-- A text, read. -/
def runs (s : ByteArray) (q : Bool) : Nat × Nat × RS := runT s.size (toks s.data.toList 0) (st0 q)

theorem cls_kept {S : Nat → Prop} {w w' : World} {B Sa Sb : Nat} {v : Value} {cs : List CC} {xs : List (List Value)} (h : CCRow w B Sa Sb v cs xs) (hk : Kept S w w') (hs : ∀ k cur T fr, S k → w.heap[k]? = some (.cells cur T fr) → T ≠ 168 ∧ T ≠ 78 ∧ T ≠ 81) : CCRow w' B Sa Sb v cs xs := by
  have hX : ∀ {Br : Nat} {e : TypeId} {s n : Nat} {v : Value} {ys : List Value}, w.ownsRow Br e s v n ys → (e = 168 ∨ e = 78 ∨ e = 81) → w'.ownsRow Br e s v n ys := fun ho he =>
    hk.owns ho (fun i hi hS => by
      obtain ⟨cur, hc⟩ := owns_terms ho i hi
      obtain ⟨h1, h2, h3⟩ := hs i _ _ _ hS hc
      rcases he with he | he | he
      · exact h1 he
      · exact h2 he
      · exact h3 he)
  have hS : ∀ {v : Value} {l : List Sym}, SymRow w B Sa v l → SymRow w' B Sa v l := fun hs => ⟨hX hs.1 (Or.inl rfl), hs.2⟩
  refine ⟨hX h.1 (Or.inr (Or.inr rfl)), h.2.1, h.2.2.1, fun i c hc => ?_⟩
  obtain ⟨hv, bv, vv, us, e1, e2, e3, e4⟩ := h.2.2.2 i c hc
  exact ⟨hv, bv, vv, us, e1, hS e2, ⟨hX e3.1 (Or.inr (Or.inl rfl)), fun i l hl => by
    obtain ⟨x, h1, h2⟩ := e3.2 i l hl
    exact ⟨x, h1, hS h2⟩⟩, e4⟩

theorem body_base {S : Nat → Prop} {w w' : World} {B Sa : Nat} {v : Value} {ls : List (List Sym)} {us : List Value} (h : BodyRow w B Sa v ls us) (hk : Kept S w w') (hs : ∀ k, S k → k < B) : BodyRow w' B Sa v ls us := by
  have hX : ∀ {e : TypeId} {s n : Nat} {v : Value} {ys : List Value}, w.ownsRow B e s v n ys → w'.ownsRow B e s v n ys := fun ho =>
    hk.owns ho (fun i hi hS => by
      have h1 := (ho.lt i hi).1
      have h2 := hs i hS
      omega)
  exact ⟨hX h.1, fun i l hl => by
    obtain ⟨x, h1, h2⟩ := h.2 i l hl
    exact ⟨x, h1, hX h2.1, h2.2⟩⟩

set_option maxRecDepth 10000 in
set_option maxHeartbeats 1000000 in
theorem rprogram_long (s : ByteArray) (w : World) (hm : s.size ≤ maxLen) (hl : 800 < s.size) :
    Calls Tryz.prog 31 #[.string s] w fun e w' => e = .returned (.tuple #[.slice none 0 0, .agg #[.int .i64 1, .int .i64 0]]) ∧ Below w.heap.size w w' := by
  go_enter Tryz.func31, Tryz.ntmps31
  go_wp2
  refine bodyPost_ret (v := .tuple #[.slice none 0 0, .agg #[.int .i64 1, .int .i64 0]]) (by simp [results, Tryz.results31, go_sem]) rfl ⟨rfl, (Below.refl _ _).alloc (Nat.le_refl _) _⟩

set_option maxRecDepth 10000 in
set_option maxHeartbeats 1000000 in
theorem rprogram_any (s : ByteArray) (w : World) (hl : s.size ≤ 800) :
    Calls Tryz.prog 31 #[.string s] w fun e w' => Below w.heap.size w w' ∧ (((runs s false).1 ≠ 0 ∧ e = .returned (.tuple #[.slice none 0 0, .agg #[.int .i64 (runs s false).1, .int .i64 (runs s false).2.1]])) ∨
      ((runs s false).1 = 0 ∧ ∃ v B Sa Sb xs, e = .returned (.tuple #[v, .agg #[.int .i64 0, .int .i64 0]]) ∧ CCRow w' B Sa Sb v (runs s false).2.2.clauses xs)) := by
  obtain ⟨R, hR⟩ : ∃ R, R = runs s false := ⟨_, rfl⟩
  have hA := readAll_any ((w.alloc (.cells #[.int .i64 0, .int .i64 0] 65)).alloc (.cells (rsCells (st0 false) nilV) 114)) _ _ (st0 false) s (st0_is (w.alloc (.cells #[.int .i64 0, .int .i64 0] 65)) false) (st0_inv false) (by omega)
  rw [show runT s.size (toks s.data.toList 0) (st0 false) = R from hR.symm] at hA
  rw [show (w.alloc (.cells #[.int .i64 0, .int .i64 0] 65)).heap.size = w.heap.size + 1 from by simp] at hA
  have HA := hide' hA
  rw [← hR]
  clear hR hA
  go_enter Tryz.func31, Tryz.ntmps31
  go_wp2_with fail
  refine HA.out.mono ?_
  rintro e w2 ⟨rfl, hr, hb⟩
  have hF : FaultAt w2 w.heap.size 0 0 := (hb.block w.heap.size (by omega)).trans (block_alloc (heap_alloc_new w _) _)
  have hB : Below w.heap.size w w2 := ((Below.refl _ w).alloc (Nat.le_refl _) _).trans ((((Below.refl _ _).alloc (by simp) _)).trans (hb.mono (by omega)))
  obtain ⟨V, Sa, Sb, vs, xs, h⟩ := hr
  have hrb := lt_of_block h.blk
  obtain ⟨c0, c1, c2, c3, c4, c5, c6, c7, c8⟩ := h.opens.facts
  have cf := fun i => thawed_of_block h.blk i
  obtain ⟨ca, ccap, hvc⟩ := owns_slice h.rest.cls.1
  rw [hvc] at c8
  obtain ⟨hT4, f0, f1, ff⟩ := hF.cells
  have HF := hide' hF
  have HB := hide' hB
  have HC := hide' h.rest.cls
  have Hvc := hide' hvc
  clear hF hB h hvc hb c0 c1 c2 c3 c4 c5 c6 c7
  by_cases hc : R.1 = 0
  · have b0 : ((R.1 : Int) != 0) = false := by rw [hc]; rfl
    have Hc := hide' hc
    clear hc
    go_wp2
    refine bodyPost_ret (v := .tuple #[.slice ca R.2.2.clauses.length ccap, .agg #[.int .i64 0, .int .i64 0]]) (by simp [results, Tryz.results31, go_sem, f0, f1, ff, hT4]) rfl ?_
    refine ⟨?_, Or.inr ⟨Hc.out, _, w.heap.size + 1, Sa, Sb, xs, rfl, ?_⟩⟩
    · exact ((HB.out.setCell (p := ⟨w.heap.size, 0, none⟩) (Nat.le_refl _) _).setCell (p := ⟨w.heap.size, 1, none⟩) (Nat.le_refl _) _).alloc (by simp; omega) _
    · rw [← Hvc.out]
      exact cls_kept HC.out ((((Kept.refl (only w.heap.size) w2).put 0 _).put 1 _).alloc _) (fun k cur T fr hk hb => by
        have hk : k = w.heap.size := hk
        rw [hk, HF.out] at hb
        simp only [Option.some.injEq, Obj.cells.injEq] at hb
        rw [← hb.2.1]
        decide)
  · have b0 : ((R.1 : Int) != 0) = true := by rw [bne_iff_ne]; omega
    have Hc := hide' hc
    clear hc
    go_wp2_with fail
    go_region
    all_goals
      go_wp2
      refine bodyPost_ret (v := .tuple #[.slice none 0 0, .agg #[.int .i64 R.1, .int .i64 R.2.1]]) (by simp [results, Tryz.results31, go_sem, f0, f1, ff, hT4]) rfl ?_
      refine ⟨?_, Or.inl ⟨Hc.out, rfl⟩⟩
      exact (((HB.out.setCell (p := ⟨w.heap.size, 0, none⟩) (Nat.le_refl _) _).setCell (p := ⟨w.heap.size, 1, none⟩) (Nat.le_refl _) _).alloc (by simp; omega) _).drew

set_option maxRecDepth 10000 in
set_option maxHeartbeats 1000000 in
theorem rquery_long (s : ByteArray) (w : World) (hm : s.size ≤ maxLen) (hl : 120 < s.size) :
    Calls Tryz.prog 36 #[.string s] w fun e w' => e = .returned (.tuple #[.agg #[.slice none 0 0, .slice none 0 0, .slice none 0 0], .agg #[.int .i64 1, .int .i64 0]]) ∧ Below w.heap.size w w' := by
  go_enter Tryz.func36, Tryz.ntmps36
  go_wp2
  refine bodyPost_ret (v := .tuple #[.agg #[.slice none 0 0, .slice none 0 0, .slice none 0 0], .agg #[.int .i64 1, .int .i64 0]]) (by simp [results, Tryz.results36, go_sem]) rfl ⟨rfl, ((Below.refl _ _).alloc (Nat.le_refl _) _).alloc (by simp) _⟩

set_option maxRecDepth 10000 in
set_option maxHeartbeats 1000000 in
theorem rquery_any (s : ByteArray) (w : World) (hl : s.size ≤ 120) (hcl : (runs s true).1 = 0 → ∃ c cs, (runs s true).2.2.clauses = c :: cs) :
    Calls Tryz.prog 36 #[.string s] w fun e w' => Below w.heap.size w w' ∧ (((runs s true).1 ≠ 0 ∧ e = .returned (.tuple #[.agg #[.slice none 0 0, .slice none 0 0, .slice none 0 0], .agg #[.int .i64 (runs s true).1, .int .i64 (runs s true).2.1]])) ∨
      ((runs s true).1 = 0 ∧ ∃ hv bv vv B Sa vs c cs, e = .returned (.tuple #[.agg #[hv, bv, vv], .agg #[.int .i64 0, .int .i64 0]]) ∧ (runs s true).2.2.clauses = c :: cs ∧ (∃ a n x, hv = .slice a n x) ∧ (∃ a n x, vv = .slice a n x) ∧ BodyRow w' B Sa bv c.body vs)) := by
  obtain ⟨R, hR⟩ : ∃ R, R = runs s true := ⟨_, rfl⟩
  have hA := readAll_any (((w.alloc (.cells #[.slice none 0 0, .slice none 0 0, .slice none 0 0] 81)).alloc (.cells #[.int .i64 0, .int .i64 0] 65)).alloc (.cells (rsCells (st0 true) nilV) 114)) _ _ (st0 true) s (st0_is ((w.alloc (.cells #[.slice none 0 0, .slice none 0 0, .slice none 0 0] 81)).alloc (.cells #[.int .i64 0, .int .i64 0] 65)) true) (st0_inv true) (by omega)
  rw [show runT s.size (toks s.data.toList 0) (st0 true) = R from hR.symm] at hA
  rw [show ((w.alloc (.cells #[.slice none 0 0, .slice none 0 0, .slice none 0 0] 81)).alloc (.cells #[.int .i64 0, .int .i64 0] 65)).heap.size = w.heap.size + 1 + 1 from by simp] at hA
  have HA := hide' hA
  rw [← hR] at hcl ⊢
  have Hcl := hide' hcl
  clear hR hA hcl
  go_enter Tryz.func36, Tryz.ntmps36
  go_wp2_with fail
  refine HA.out.mono ?_
  rintro e w2 ⟨rfl, hr, hb⟩
  have hF : FaultAt w2 (w.heap.size + 1) 0 0 := (hb.block (w.heap.size + 1) (by omega)).trans (block_alloc (by have := heap_alloc_new (w.alloc (.cells #[.slice none 0 0, .slice none 0 0, .slice none 0 0] 81)) (.cells #[.int .i64 0, .int .i64 0] 65); simpa using this) _)
  have hC : w2.heap[w.heap.size]? = some (.cells #[.slice none 0 0, .slice none 0 0, .slice none 0 0] 81 (0, 0)) := (hb.block w.heap.size (by omega)).trans (block_alloc (block_alloc (heap_alloc_new w _) _) _)
  have hB : Below w.heap.size w w2 := ((Below.refl _ w).alloc (Nat.le_refl _) _).trans (((Below.refl _ _).alloc (by simp) _).trans (((Below.refl _ _).alloc (by simp; omega) _).trans (hb.mono (by omega))))
  obtain ⟨V, Sa, Sb, vs, xs, h⟩ := hr
  have hrb := lt_of_block h.blk
  obtain ⟨c0, c1, c2, c3, c4, c5, c6, c7, c8⟩ := h.opens.facts
  have cf := fun i => thawed_of_block h.blk i
  obtain ⟨ca, ccap, hvc⟩ := owns_slice h.rest.cls.1
  rw [hvc] at c8
  obtain ⟨hT4, f0, f1, ff⟩ := hF.cells
  have q0 : w2.cell? ⟨w.heap.size, 0, none⟩ = some (.slice none 0 0) := cell_of_block hC 0 _ rfl
  have q1 : w2.cell? ⟨w.heap.size, 1, none⟩ = some (.slice none 0 0) := cell_of_block hC 1 _ rfl
  have q2 : w2.cell? ⟨w.heap.size, 2, none⟩ = some (.slice none 0 0) := cell_of_block hC 2 _ rfl
  have qf := fun i => thawed_of_block hC i
  have hT2 := lt_of_block hC
  have HF := hide' hF
  have HQ := hide' hC
  have HB := hide' hB
  have HC := hide' h.rest.cls
  have Hvc := hide' hvc
  clear hF hB h hb c0 c1 c2 c3 c4 c5 c6 c7 hC hvc
  have Hdone : Hid (∀ x0 x1 x2 y0 y1 o, Below w.heap.size w ((((((w2.setCell ⟨w.heap.size, 0, none⟩ x0).setCell ⟨w.heap.size, 1, none⟩ x1).setCell ⟨w.heap.size, 2, none⟩ x2).setCell ⟨w.heap.size + 1, 0, none⟩ y0).setCell ⟨w.heap.size + 1, 1, none⟩ y1).alloc o)) := fun x0 x1 x2 y0 y1 o =>
    (((((HB.out.setCell (p := ⟨w.heap.size, 0, none⟩) (Nat.le_refl _) _).setCell (p := ⟨w.heap.size, 1, none⟩) (Nat.le_refl _) _).setCell (p := ⟨w.heap.size, 2, none⟩) (Nat.le_refl _) _).setCell (p := ⟨w.heap.size + 1, 0, none⟩) (Nat.le_succ _) _).setCell (p := ⟨w.heap.size + 1, 1, none⟩) (Nat.le_succ _) _).alloc (by simp; omega) _
  by_cases hc : R.1 = 0
  · have b0 : ((R.1 : Int) != 0) = false := by rw [hc]; rfl
    obtain ⟨c, cs, hcs⟩ := Hcl.out hc
    obtain ⟨hv, bv, vv, us, e1, e2, e3, e4, ⟨va, vn, vcap, rfl⟩⟩ := HC.out.2.2.2 0 c (by rw [hcs]; rfl)
    obtain ⟨ha, hcap, rfl⟩ := owns_slice e2.1
    obtain ⟨ba, bcap, rfl⟩ := owns_slice e3.1
    have hcl : 0 < R.2.2.clauses.length := by rw [hcs]; simp
    have hcr := HC.out.1
    rw [Hvc.out] at hcr
    obtain ⟨g, gcap, gcur, he, hBg, hg, hcp⟩ := owns_some hcr (by omega)
    simp only [Value.slice.injEq] at he
    obtain ⟨rfl, _, rfl⟩ := he
    obtain ⟨xr, hxs⟩ : ∃ xr, xs = [.slice ha c.head.length hcap, .slice ba c.body.length bcap, .slice va vn vcap] :: xr := by
      cases xs with
      | nil => simp at e1
      | cons x xr => simp at e1; exact ⟨xr, by rw [e1]⟩
    have k0 : w2.cell? ⟨g, 0, none⟩ = some (.slice ha c.head.length hcap) := owns_cell hcr 0 _ (by rw [hxs]; rfl)
    have k1 : w2.cell? ⟨g, 1, none⟩ = some (.slice ba c.body.length bcap) := owns_cell hcr 1 _ (by rw [hxs]; rfl)
    have k2 : w2.cell? ⟨g, 2, none⟩ = some (.slice va vn vcap) := owns_cell hcr 2 _ (by rw [hxs]; rfl)
    have hgl := lt_of_block hg
    have bl0 : (((R.2.2.clauses.length : Nat) : Int) == 0) = false := by rw [beq_eq_false_iff_ne]; omega
    have Hc := hide' hc
    have Hcs := hide' hcs
    have He3 := hide' e3
    clear hc hcs e1 e2 e3 e4 hcr hg hxs
    go_wp2
    refine bodyPost_ret (v := .tuple #[.agg #[.slice ha c.head.length hcap, .slice ba c.body.length bcap, .slice va vn vcap], .agg #[.int .i64 0, .int .i64 0]]) (by simp [results, Tryz.results36, go_sem, f0, f1, ff, hT4, q0, q1, q2, qf, hT2]) rfl ?_
    refine ⟨Hdone.out _ _ _ _ _ _, Or.inr ⟨Hc.out, _, _, _, w.heap.size + 1 + 1, Sa, us, c, cs, rfl, Hcs.out, ⟨_, _, _, rfl⟩, ⟨_, _, _, rfl⟩, ?_⟩⟩
    refine body_base He3.out (S := fun k => k = w.heap.size ∨ k = w.heap.size + 1) ?_ (fun k hk => by omega)
    exact ((((((Kept.refl _ w2).setCell (p := ⟨w.heap.size, 0, none⟩) (fun _ => Or.inl rfl) _).setCell (p := ⟨w.heap.size, 1, none⟩) (fun _ => Or.inl rfl) _).setCell (p := ⟨w.heap.size, 2, none⟩) (fun _ => Or.inl rfl) _).setCell (p := ⟨w.heap.size + 1, 0, none⟩) (fun _ => Or.inr rfl) _).setCell (p := ⟨w.heap.size + 1, 1, none⟩) (fun _ => Or.inr rfl) _).alloc _
  · have b0 : ((R.1 : Int) != 0) = true := by rw [bne_iff_ne]; omega
    have Hc := hide' hc
    clear hc
    go_wp2_with fail
    go_region
    all_goals
      go_wp2
      refine bodyPost_ret (v := .tuple #[.agg #[.slice none 0 0, .slice none 0 0, .slice none 0 0], .agg #[.int .i64 R.1, .int .i64 R.2.1]]) (by simp [results, Tryz.results36, go_sem, f0, f1, ff, hT4, q0, q1, q2, qf, hT2]) rfl ?_
      refine ⟨?_, Or.inl ⟨Hc.out, rfl⟩⟩
      exact (Hdone.out _ _ _ _ _ _).drew

end Go.Proofs.YtcbckkenifmchaaGreatDoor
