/-
  PROVED HERE: what the writing method 'addSymbol' of the program's reader leaves (the conditions stand in the statement).
-/
import Derived.Test.YtcbckkenifmchaaGreatDoorCodeMut
namespace Go.Proofs.YtcbckkenifmchaaGreatDoor
open Go.RowKit
set_option linter.unusedSimpArgs false
set_option linter.unusedVariables false

theorem step_append1 {P : Program} {ops : Array Oper} {o : Oper} {a : Act} {K : Act → World → Prop} {Q : Exit → Act → World → Prop} {E : Prop} {W : World} (w : World) (hg : o.guard = none) (s x : Operand) (t : TypeId)
    (ho : o.op = .call { callee := .builtin .append, args := #[s, x], argTypes := #[t, t] })
    (base : Nat) (e : TypeId) {z : Value} {size bytes : Nat}
    (hinfo : (P.info? e).map (fun i => (i.zero, i.size, i.bytes)) = some (some z, size, bytes)) (ht : P.underlying t = some (.slice e)) (hzs : z.cells.size = size) (hsz : 0 < size)
    (v : Value) (n : Nat) (xs : List Value) (hs : a.eval s = v) (hown : w.ownsRow base e size v n xs)
    (news : Array Value) {N : Nat} (hx : a.eval x = .slice (some ⟨N, 0, none⟩) 1 1) (hN : N = w.heap.size) (hl : news.size = size) (h1 : ∀ u ∈ news.toList, u.oneCell' = true)
    (hbig : (n + 1) * (bytes + 1) ≤ 140737488355328) (hbase : base ≤ w.heap.size) (hW : W = w.alloc (.cells news e))
    (h : ∀ v' w', Appended w base e size v (n + 1) (xs ++ news.toList) v' w' → K (a.put o.dst v') w') : if Region.wanted o (yielded ops a.tmps) = true then Oper.wp P o a W K Q else E := by
  have hw : Region.wanted o (yielded ops a.tmps) = true := by simp [Region.wanted, hg]
  rw [if_pos hw, hW]
  exact wp_append1 w s x t ho base e hinfo ht hzs hsz v n xs hs hown news hx hN hl h1 hbig hbase h

theorem blk_after {w w1 : World} {o : Obj} {n rb : Nat} {X : Value} {cs : Array Value} {T : TypeId} (h : Kept (ownOf X) ((w.alloc o).drewN n) w1) (hb : w.heap[rb]? = some (.cells cs T (0, 0))) (hx : ¬ ownOf X rb) : w1.heap[rb]? = some (.cells cs T (0, 0)) :=
  (h.block rb (by have := lt_of_block hb; show rb < (w.alloc o).heap.size; simp; omega) hx).trans (block_alloc hb o)

/-- One more term behind the symbol ahead of the innermost open bracket. -/
def bumpS (st : RS) : List Sym := match st.opn with
  | [] => st.atom
  | n :: _ => st.atom.modify n (fun s => { s with args := s.args + 1 })
def addS (st : RS) (s : Sym) : RS := { st with atom := bumpS st ++ [s] }

theorem sym_one (x : ByteArray) (y z : Int) : ∀ u ∈ (#[Value.string x, .int .i64 y, .int .i64 z] : Array Value).toList, u.oneCell' = true := by
  intro u hu
  simp at hu
  rcases hu with rfl | rfl | rfl <;> rfl

theorem add_done {w w1 : World} {B rb nd : Nat} {st : RS} {V : RV} {Sa Sb : Nat} {vs : List Value} {xs : List (List Value)} {s : Sym} {o : Obj} {a1 : Option Addr} {a1cap : Nat} (H : IsR w B rb st V Sa Sb vs xs)
    (hap : Appended ((w.alloc o).drewN nd) B 168 3 V.a (st.atom.length + 1) (symsCells st.atom ++ [.string ⟨s.name.toArray⟩, .int .i64 s.num, .int .i64 s.args]) (.slice a1 (st.atom.length + 1) a1cap) w1) :
    IsR (w1.setCell ⟨rb, 3, none⟩ (.slice a1 (st.atom.length + 1) a1cap)) B rb { st with atom := st.atom ++ [s] } { V with a := .slice a1 (st.atom.length + 1) a1cap } Sa Sb vs xs ∧ Held B w (w1.setCell ⟨rb, 3, none⟩ (.slice a1 (st.atom.length + 1) a1cap)) := by
  have hat := H.rest.atom
  have hblk1 := blk_after hap.kept H.blk (owns_apart hat (by decide) H.blk)
  have hk : Kept (touch rb V.a) w (w1.setCell ⟨rb, 3, none⟩ (.slice a1 (st.atom.length + 1) a1cap)) := touch_put ((((Kept.refl _ w).alloc _).drewN _).trans hap.kept) 3 _
  have hrow : (w1.setCell ⟨rb, 3, none⟩ (.slice a1 (st.atom.length + 1) a1cap)).ownsRow B 168 3 (.slice a1 (st.atom.length + 1) a1cap) (st.atom ++ [s]).length (symsCells (st.atom ++ [s])) := by
    have h2 := hap.owns
    have h3 := ((Kept.refl (only rb) w1).put 3 (.slice a1 (st.atom.length + 1) a1cap)).owns h2 (fun k hko e => by
      have e : k = rb := e
      rw [e] at hko
      exact owns_apart h2 (by decide) hblk1 hko)
    simpa [symsCells, symCells] using h3
  have hta : ∀ k, (Value.slice a1 (st.atom.length + 1) a1cap).ownBlock = some k → Sa ≤ k := by
    intro k hk
    rcases hap.where_ with hw | ⟨g, hw, hg⟩
    · exact H.rest.ta k (by rw [← hw]; exact hk)
    · rw [hk] at hw
      simp at hw
      have := H.rest.la
      have hg' : w.heap.size + 1 ≤ g := by simpa using hg
      omega
  exact ⟨H.atoms hk (st.atom ++ [s]) (.slice a1 (st.atom.length + 1) a1cap) (block_set hblk1 3 _) hrow hta, H.below hk hat (by decide)⟩

theorem owns_setg {w : World} {B : Nat} {e : TypeId} {g n cap size : Nat} {xs : List Value} (h : w.ownsRow B e size (.slice (some ⟨g, 0, none⟩) n cap) n xs) (i : Nat) (u : Value) :
    (w.setCell ⟨g, i, none⟩ u).ownsRow B e size (.slice (some ⟨g, 0, none⟩) n cap) n (xs.set i u) := by
  refine ⟨by simpa using h.1, ?_⟩
  rcases h.2 with ⟨h1, _⟩ | ⟨g', cap', cur, h1, hb, hg, hn, hc, hs, ht⟩
  · simp at h1
  · simp at h1
    obtain ⟨rfl, rfl⟩ := h1
    refine .inr ⟨g, cap, cur.setIfInBounds i u, rfl, hb, block_set hg i u, hn, hc, by simpa using hs, ?_⟩
    rw [← ht]
    simp [List.take_set]
theorem syms_bump (l : List Sym) (n : Nat) (s : Sym) (h : l[n]? = some s) : symsCells (l.modify n (fun s => { s with args := s.args + 1 })) = (symsCells l).set (n * 3 + 2) (.int .i64 ((s.args : Int) + 1)) := by
  induction l generalizing n with
  | nil => simp at h
  | cons a l ih =>
    cases n with
    | zero =>
      simp at h; subst h
      simp [symsCells, symCells, List.modify]
    | succ n =>
      have := ih n (by simpa using h)
      simp only [List.modify_succ_cons]
      show symCells a ++ symsCells _ = (symCells a ++ symsCells l).set _ _
      rw [this, List.set_append_right _ _ (by simp [symCells]; omega)]
      congr 2
      simp [symCells]
      omega

set_option maxRecDepth 10000 in
set_option maxHeartbeats 1000000 in
theorem add_top (w : World) (B rb : Nat) (st : RS) (s : Sym) (h : IsRx w B rb st) (hb : RBd st) (ho : st.opn = []) :
    Calls Tryz.prog 107 #[.pointer (some ⟨rb, 0, none⟩), .agg #[.string ⟨s.name.toArray⟩, .int .i64 s.num, .int .i64 s.args]] w fun e w' => e = .returned (.tuple #[]) ∧ IsRx w' B rb (addS st s) ∧ Held B w w' := by
  obtain ⟨V, Sa, Sb, vs, xs, h⟩ := h
  have hrb := lt_of_block h.blk
  have hBw : B ≤ w.heap.size := by have := h.le; omega
  obtain ⟨aa, acap, hva⟩ := owns_slice h.rest.atom
  have hat := h.rest.atom
  rw [hva] at hat
  have hla := hb.atom
  have HW : ∀ o, ROpen (w.alloc o) B rb st V := fun o => h.opens.later (S := noBlock) ((Kept.refl _ w).alloc o) (fun h => h) (fun _ _ h => h) (fun _ _ h => h)
  have HO := hide' (fun o => owner_any (w.alloc o) B rb st V (HW o) hb.opn hb.atom)
  have hoi : ownerI st = -1 := by simp [ownerI, ho]
  have Hoi := hide' hoi
  obtain ⟨c0, c1, c2, c3, c4, c5, c6, c7, c8⟩ := h.opens.facts
  have hf := fun i => thawed_of_block h.blk i
  rw [hva] at c3
  have H := hide' h
  have Hat := hide' hat
  have Hva := hide' hva
  have Hadd : Hid (addS st s = { st with atom := st.atom ++ [s] }) := by show _ = _; simp [addS, bumpS, ho]
  clear h hat hva HW ho hoi
  go_enter Tryz.func107, Tryz.ntmps107
  go_wp2_with fail
  refine (HO.out _).mono ?_
  rintro e w1 ⟨rfl, nd, rfl⟩
  rw [Hoi.out]
  go_wp2_with fail
  go_region_law (refine step_append1 ((w.alloc (.cells #[.string ⟨s.name.toArray⟩, .int .i64 s.num, .int .i64 s.args] 168)).drewN (nd + 1)) rfl (.tmp 24) (.tmp 26) 78 rfl B 168 Tryz.infoSym Tryz.underlying78 rfl (by decide) (.slice aa st.atom.length acap) st.atom.length (symsCells st.atom) rfl (Hat.out.alloc _) #[.string ⟨s.name.toArray⟩, .int .i64 s.num, .int .i64 s.args] rfl (by simp) rfl (sym_one _ _ _) (by omega) (by simp; omega) rfl ?_; intro v' w1 hap; obtain ⟨a1, a1cap, rfl⟩ := owns_slice hap.owns; have hblk1 := blk_after hap.kept H.out.blk (owns_apart Hat.out (by decide) H.out.blk); have d3 : w1.cell? ⟨rb, 3, none⟩ = some V.a := cell_of_block hblk1 3 _ rfl; have df := fun i => thawed_of_block hblk1 i; have Hap := hide' hap; have Hblk1 := hide' hblk1; clear hap hblk1)
  all_goals
    go_end0
    rw [Hadd.out]
    have hap := Hap.out
    rw [← Hva.out] at hap
    obtain ⟨hR, hB⟩ := add_done H.out hap
    exact ⟨rfl, ⟨_, Sa, Sb, vs, xs, hR⟩, hB⟩

theorem IsR.fresh {w w' : World} {B rb : Nat} {st : RS} {V : RV} {Sa Sb : Nat} {vs : List Value} {xs : List (List Value)} (h : IsR w B rb st V Sa Sb vs xs) (hk : Kept noBlock w w') : IsR w' B rb st V Sa Sb vs xs :=
  h.only (hk.mono (fun _ _ h => h.elim)) st ((hk.block rb (lt_of_block h.blk) (fun h => h)).trans h.blk) rfl rfl rfl rfl rfl rfl

/-- Behind the count of terms. -/
theorem IsR.counted {w : World} {B rb : Nat} {st : RS} {V : RV} {Sa Sb : Nat} {vs : List Value} {xs : List (List Value)} {n g acap : Nat} {r : List Nat} {so : Sym} (h : IsR w B rb st V Sa Sb vs xs) (ho : st.opn = n :: r) (hso : st.atom[n]? = some so)
    (hva : V.a = .slice (some ⟨g, 0, none⟩) st.atom.length acap) : IsR (w.setCell ⟨g, n * 3 + 2, none⟩ (.int .i64 ((so.args : Int) + 1))) B rb { st with atom := bumpS st } V Sa Sb vs xs ∧ Held B w (w.setCell ⟨g, n * 3 + 2, none⟩ (.int .i64 ((so.args : Int) + 1))) := by
  have hat := h.rest.atom
  rw [hva] at hat
  have hgb : ¬ rb = g := fun e => by subst e; exact owns_apart hat (by decide) h.blk rfl
  have hrow1 := owns_setg hat (n * 3 + 2) (.int .i64 ((so.args : Int) + 1))
  rw [← syms_bump st.atom n so hso] at hrow1
  have hblkW : (w.setCell ⟨g, n * 3 + 2, none⟩ (.int .i64 ((so.args : Int) + 1))).heap[rb]? = some (.cells (rsCells st V) 114 (0, 0)) := by
    rw [Below.heap_setCell _ _ _ _ hgb]; exact h.blk
  have hkW : Kept (touch rb V.a) w (w.setCell ⟨g, n * 3 + 2, none⟩ (.int .i64 ((so.args : Int) + 1))) := (Kept.refl _ w).setCell (p := ⟨g, n * 3 + 2, none⟩) (fun _ => Or.inr (by rw [hva]; rfl)) _
  have hbl : (bumpS st).length = st.atom.length := by simp [bumpS, ho]
  have hbs : bumpS st = st.atom.modify n (fun s => { s with args := s.args + 1 }) := by simp [bumpS, ho]
  exact ⟨h.atoms hkW (bumpS st) V.a hblkW (by rw [hbl, hbs, hva]; exact hrow1) h.rest.ta, h.below hkW h.rest.atom (by decide)⟩

theorem blk_after0 {w w1 : World} {n rb : Nat} {X : Value} {cs : Array Value} {T : TypeId} (h : Kept (ownOf X) (w.drewN n) w1) (hb : w.heap[rb]? = some (.cells cs T (0, 0))) (hx : ¬ ownOf X rb) : w1.heap[rb]? = some (.cells cs T (0, 0)) :=
  (h.block rb (lt_of_block hb) hx).trans hb

theorem add_done0 {w w1 : World} {B rb nd : Nat} {st : RS} {V : RV} {Sa Sb : Nat} {vs : List Value} {xs : List (List Value)} {s : Sym} {a1 : Option Addr} {a1cap : Nat} (H : IsR w B rb st V Sa Sb vs xs)
    (hap : Appended (w.drewN nd) B 168 3 V.a (st.atom.length + 1) (symsCells st.atom ++ [.string ⟨s.name.toArray⟩, .int .i64 s.num, .int .i64 s.args]) (.slice a1 (st.atom.length + 1) a1cap) w1) :
    IsR (w1.setCell ⟨rb, 3, none⟩ (.slice a1 (st.atom.length + 1) a1cap)) B rb { st with atom := st.atom ++ [s] } { V with a := .slice a1 (st.atom.length + 1) a1cap } Sa Sb vs xs ∧ Held B w (w1.setCell ⟨rb, 3, none⟩ (.slice a1 (st.atom.length + 1) a1cap)) := by
  have hat := H.rest.atom
  have hblk1 := blk_after0 hap.kept H.blk (owns_apart hat (by decide) H.blk)
  have hk : Kept (touch rb V.a) w (w1.setCell ⟨rb, 3, none⟩ (.slice a1 (st.atom.length + 1) a1cap)) := touch_put (((Kept.refl _ w).drewN _).trans hap.kept) 3 _
  have hrow : (w1.setCell ⟨rb, 3, none⟩ (.slice a1 (st.atom.length + 1) a1cap)).ownsRow B 168 3 (.slice a1 (st.atom.length + 1) a1cap) (st.atom ++ [s]).length (symsCells (st.atom ++ [s])) := by
    have h2 := hap.owns
    have h3 := ((Kept.refl (only rb) w1).put 3 (.slice a1 (st.atom.length + 1) a1cap)).owns h2 (fun k hko e => by
      have e : k = rb := e
      rw [e] at hko
      exact owns_apart h2 (by decide) hblk1 hko)
    simpa [symsCells, symCells] using h3
  have hta : ∀ k, (Value.slice a1 (st.atom.length + 1) a1cap).ownBlock = some k → Sa ≤ k := by
    intro k hk
    rcases hap.where_ with hw | ⟨g, hw, hg⟩
    · exact H.rest.ta k (by rw [← hw]; exact hk)
    · rw [hk] at hw
      simp at hw
      have := H.rest.la
      have hg' : w.heap.size ≤ g := by simpa using hg
      omega
  exact ⟨H.atoms hk (st.atom ++ [s]) (.slice a1 (st.atom.length + 1) a1cap) (block_set hblk1 3 _) hrow hta, H.below hk hat (by decide)⟩

set_option maxRecDepth 10000 in
set_option maxHeartbeats 1000000 in
theorem add_in (w : World) (B rb : Nat) (st : RS) (s : Sym) (n : Nat) (r : List Nat) (h : IsRx w B rb st) (hb : RBd st) (ho : st.opn = n :: r) (hn : n < st.atom.length) :
    Calls Tryz.prog 107 #[.pointer (some ⟨rb, 0, none⟩), .agg #[.string ⟨s.name.toArray⟩, .int .i64 s.num, .int .i64 s.args]] w fun e w' => e = .returned (.tuple #[]) ∧ IsRx w' B rb (addS st s) ∧ Held B w w' := by
  obtain ⟨V, Sa, Sb, vs, xs, h⟩ := h
  have hrb := lt_of_block h.blk
  have hBw : B ≤ w.heap.size := by have := h.le; omega
  have hla := hb.atom
  obtain ⟨so, hso⟩ : ∃ so, st.atom[n]? = some so := ⟨_, List.getElem?_eq_getElem hn⟩
  have hargs := hb.args so (List.mem_of_getElem? hso)
  have HW : ∀ o, ROpen (w.alloc o) B rb st V := fun o => h.opens.later (S := noBlock) ((Kept.refl _ w).alloc o) (fun h => h) (fun _ _ h => h) (fun _ _ h => h)
  have HO := hide' (fun o => owner_any (w.alloc o) B rb st V (HW o) hb.opn hb.atom)
  have Hoi : Hid (ownerI st = n) := by show _ = _; simp [ownerI, ho]; omega
  have H := hide' h
  have Ho := hide' ho
  have Hso := hide' hso
  clear h HW ho hso
  go_enter Tryz.func107, Tryz.ntmps107
  go_wp2_with fail
  refine (HO.out _).mono ?_
  rintro e w1 ⟨rfl, nd, hw1⟩
  rw [Hoi.out]
  have hk1 : Kept noBlock w w1 := by rw [hw1]; exact ((Kept.refl _ w).alloc _).drewN _
  have b0 : w1.cell? ⟨w.heap.size, 0, none⟩ = some (.string ⟨s.name.toArray⟩) := by rw [hw1]; exact cell_alloc_new w _ _ 0 _ rfl
  have b1 : w1.cell? ⟨w.heap.size, 1, none⟩ = some (.int .i64 s.num) := by rw [hw1]; exact cell_alloc_new w _ _ 1 _ rfl
  have b2 : w1.cell? ⟨w.heap.size, 2, none⟩ = some (.int .i64 s.args) := by rw [hw1]; exact cell_alloc_new w _ _ 2 _ rfl
  have hsz1 : w.heap.size < w1.heap.size := by rw [hw1]; show w.heap.size < (w.alloc _).heap.size; simp
  clear hw1
  have h1 := H.out.fresh hk1
  obtain ⟨aa, acap, hva⟩ := owns_slice h1.rest.atom
  have hat := h1.rest.atom
  rw [hva] at hat
  obtain ⟨g, gcap, gcur, he, hBg, hg, hcap⟩ := owns_some hat (by omega)
  simp only [Value.slice.injEq] at he
  obtain ⟨rfl, _, rfl⟩ := he
  have hgl : g < w.heap.size := (H.out.rest.atom.lt g (by rw [hva]; rfl)).2
  have hgb : ¬ rb = g := fun e => by subst e; exact owns_apart hat (by decide) h1.blk rfl
  have cg : w1.cell? ⟨g, n * 3 + 2, none⟩ = some (.int .i64 so.args) := owns_cell hat _ _ (by rw [symsCells_at _ n so Hso.out 2 (by omega)]; rfl)
  have fg := thawed_of_block hg (n * 3 + 2)
  have c3 : w1.cell? ⟨rb, 3, none⟩ = some V.a := h1.opens.facts.2.2.2.1
  rw [hva] at c3
  obtain ⟨hR1, hB1⟩ := h1.counted Ho.out Hso.out hva
  have Hat1 : Hid ((w1.setCell ⟨g, n * 3 + 2, none⟩ (.int .i64 ((so.args : Int) + 1))).ownsRow B 168 3 (.slice (some ⟨g, 0, none⟩) st.atom.length acap) (bumpS st).length (symsCells (bumpS st))) := by
    have h2 := hR1.rest.atom
    simp only at h2
    rw [hva] at h2
    exact h2
  have hbl : (bumpS st).length = st.atom.length := by simp [bumpS, Ho.out]
  have Hbl := hide' hbl
  have Hat2 := Hat1.out
  rw [hbl] at Hat2
  have HAT := hide' Hat2
  have HB1 := hide' ((Held.fresh hk1 hBw).trans hB1)
  have H1 := hide' hR1
  have Hva := hide' hva
  have hsz2 : B ≤ w1.heap.size := by omega
  have hrb1 : rb < w1.heap.size := by omega
  have hg1 : g < w1.heap.size := by omega
  clear h1 hat hva hg hR1 hB1 Hat1 Hat2 hbl hk1
  go_wp2_with fail
  go_region_law (refine step_append1 ((w1.setCell ⟨g, n * 3 + 2, none⟩ (.int .i64 ((so.args : Int) + 1))).drewN 1) rfl (.tmp 24) (.tmp 26) 78 rfl B 168 Tryz.infoSym Tryz.underlying78 rfl (by decide) (.slice (some ⟨g, 0, none⟩) st.atom.length acap) st.atom.length (symsCells (bumpS st)) rfl HAT.out #[.string ⟨s.name.toArray⟩, .int .i64 s.num, .int .i64 s.args] rfl (by simp) rfl (sym_one _ _ _) (by omega) (by simp; omega) rfl ?_; intro v' w2 hap; obtain ⟨a1, a1cap, rfl⟩ := owns_slice hap.owns; have hblk1 := blk_after0 hap.kept H1.out.blk (owns_apart HAT.out (by decide) H1.out.blk); have d3 : w2.cell? ⟨rb, 3, none⟩ = some V.a := cell_of_block hblk1 3 _ rfl; have df := fun i => thawed_of_block hblk1 i; have Hap := hide' hap; clear hap hblk1)
  all_goals
    go_end0
    have hap := Hap.out
    rw [← Hva.out] at hap
    rw [← Hbl.out] at hap
    obtain ⟨hR, hB⟩ := add_done0 H1.out hap
    simp only [Hbl.out] at hR hB
    exact ⟨rfl, ⟨_, Sa, Sb, vs, xs, hR⟩, HB1.out.trans hB⟩

end Go.Proofs.YtcbckkenifmchaaGreatDoor
