/-
  PROVED HERE: plain laws on what a step of the program's reader leaves in memory (the conditions stand in each statement).
-/
import Derived.Test.YtcbckkenifmchaaGreatDoorCodeSeal
namespace Go.Proofs.YtcbckkenifmchaaGreatDoor
open Go.RowKit
set_option linter.unusedSimpArgs false
set_option linter.unusedVariables false

/-- What a step of the reader leaves as it was: all that lies below a number, and the tokens and faults. -/
structure Held (B : Nat) (w w' : World) : Prop where
  below : Below B w w'
  other : ∀ (k : Nat) (cs : Array Value) (T : TypeId) (fr : Nat × Nat), w.heap[k]? = some (.cells cs T fr) → (T = 152 ∨ T = 65) → w'.heap[k]? = w.heap[k]?
theorem Held.refl (B : Nat) (w : World) : Held B w w := ⟨Below.refl _ _, fun _ _ _ _ _ _ => rfl⟩
theorem Held.trans {B : Nat} {a b c : World} (h : Held B a b) (k : Held B b c) : Held B a c :=
  ⟨h.below.trans k.below, fun i cs T fr hb hT => (k.other i cs T fr ((h.other i cs T fr hb hT).trans hb) hT).trans (h.other i cs T fr hb hT)⟩
theorem Held.drew {B : Nat} {a w : World} (h : Held B a w) : Held B a w.drew := ⟨h.below.drew, h.other⟩
theorem Held.fresh {B : Nat} {w w' : World} (h : Kept noBlock w w') (hB : B ≤ w.heap.size) : Held B w w' := ⟨h.below hB (fun _ h => h.elim), fun k _ _ _ hb _ => h.block k (lt_of_block hb) (fun h => h)⟩

section
variable {w w' : World} {B rb : Nat} {st : RS} {V : RV} {Sa Sb : Nat} {vs : List Value} {xs : List (List Value)}

theorem IsR.below (h : IsR w B rb st V Sa Sb vs xs) {X : Value} {eX : TypeId} {sX nX : Nat} {yX : List Value} (hk : Kept (touch rb X) w w') (hX : w.ownsRow B eX sX X nX yX) (he : eX ≠ 152 ∧ eX ≠ 65) : Held B w w' :=
  ⟨hk.below (Nat.le_of_lt (Nat.lt_of_le_of_lt h.le (lt_of_block h.blk))) (fun k hs => by
    rcases hs with rfl | hs
    · exact h.le
    · exact (hX.lt k hs).1), fun k cs T fr hb hT => by
    refine hk.block k (lt_of_block hb) (fun hs => ?_)
    rcases hs with rfl | hs
    · have e := h.blk
      rw [hb] at e
      simp only [Option.some.injEq, Obj.cells.injEq] at e
      rcases hT with h1 | h1 <;> exact absurd (e.2.1.symm.trans h1) (by decide)
    · obtain ⟨cur, hc⟩ := owns_terms hX k hs
      rw [hb] at hc
      simp only [Option.some.injEq, Obj.cells.injEq] at hc
      rcases hT with h1 | h1
      · exact he.1 (hc.2.1.symm.trans h1)
      · exact he.2 (hc.2.1.symm.trans h1)⟩

/-- The struct alone has turned. -/
theorem IsR.only (h : IsR w B rb st V Sa Sb vs xs) (hk : Kept (touch rb (.slice none 0 0)) w w') (st' : RS) (hblk : w'.heap[rb]? = some (.cells (rsCells st' V) 114 (0, 0)))
    (e1 : st'.atom = st.atom) (e2 : st'.opn = st.opn) (e3 : st'.vars = st.vars) (e4 : st'.head = st.head) (e5 : st'.body = st.body) (e6 : st'.clauses = st.clauses) : IsR w' B rb st' V Sa Sb vs xs := by
  have hX : w.ownsRow B 114 1 (.slice none 0 0) 0 [] := World.ownsRow_nil _ _ _ _
  have r := h.rest
  refine ⟨hblk, ⟨?_, ?_, ?_, ?_, ?_, ?_, r.ta, r.tb, Nat.le_trans r.la hk.size, Nat.le_trans r.lb hk.size⟩, h.le⟩
  · rw [e1]; exact row_keep r.atom hk h.blk hX (by decide) (by decide)
  · rw [e2]; exact row_keep r.opn hk h.blk hX (by decide) (by decide)
  · rw [e3]; exact row_keep r.vars hk h.blk hX (by decide) (by decide)
  · rw [e4]; exact sym_keep r.head hk h.blk hX (Or.inl (by decide))
  · rw [e5]; exact body_keep r.body hk h.blk hX (Or.inl (by decide)) (Or.inl (by decide))
  · rw [e6]; exact cls_keep r.cls hk h.blk hX (Or.inl (by decide)) (Or.inl (by decide)) (by decide)

/-- The open brackets have turned. -/
theorem IsR.opened (h : IsR w B rb st V Sa Sb vs xs) (hk : Kept (touch rb V.o) w w') (l : List Nat) (o' : Value) (hblk : w'.heap[rb]? = some (.cells (rsCells { st with opn := l } { V with o := o' }) 114 (0, 0)))
    (ho : w'.ownsRow B 3 1 o' l.length (ints l.reverse)) : IsR w' B rb { st with opn := l } { V with o := o' } Sa Sb vs xs := by
  have r := h.rest
  exact ⟨hblk, ⟨row_keep r.atom hk h.blk r.opn (by decide) (by decide), ho, row_keep r.vars hk h.blk r.opn (by decide) (by decide), sym_keep r.head hk h.blk r.opn (Or.inl (by decide)),
    body_keep r.body hk h.blk r.opn (Or.inl (by decide)) (Or.inl (by decide)), cls_keep r.cls hk h.blk r.opn (Or.inl (by decide)) (Or.inl (by decide)) (by decide), r.ta, r.tb, Nat.le_trans r.la hk.size, Nat.le_trans r.lb hk.size⟩, h.le⟩

/-- The variables have turned. -/
theorem IsR.named (h : IsR w B rb st V Sa Sb vs xs) (hk : Kept (touch rb V.v) w w') (l : Names) (v' : Value) (hblk : w'.heap[rb]? = some (.cells (rsCells { st with vars := l } { V with v := v' }) 114 (0, 0)))
    (ho : w'.ownsRow B 9 1 v' l.length (strs l)) : IsR w' B rb { st with vars := l } { V with v := v' } Sa Sb vs xs := by
  have r := h.rest
  exact ⟨hblk, ⟨row_keep r.atom hk h.blk r.vars (by decide) (by decide), row_keep r.opn hk h.blk r.vars (by decide) (by decide), ho, sym_keep r.head hk h.blk r.vars (Or.inl (by decide)),
    body_keep r.body hk h.blk r.vars (Or.inl (by decide)) (Or.inl (by decide)), cls_keep r.cls hk h.blk r.vars (Or.inl (by decide)) (Or.inl (by decide)) (by decide), r.ta, r.tb, Nat.le_trans r.la hk.size, Nat.le_trans r.lb hk.size⟩, h.le⟩

/-- The atom has turned. -/
theorem IsR.atoms (h : IsR w B rb st V Sa Sb vs xs) (hk : Kept (touch rb V.a) w w') (l : List Sym) (a' : Value) (hblk : w'.heap[rb]? = some (.cells (rsCells { st with atom := l } { V with a := a' }) 114 (0, 0)))
    (ho : w'.ownsRow B 168 3 a' l.length (symsCells l)) (hta : ∀ k, a'.ownBlock = some k → Sa ≤ k) : IsR w' B rb { st with atom := l } { V with a := a' } Sa Sb vs xs := by
  have r := h.rest
  exact ⟨hblk, ⟨ho, row_keep r.opn hk h.blk r.atom (by decide) (by decide), row_keep r.vars hk h.blk r.atom (by decide) (by decide), sym_keep r.head hk h.blk r.atom (Or.inr r.ta),
    body_keep r.body hk h.blk r.atom (Or.inr r.ta) (Or.inl (by decide)), cls_keep r.cls hk h.blk r.atom (Or.inr r.ta) (Or.inl (by decide)) (by decide), hta, r.tb, Nat.le_trans r.la hk.size, Nat.le_trans r.lb hk.size⟩, h.le⟩

theorem SymRow.more {v : Value} {l : List Sym} {S' : Nat} (h : SymRow w B Sa v l) (hS : Sa ≤ S') : SymRow w B S' v l := ⟨h.1, fun k hk => Nat.lt_of_lt_of_le (h.2 k hk) hS⟩
theorem BodyRow.more {v : Value} {ls : List (List Sym)} {ws : List Value} {S' : Nat} (h : BodyRow w B Sa v ls ws) (hS : Sa ≤ S') : BodyRow w B S' v ls ws :=
  ⟨h.1, fun i l hl => by obtain ⟨x, h1, h2⟩ := h.2 i l hl; exact ⟨x, h1, h2.more hS⟩⟩
theorem CCRow.more {v : Value} {cs : List CC} {ys : List (List Value)} {S' T' : Nat} (h : CCRow w B Sa Sb v cs ys) (hS : Sa ≤ S') (hT : Sb ≤ T') : CCRow w B S' T' v cs ys :=
  ⟨h.1, h.2.1, h.2.2.1, fun i c hc => by
    obtain ⟨hv, bv, vv, us, e1, e2, e3, e4⟩ := h.2.2.2 i c hc
    exact ⟨hv, bv, vv, us, e1, e2.more hS, e3.more hS, fun k hk => Nat.lt_of_lt_of_le (e4.1 k hk) hT, e4.2⟩⟩

/-- An atom is whole: it is the head. -/
theorem IsR.headed (h : IsR w B rb st V Sa Sb vs xs) (hk : Kept (touch rb (.slice none 0 0)) w w') (hblk : w'.heap[rb]? = some (.cells (rsCells { st with head := st.atom, atom := [] } { V with h := V.a, a := .slice none 0 0 }) 114 (0, 0))) :
    IsR w' B rb { st with head := st.atom, atom := [] } { V with h := V.a, a := .slice none 0 0 } w'.heap.size Sb vs xs := by
  have hX : w.ownsRow B 114 1 (.slice none 0 0) 0 [] := World.ownsRow_nil _ _ _ _
  have r := h.rest
  have hs : Sa ≤ w'.heap.size := Nat.le_trans r.la hk.size
  have ha := row_keep r.atom hk h.blk hX (by decide) (by decide)
  exact ⟨hblk, ⟨World.ownsRow_nil _ _ _ _, row_keep r.opn hk h.blk hX (by decide) (by decide), row_keep r.vars hk h.blk hX (by decide) (by decide), ⟨ha, fun k e => (ha.lt k e).2⟩,
    (body_keep r.body hk h.blk hX (Or.inl (by decide)) (Or.inl (by decide))).more hs, (cls_keep r.cls hk h.blk hX (Or.inl (by decide)) (Or.inl (by decide)) (by decide)).more hs (Nat.le_refl _), fun k e => by simp [Value.ownBlock] at e, r.tb, Nat.le_refl _, Nat.le_trans r.lb hk.size⟩, h.le⟩

/-- An atom is whole: it is one more of the body. -/
theorem IsR.bodied (h : IsR w B rb st V Sa Sb vs xs) (hk : Kept (touch rb V.b) w w') (b' : Value) (hblk : w'.heap[rb]? = some (.cells (rsCells { st with body := st.body ++ [st.atom], atom := [] } { V with b := b', a := .slice none 0 0 }) 114 (0, 0)))
    (ho : w'.ownsRow B 78 1 b' (st.body.length + 1) (vs ++ [V.a])) (htb : ∀ k, b'.ownBlock = some k → Sb ≤ k) :
    IsR w' B rb { st with body := st.body ++ [st.atom], atom := [] } { V with b := b', a := .slice none 0 0 } w'.heap.size Sb (vs ++ [V.a]) xs := by
  have r := h.rest
  have hs : Sa ≤ w'.heap.size := Nat.le_trans r.la hk.size
  have ha := row_keep r.atom hk h.blk r.body.1 (by decide) (by decide)
  have hvl : vs.length = st.body.length := by have := r.body.1.1; omega
  refine ⟨hblk, ⟨World.ownsRow_nil _ _ _ _, row_keep r.opn hk h.blk r.body.1 (by decide) (by decide), row_keep r.vars hk h.blk r.body.1 (by decide) (by decide), (sym_keep r.head hk h.blk r.body.1 (Or.inl (by decide))).more hs, ?_,
    (cls_keep r.cls hk h.blk r.body.1 (Or.inl (by decide)) (Or.inr r.tb) (by decide)).more hs (Nat.le_refl _), fun k e => by simp [Value.ownBlock] at e, htb, Nat.le_refl _, Nat.le_trans r.lb hk.size⟩, h.le⟩
  refine ⟨by simpa using ho, fun i l hl => ?_⟩
  rcases Nat.lt_or_ge i st.body.length with hi | hi
  · simp only at hl
    rw [List.getElem?_append_left hi] at hl
    obtain ⟨x, h1, h2⟩ := r.body.2 i l hl
    exact ⟨x, by rw [List.getElem?_append_left (by omega)]; exact h1, (sym_keep h2 hk h.blk r.body.1 (Or.inl (by decide))).more hs⟩
  · have hi' : i = st.body.length := by
      have : i < (st.body ++ [st.atom]).length := (List.getElem?_eq_some_iff.1 hl).1
      simp at this; omega
    subst hi'
    simp at hl
    subst hl
    exact ⟨V.a, by rw [← hvl]; simp, ha, fun k e => (ha.lt k e).2⟩

/-- A clause is whole. -/
theorem IsR.clausd (h : IsR w B rb st V Sa Sb vs xs) (hk : Kept (touch rb V.c) w w') (c' : Value) (st' : RS) (hblk : w'.heap[rb]? = some (.cells (rsCells st' { V with c := c', h := .slice none 0 0, b := .slice none 0 0, v := .slice none 0 0 }) 114 (0, 0)))
    (ho : w'.ownsRow B 81 3 c' (st.clauses.length + 1) (xs.flatten ++ [V.h, V.b, V.v]))
    (e1 : st'.atom = st.atom) (e2 : st'.opn = st.opn) (e3 : st'.vars = []) (e4 : st'.head = []) (e5 : st'.body = []) (e6 : st'.clauses = st.clauses ++ [⟨st.head, st.body⟩]) :
    IsR w' B rb st' { V with c := c', h := .slice none 0 0, b := .slice none 0 0, v := .slice none 0 0 } Sa w'.heap.size [] (xs ++ [[V.h, V.b, V.v]]) := by
  have r := h.rest
  have hs : Sb ≤ w'.heap.size := Nat.le_trans r.lb hk.size
  have hbd := body_keep r.body hk h.blk r.cls.1 (Or.inl (by decide)) (Or.inl (by decide))
  refine ⟨hblk, ⟨?_, ?_, ?_, ?_, ?_, ?_, r.ta, fun k e => by simp [Value.ownBlock] at e, Nat.le_trans r.la hk.size, Nat.le_refl _⟩, h.le⟩
  · rw [e1]; exact row_keep r.atom hk h.blk r.cls.1 (by decide) (by decide)
  · rw [e2]; exact row_keep r.opn hk h.blk r.cls.1 (by decide) (by decide)
  · rw [e3]; exact World.ownsRow_nil _ _ _ _
  · rw [e4]; exact ⟨World.ownsRow_nil _ _ _ _, fun k e => by simp [Value.ownBlock] at e⟩
  · rw [e5]; exact ⟨World.ownsRow_nil _ _ _ _, fun i l hl => by simp at hl⟩
  · rw [e6]
    refine ⟨by simpa using ho, by simp [r.cls.2.1], ?_, fun i c hc => ?_⟩
    · intro x hx
      simp at hx
      rcases hx with hx | rfl
      · exact r.cls.2.2.1 x hx
      · rfl
    · rcases Nat.lt_or_ge i st.clauses.length with hi | hi
      · rw [List.getElem?_append_left hi] at hc
        obtain ⟨hv, bv, vv, us, d1, d2, d3, d4⟩ := r.cls.2.2.2 i c hc
        exact ⟨hv, bv, vv, us, by rw [List.getElem?_append_left (by rw [r.cls.2.1]; exact hi)]; exact d1, sym_keep d2 hk h.blk r.cls.1 (Or.inl (by decide)), body_keep d3 hk h.blk r.cls.1 (Or.inl (by decide)) (Or.inl (by decide)), fun k e => Nat.lt_of_lt_of_le (d4.1 k e) hs, d4.2⟩
      · have hi' : i = st.clauses.length := by
          have : i < (st.clauses ++ [(⟨st.head, st.body⟩ : CC)]).length := (List.getElem?_eq_some_iff.1 hc).1
          simp at this; omega
        subst hi'
        simp at hc
        subst hc
        exact ⟨V.h, V.b, V.v, vs, by rw [← r.cls.2.1]; simp, sym_keep r.head hk h.blk r.cls.1 (Or.inl (by decide)), hbd, fun k e => (hbd.1.lt k e).2, by obtain ⟨va, vcap, hvv⟩ := owns_slice r.vars; exact ⟨va, _, vcap, hvv⟩⟩
end

end Go.Proofs.YtcbckkenifmchaaGreatDoor
