/-
  PROVED HERE: plain laws on how the program's reader keeps what it has read in memory (the conditions stand in each statement).
-/
import Derived.Test.YtcbckkenifmchaaGreatDoorCodeCheck2
namespace Go.Proofs.YtcbckkenifmchaaGreatDoor
open Go.RowKit
set_option linter.unusedSimpArgs false
set_option linter.unusedVariables false

theorem Tryz.infoSym : (Tryz.prog.info? 168).map (fun i => (i.zero, i.size, i.bytes)) = some (some (.agg #[.string ⟨#[]⟩, .int .i64 0, .int .i64 0]), 3, 32) := by kernel_rfl
theorem Tryz.infoSyms : (Tryz.prog.info? 78).map (fun i => (i.zero, i.size, i.bytes)) = some (some (.slice none 0 0), 1, 24) := by kernel_rfl
theorem Tryz.infoCls : (Tryz.prog.info? 81).map (fun i => (i.zero, i.size, i.bytes)) = some (some (.agg #[.slice none 0 0, .slice none 0 0, .slice none 0 0]), 3, 72) := by kernel_rfl

/-- An atom that is whole: its symbols, in a row below a number. -/
def SymRow (w : World) (B Sa : Nat) (v : Value) (l : List Sym) : Prop := w.ownsRow B 168 3 v l.length (symsCells l) ∧ ∀ k, v.ownBlock = some k → k < Sa
/-- Atoms of a body. -/
def BodyRow (w : World) (B Sa : Nat) (v : Value) (ls : List (List Sym)) (vs : List Value) : Prop :=
  w.ownsRow B 78 1 v ls.length vs ∧ ∀ (i : Nat) (l : List Sym), ls[i]? = some l → ∃ x, vs[i]? = some x ∧ SymRow w B Sa x l
/-- Clauses that are whole. -/
def CCRow (w : World) (B Sa Sb : Nat) (v : Value) (cs : List CC) (xs : List (List Value)) : Prop :=
  w.ownsRow B 81 3 v cs.length xs.flatten ∧ xs.length = cs.length ∧ (∀ x ∈ xs, x.length = 3) ∧
  ∀ (i : Nat) (c : CC), cs[i]? = some c → ∃ hv bv vv vs, xs[i]? = some [hv, bv, vv] ∧ SymRow w B Sa hv c.head ∧ BodyRow w B Sa bv c.body vs ∧ (∀ k, bv.ownBlock = some k → k < Sb) ∧ ∃ a n x, vv = .slice a n x

/-- All but the struct itself. -/
structure RRest (w : World) (B : Nat) (st : RS) (V : RV) (Sa Sb : Nat) (vs : List Value) (xs : List (List Value)) : Prop where
  atom : w.ownsRow B 168 3 V.a st.atom.length (symsCells st.atom)
  opn : w.ownsRow B 3 1 V.o st.opn.length (ints st.opn.reverse)
  vars : w.ownsRow B 9 1 V.v st.vars.length (strs st.vars)
  head : SymRow w B Sa V.h st.head
  body : BodyRow w B Sa V.b st.body vs
  cls : CCRow w B Sa Sb V.c st.clauses xs
  ta : ∀ k, V.a.ownBlock = some k → Sa ≤ k
  tb : ∀ k, V.b.ownBlock = some k → Sb ≤ k
  la : Sa ≤ w.heap.size
  lb : Sb ≤ w.heap.size
/-- A reading, whole. -/
structure IsR (w : World) (B rb : Nat) (st : RS) (V : RV) (Sa Sb : Nat) (vs : List Value) (xs : List (List Value)) : Prop where
  blk : w.heap[rb]? = some (.cells (rsCells st V) 114 (0, 0))
  rest : RRest w B st V Sa Sb vs xs
  le : B ≤ rb

theorem IsR.opens {w : World} {B rb : Nat} {st : RS} {V : RV} {Sa Sb : Nat} {vs : List Value} {xs : List (List Value)} (h : IsR w B rb st V Sa Sb vs xs) : ROpen w B rb st V := by
  obtain ⟨ba, bc, hb⟩ := owns_slice h.rest.body.1
  obtain ⟨ca, cc, hc⟩ := owns_slice h.rest.cls.1
  exact ⟨h.blk, h.rest.atom, h.rest.opn, ⟨ba, bc, hb⟩, ⟨ca, cc, hc⟩⟩

/-- The struct and one row. -/
def touch (rb : Nat) (X : Value) : Nat → Prop := fun k => k = rb ∨ ownOf X k

section
variable {w w' : World} {B rb : Nat} {st : RS} {V : RV} {Sa Sb : Nat} {vs : List Value} {xs : List (List Value)} {X : Value}

theorem row_keep {Br : Nat} {e eX : TypeId} {s sX n nX : Nat} {v : Value} {ys yX : List Value} {cs : Array Value} {fr : Nat × Nat} (ho : w.ownsRow Br e s v n ys) (hk : Kept (touch rb X) w w') (hblk : w.heap[rb]? = some (.cells cs 114 fr))
    (hX : w.ownsRow B eX sX X nX yX) (h1 : e ≠ 114) (h2 : e ≠ eX) : w'.ownsRow Br e s v n ys :=
  hk.owns ho (fun k hv hs => by
    rcases hs with rfl | hs
    · exact owns_apart ho h1 hblk hv
    · obtain ⟨cur, hc⟩ := owns_terms hX k hs
      exact owns_apart ho h2 hc hv)
theorem sym_keep {v : Value} {l : List Sym} {eX : TypeId} {sX nX : Nat} {yX : List Value} {cs : Array Value} {fr : Nat × Nat} (h : SymRow w B Sa v l) (hk : Kept (touch rb X) w w') (hblk : w.heap[rb]? = some (.cells cs 114 fr))
    (hX : w.ownsRow B eX sX X nX yX) (h2 : 168 ≠ eX ∨ ∀ k, X.ownBlock = some k → Sa ≤ k) : SymRow w' B Sa v l := by
  refine ⟨?_, h.2⟩
  rcases h2 with h2 | h2
  · exact row_keep h.1 hk hblk hX (by decide) h2
  · exact hk.owns h.1 (fun k hv hs => by
      rcases hs with rfl | hs
      · exact owns_apart h.1 (by decide) hblk hv
      · have a1 := h.2 k hv
        have a2 := h2 k hs
        omega)
theorem body_keep {v : Value} {ls : List (List Sym)} {ws : List Value} {eX : TypeId} {sX nX : Nat} {yX : List Value} {cs : Array Value} {fr : Nat × Nat} (h : BodyRow w B Sa v ls ws) (hk : Kept (touch rb X) w w') (hblk : w.heap[rb]? = some (.cells cs 114 fr))
    (hX : w.ownsRow B eX sX X nX yX) (h2 : 168 ≠ eX ∨ ∀ k, X.ownBlock = some k → Sa ≤ k) (h3 : 78 ≠ eX ∨ ∀ k, v.ownBlock = some k → ¬ ownOf X k) : BodyRow w' B Sa v ls ws := by
  refine ⟨?_, fun i l hl => ?_⟩
  · rcases h3 with h3 | h3
    · exact row_keep h.1 hk hblk hX (by decide) h3
    · exact hk.owns h.1 (fun k hv hs => by
        rcases hs with rfl | hs
        · exact owns_apart h.1 (by decide) hblk hv
        · exact h3 k hv hs)
  · obtain ⟨x, hx, hs⟩ := h.2 i l hl
    exact ⟨x, hx, sym_keep hs hk hblk hX h2⟩
theorem cls_keep {v : Value} {cs : List CC} {ys : List (List Value)} {eX : TypeId} {sX nX : Nat} {yX : List Value} {cl : Array Value} {fr : Nat × Nat} (h : CCRow w B Sa Sb v cs ys) (hk : Kept (touch rb X) w w') (hblk : w.heap[rb]? = some (.cells cl 114 fr))
    (hX : w.ownsRow B eX sX X nX yX) (h2 : 168 ≠ eX ∨ ∀ k, X.ownBlock = some k → Sa ≤ k) (h3 : 78 ≠ eX ∨ ∀ k, X.ownBlock = some k → Sb ≤ k) (h4 : 81 ≠ eX) : CCRow w' B Sa Sb v cs ys := by
  refine ⟨row_keep h.1 hk hblk hX (by decide) h4, h.2.1, h.2.2.1, fun i c hc => ?_⟩
  obtain ⟨hv, bv, vv, us, e1, e2, e3, e4⟩ := h.2.2.2 i c hc
  refine ⟨hv, bv, vv, us, e1, sym_keep e2 hk hblk hX h2, body_keep e3 hk hblk hX h2 ?_, e4⟩
  rcases h3 with h3 | h3
  · exact Or.inl h3
  · exact Or.inr (fun k hb hs => by
      have a1 := e4.1 k hb
      have a2 := h3 k hs
      omega)
end

end Go.Proofs.YtcbckkenifmchaaGreatDoor
