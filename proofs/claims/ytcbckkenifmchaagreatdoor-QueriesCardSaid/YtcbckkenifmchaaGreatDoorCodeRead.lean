/-
  PROVED HERE: what the program's reader tells of how far it has read: the methods that only look (the conditions stand in each statement).
-/
import Derived.Test.YtcbckkenifmchaaGreatDoorCodeNext
import Derived.Test.YtcbckkenifmchaaGreatDoorRefProg
namespace Go.Proofs.YtcbckkenifmchaaGreatDoor
open Go.RowKit
set_option linter.unusedSimpArgs false
set_option linter.unusedVariables false

/-- A clause as the program keeps it. -/
structure CC where
  head : List Sym
  body : List (List Sym)
/-- How far the program has read; 'opn': of each open bracket which symbol stands ahead of it, the innermost first. -/
structure RS where
  query : Bool
  next : Nat
  inBody : Bool
  atom : List Sym
  opn : List Nat
  head : List Sym
  body : List (List Sym)
  vars : Names
  clauses : List CC
/-- The six slices. -/
structure RV where
  a : Value
  o : Value
  h : Value
  b : Value
  v : Value
  c : Value

def symCells (s : Sym) : List Value := [.string ⟨s.name.toArray⟩, .int .i64 s.num, .int .i64 s.args]
def symsCells (l : List Sym) : List Value := l.flatMap symCells
theorem symsCells_at (l : List Sym) (k : Nat) (t : Sym) (h : l[k]? = some t) (j : Nat) (hj : j < 3) : (symsCells l)[k * 3 + j]? = (symCells t)[j]? := by
  induction l generalizing k with
  | nil => simp at h
  | cons a l ih =>
    cases k with
    | zero =>
      simp at h; subst h
      show (symCells a ++ symsCells l)[_]? = _
      rw [List.getElem?_append_left (by simp [symCells]; omega)]
      simp
    | succ k =>
      show (symCells a ++ symsCells l)[_]? = _
      rw [List.getElem?_append_right (by simp [symCells]; omega)]
      rw [← ih k (by simpa using h)]
      congr 1
      simp [symCells]
      omega

def rsCells (st : RS) (V : RV) : Array Value := #[.bool st.query, .int .i64 st.next, .bool st.inBody, V.a, V.o, V.h, V.b, V.v, V.c]

/-- What the looking methods need. -/
structure ROpen (w : World) (B rb : Nat) (st : RS) (V : RV) : Prop where
  blk : w.heap[rb]? = some (.cells (rsCells st V) 114 (0, 0))
  atom : w.ownsRow B 168 3 V.a st.atom.length (symsCells st.atom)
  opn : w.ownsRow B 3 1 V.o st.opn.length (ints st.opn.reverse)
  body : ∃ x c, V.b = .slice x st.body.length c
  cls : ∃ x c, V.c = .slice x st.clauses.length c

theorem ROpen.facts {w : World} {B rb : Nat} {st : RS} {V : RV} (h : ROpen w B rb st V) :
    w.cell? ⟨rb, 0, none⟩ = some (.bool st.query) ∧ w.cell? ⟨rb, 1, none⟩ = some (.int .i64 st.next) ∧ w.cell? ⟨rb, 2, none⟩ = some (.bool st.inBody) ∧ w.cell? ⟨rb, 3, none⟩ = some V.a ∧ w.cell? ⟨rb, 4, none⟩ = some V.o ∧
    w.cell? ⟨rb, 5, none⟩ = some V.h ∧ w.cell? ⟨rb, 6, none⟩ = some V.b ∧ w.cell? ⟨rb, 7, none⟩ = some V.v ∧ w.cell? ⟨rb, 8, none⟩ = some V.c :=
  ⟨cell_of_block h.blk 0 _ rfl, cell_of_block h.blk 1 _ rfl, cell_of_block h.blk 2 _ rfl, cell_of_block h.blk 3 _ rfl, cell_of_block h.blk 4 _ rfl, cell_of_block h.blk 5 _ rfl, cell_of_block h.blk 6 _ rfl, cell_of_block h.blk 7 _ rfl, cell_of_block h.blk 8 _ rfl⟩

/-- Which symbol stands ahead of the innermost open bracket; -1: none is open. -/
def ownerI (st : RS) : Int := match st.opn with
  | [] => -1
  | n :: _ => if st.atom.length ≤ n then -1 else n

set_option maxHeartbeats 800000 in
theorem owner_any (w : World) (B rb : Nat) (st : RS) (V : RV) (h : ROpen w B rb st V) (hl : st.opn.length ≤ 4096) (ha : st.atom.length ≤ 4096) :
    Calls Tryz.prog 137 #[.pointer (some ⟨rb, 0, none⟩)] w fun e w' => e = .returned (.int .i64 (ownerI st)) ∧ ∃ n, w' = w.drewN n := by
  obtain ⟨c0, c1, c2, c3, c4, c5, c6, c7, c8⟩ := h.facts
  obtain ⟨aa, acap, hva⟩ := owns_slice h.atom
  obtain ⟨oa, ocap, hvo⟩ := owns_slice h.opn
  rw [hva] at c3
  rw [hvo] at c4
  cases hst : st.opn with
  | nil =>
    have Ho : Hid (ownerI st = -1) := by show _ = _; simp [ownerI, hst]
    simp only [hst, List.length_nil] at c4
    clear hva hvo hst h
    go_enter Tryz.func137, Tryz.ntmps137
    go_wp2
    go_ret
    rw [Ho.out]
    exact ⟨rfl, 0, rfl⟩
  | cons n r =>
    have hrl : r.length + 1 ≤ 4096 := by rw [hst] at hl; simpa using hl
    have hop := h.opn
    rw [hst, hvo, hst] at hop
    obtain ⟨g, gcap, gcur, he, hBg, hg, hcap⟩ := owns_some hop (by simp)
    simp only [Value.slice.injEq] at he
    obtain ⟨rfl, _, rfl⟩ := he
    have cg : w.cell? ⟨g, r.length, none⟩ = some (.int .i64 n) := owns_cell hop r.length _ (by simp [ints])
    simp only [hst, List.length_cons] at c4
    simp only [List.length_cons] at hcap
    have hlen0 : (((r.length : Nat) : Int) + 1 == 0) = false := by rw [beq_eq_false_iff_ne]; omega
    by_cases hn : st.atom.length ≤ n
    · have Ho : Hid (ownerI st = -1) := by show _ = _; simp [ownerI, hst, hn]
      clear hva hvo hst h hop hg
      go_enter Tryz.func137, Tryz.ntmps137
      go_wp2_with fail
      go_quiet (fail)
      go_wp2
      go_ret
      rw [Ho.out]
      exact ⟨rfl, _, rfl⟩
    · have Ho : Hid (ownerI st = n) := by show _ = _; simp [ownerI, hst, hn]
      clear hva hvo hst h hop hg
      go_enter Tryz.func137, Tryz.ntmps137
      go_wp2_with fail
      go_quiet (fail)
      go_wp2
      go_ret
      rw [Ho.out]
      exact ⟨rfl, _, rfl⟩

end Go.Proofs.YtcbckkenifmchaaGreatDoor
