/-
  PROVED HERE: plain facts on writing a term, as the reference does it (no memory, no program; the conditions stand in each statement).
-/
import Derived.Test.YtcbckkenifmchaaGreatDoorRefParse
import Derived.Test.YtcbckkenifmchaaGreatDoorRefDec
namespace Go.Proofs.YtcbckkenifmchaaGreatDoor
open Go.RowKit
set_option linter.unusedSimpArgs false
set_option linter.unusedVariables false

/-- The form of a term, written from left to right. -/
def IsT : Nat → List Sym → Prop
  | 0, _ => False
  | f + 1, l => (∃ n : Nat, l = [⟨[], n, 0⟩]) ∨ ∃ (nm : List UInt8) (ls : List (List Sym)), nm ≠ [] ∧ l = ⟨nm, 0, ls.length⟩ :: ls.flatten ∧ ∀ l' ∈ ls, IsT f l'

theorem RepT.isT : ∀ (f : Nat) {w : World} {lo hi : Nat} {a b c : Value} {l : List Sym}, RepT f w lo hi a b c l → IsT f l := by
  intro f
  induction f with
  | zero => intro w lo hi a b c l h; exact h.elim
  | succ f ih =>
    intro w lo hi a b c l h
    rcases h with ⟨n, _, _, _, h⟩ | ⟨nm, ls, xs, h1, _, _, h4, _, _, h7⟩
    · exact Or.inl ⟨n, h⟩
    · refine Or.inr ⟨nm, ls, h1, h4, fun l' hl => ?_⟩
      obtain ⟨i, hi, rfl⟩ := List.getElem_of_mem hl
      obtain ⟨a', b', c', _, _, _, g⟩ := h7 i _ (List.getElem?_eq_getElem hi)
      exact ih g

/-- A variable's name, and the variables seen. -/
def wvar (n : Nat) (seen : List Nat) : List UInt8 × List Nat := if n ∈ seen then (calledL (seen.idxOf n), seen) else (calledL seen.length, seen ++ [n])

/-- So many terms, a sign ahead of each. -/
def wargs (p : List Sym → List Nat → List UInt8 × List Nat × List Sym) : Nat → UInt8 → List Sym → List Nat → List UInt8 × List Nat × List Sym
  | 0, _, r, seen => ([], seen, r)
  | n + 1, sep, r, seen => (sep :: ((p r seen).1 ++ (wargs p n 44 (p r seen).2.2 (p r seen).2.1).1), (wargs p n 44 (p r seen).2.2 (p r seen).2.1).2)

/-- The first term of some symbols, written; the variables seen; what is left. -/
def wterm : Nat → List Sym → List Nat → List UInt8 × List Nat × List Sym
  | 0, r, seen => ([], seen, r)
  | _ + 1, [], seen => ([], seen, [])
  | f + 1, s :: r, seen =>
    if s.name = [] then ((wvar s.num seen).1, (wvar s.num seen).2, r)
    else if s.args = 0 then (s.name, seen, r)
    else (s.name ++ (wargs (wterm f) s.args 40 r seen).1 ++ [41], (wargs (wterm f) s.args 40 r seen).2)

/-- The terms of a list, a sign ahead of each. -/
def wkids (f : Nat) : UInt8 → List (List Sym) → List Nat → List UInt8 × List Nat
  | _, [], seen => ([], seen)
  | sep, l :: ls, seen => (sep :: ((wterm f l seen).1 ++ (wkids f 44 ls (wterm f l seen).2.1).1), (wkids f 44 ls (wterm f l seen).2.1).2)

theorem wargs_kids (f : Nat) (hp : ∀ l, IsT f l → ∀ rest seen, wterm f (l ++ rest) seen = ((wterm f l seen).1, (wterm f l seen).2.1, rest)) :
    ∀ (ls : List (List Sym)), (∀ l' ∈ ls, IsT f l') → ∀ sep rest seen, wargs (wterm f) ls.length sep (ls.flatten ++ rest) seen = ((wkids f sep ls seen).1, (wkids f sep ls seen).2, rest) := by
  intro ls
  induction ls with
  | nil => intro _ sep rest seen; rfl
  | cons l ls ih =>
    intro h sep rest seen
    have h1 := hp l (h l (by simp)) (ls.flatten ++ rest) seen
    have h2 := ih (fun l' hl => h l' (by simp [hl])) 44 rest (wterm f l seen).2.1
    simp only [List.length_cons, List.flatten_cons, List.append_assoc, wargs, wkids]
    rw [h1]
    simp only
    rw [h2]

theorem wterm_app : ∀ (f : Nat) (l : List Sym), IsT f l → ∀ rest seen, wterm f (l ++ rest) seen = ((wterm f l seen).1, (wterm f l seen).2.1, rest) := by
  intro f
  induction f with
  | zero => intro l h; exact h.elim
  | succ f ih =>
    intro l h rest seen
    rcases h with ⟨n, rfl⟩ | ⟨nm, ls, h1, rfl, h2⟩
    · simp [wterm]
    · have hw := wargs_kids f ih ls h2 40
      have hw1 := hw rest seen
      have hw2 := hw [] seen
      simp only [List.append_nil] at hw2
      simp only [List.cons_append, wterm, h1, if_false]
      cases ls with
      | nil => simp
      | cons l ls =>
        rw [if_neg (by simp), if_neg (by simp)]
        rw [hw1, hw2]

theorem wterm_name (f : Nat) (nm : List UInt8) (ls : List (List Sym)) (hn : nm ≠ []) (h : ∀ l' ∈ ls, IsT f l') (hl : ls ≠ []) (seen : List Nat) :
    wterm (f + 1) (⟨nm, 0, ls.length⟩ :: ls.flatten) seen = (nm ++ (wkids f 40 ls seen).1 ++ [41], (wkids f 40 ls seen).2, []) := by
  have hw2 := wargs_kids f (wterm_app f) ls h 40 [] seen
  simp only [List.append_nil] at hw2
  simp only [wterm, hn, if_false]
  rw [if_neg (by simp [hl]), hw2]

theorem called_len (n : Nat) (h : n ≤ 1000) : (calledL n).length ≤ 50 := by
  unfold calledL
  split
  · simp
  · have := dec_len (n / 26)
    simp only [List.length_cons]
    omega
theorem wvar_len (n : Nat) (seen : List Nat) (h : seen.length ≤ 999) : (wvar n seen).1.length ≤ 50 ∧ (wvar n seen).2.length ≤ seen.length + 1 := by
  unfold wvar
  split
  · rename_i hm
    have := List.idxOf_lt_length_of_mem hm
    exact ⟨called_len _ (by omega), by simp⟩
  · exact ⟨called_len _ (by omega), by simp⟩

theorem wkids_len (f : Nat) (hp : ∀ l, IsT f l → (∀ s ∈ l, s.name.length ≤ 4096) → ∀ seen, seen.length + l.length ≤ 1000 → (wterm f l seen).1.length + 1 ≤ 4100 * l.length ∧ (wterm f l seen).2.1.length ≤ seen.length + l.length) :
    ∀ (ls : List (List Sym)), (∀ l' ∈ ls, IsT f l') → (∀ s ∈ ls.flatten, s.name.length ≤ 4096) → ∀ sep seen, seen.length + ls.flatten.length ≤ 1000 → (wkids f sep ls seen).1.length ≤ 4100 * ls.flatten.length ∧ (wkids f sep ls seen).2.length ≤ seen.length + ls.flatten.length := by
  intro ls
  induction ls with
  | nil => intro _ _ sep seen _; simp [wkids]
  | cons l ls ih =>
    intro h hn sep seen hs
    simp only [List.flatten_cons, List.length_append] at hs
    have h1 := hp l (h l (by simp)) (fun s hs => hn s (by simp [hs])) seen (by omega)
    have h2 := ih (fun l' hl => h l' (by simp [hl])) (fun s hs => hn s (by simp only [List.flatten_cons, List.mem_append]; exact Or.inr hs)) 44 (wterm f l seen).2.1 (by omega)
    simp only [wkids, List.length_cons, List.length_append, List.flatten_cons]
    omega

theorem isT_pos : ∀ (f : Nat) (l : List Sym), IsT f l → 0 < l.length := by
  intro f l h
  cases f with
  | zero => exact h.elim
  | succ f => rcases h with ⟨n, rfl⟩ | ⟨nm, ls, h1, rfl, h2⟩ <;> simp
theorem flat_len (f : Nat) (ls : List (List Sym)) (h : ∀ l' ∈ ls, IsT f l') : ls.length ≤ ls.flatten.length := by
  induction ls with
  | nil => simp
  | cons l ls ih =>
    have h1 := isT_pos f l (h l (by simp))
    have h2 := ih (fun l' hl => h l' (by simp [hl]))
    simp only [List.flatten_cons, List.length_append, List.length_cons]
    omega

theorem wterm_len : ∀ (f : Nat) (l : List Sym), IsT f l → (∀ s ∈ l, s.name.length ≤ 4096) → ∀ seen, seen.length + l.length ≤ 1000 → (wterm f l seen).1.length + 1 ≤ 4100 * l.length ∧ (wterm f l seen).2.1.length ≤ seen.length + l.length := by
  intro f
  induction f with
  | zero => intro l h; exact h.elim
  | succ f ih =>
    intro l h hn seen hs
    rcases h with ⟨n, rfl⟩ | ⟨nm, ls, h1, rfl, h2⟩
    · have := wvar_len n seen (by simp at hs; omega)
      simp [wterm]
      omega
    · have hnm : nm.length ≤ 4096 := hn _ (List.mem_cons_self ..)
      by_cases hl : ls = []
      · subst hl
        simp [wterm, h1]
        omega
      · rw [wterm_name f nm ls h1 h2 hl]
        simp only [List.length_cons] at hs
        have h3 := wkids_len f ih ls h2 (fun s hs => hn s (List.mem_cons_of_mem _ hs)) 40 seen (by omega)
        have h4 := flat_len f ls h2
        simp only [List.length_append, List.length_cons, List.length_nil]
        omega

end Go.Proofs.YtcbckkenifmchaaGreatDoor
