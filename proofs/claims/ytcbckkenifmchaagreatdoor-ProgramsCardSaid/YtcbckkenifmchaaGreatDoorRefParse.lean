/-
  PROVED HERE: plain facts on reading a term out of tokens, and on a term that lies in memory (the conditions stand in each statement).
-/
import Derived.Test.YtcbckkenifmchaaGreatDoorRefNumber
namespace Go.Proofs.YtcbckkenifmchaaGreatDoor
open Go.RowKit
set_option linter.unusedSimpArgs false
set_option linter.unusedVariables false

/-- The terms up to a closing bracket, each behind one token. -/
def pargs (p : List Tok → Names → Option (List Sym × List Tok × Names)) : Nat → List Tok → Names → List (List Sym) → Option (List (List Sym) × List Tok × Names)
  | 0, _, _, _ => none
  | _ + 1, [], _, _ => none
  | g + 1, t :: ts, names, acc =>
    if t.kind = 41 then some (acc, ts, names)
    else match p ts names with
      | none => none
      | some r => pargs p g r.2.1 r.2.2 (acc ++ [r.1])

/-- A term that begins with a name, behind the name. -/
def pname (p : List Tok → Names → Option (List Sym × List Tok × Names)) (t : Tok) : List Tok → Names → Option (List Sym × List Tok × Names)
  | [], _ => none
  | u :: us, names =>
    if u.kind ≠ 40 then some ([⟨t.text, 0, 0⟩], u :: us, names)
    else (pargs p (us.length + 1) (u :: us) names []).map fun r => (⟨t.text, 0, r.1.length⟩ :: r.1.flatten, r.2.1, r.2.2)
/-- The term at the head of some tokens. -/
def pterm : Nat → List Tok → Names → Option (List Sym × List Tok × Names)
  | 0, _, _ => none
  | _ + 1, [], _ => none
  | f + 1, t :: ts, names =>
    if t.kind = 2 then some ([⟨[], (numberOf names t.text).2, 0⟩], ts, (numberOf names t.text).1)
    else pname (pterm f) t ts names

/-- What is left is a part behind; no more names came than tokens went. -/
def Behind (ts rest : List Tok) (names names' : Names) : Prop := ∃ n, 0 < n ∧ n ≤ ts.length ∧ rest = ts.drop n ∧ names'.length ≤ names.length + n

theorem numberOf_len (names : Names) (s : List UInt8) : (numberOf names s).1.length ≤ names.length + 1 := by
  unfold numberOf; split <;> simp

theorem pargs_behind {p : List Tok → Names → Option (List Sym × List Tok × Names)} (hp : ∀ ts names r, p ts names = some r → Behind ts r.2.1 names r.2.2) :
    ∀ (g : Nat) (ts : List Tok) (names : Names) (acc : List (List Sym)) r, pargs p g ts names acc = some r → Behind ts r.2.1 names r.2.2 := by
  intro g
  induction g with
  | zero => intro ts names acc r h; simp [pargs] at h
  | succ g ih =>
    intro ts names acc r h
    cases ts with
    | nil => simp [pargs] at h
    | cons t ts =>
      rw [pargs] at h
      split at h
      · simp at h; subst h
        exact ⟨1, by omega, by simp, by simp, by simp⟩
      · split at h
        · simp at h
        · rename_i q hq
          obtain ⟨n, h1, h2, h3, h4⟩ := hp _ _ _ hq
          obtain ⟨m, h5, h6, h7, h8⟩ := ih _ _ _ _ h
          rw [h3, List.drop_drop] at h7
          rw [h3, List.length_drop] at h6
          exact ⟨n + m + 1, by omega, by simp; omega, by rw [h7]; simp, by omega⟩

theorem pterm_behind : ∀ (f : Nat) (ts : List Tok) (names : Names) r, pterm f ts names = some r → Behind ts r.2.1 names r.2.2 := by
  intro f
  induction f with
  | zero => intro ts names r h; simp [pterm] at h
  | succ f ih =>
    intro ts names r h
    cases ts with
    | nil => simp [pterm] at h
    | cons t ts =>
      rw [pterm] at h
      split at h
      · simp at h; subst h
        exact ⟨1, by omega, by simp, by simp, numberOf_len _ _⟩
      · cases ts with
        | nil => simp [pname] at h
        | cons u us =>
          rw [pname] at h
          split at h
          · simp at h; subst h
            exact ⟨1, by omega, by simp, by simp, by simp⟩
          · rw [Option.map_eq_some_iff] at h
            obtain ⟨q, hq, rfl⟩ := h
            obtain ⟨n, h1, h2, h3, h4⟩ := pargs_behind ih _ _ _ _ _ hq
            exact ⟨n + 1, by omega, by simp at h2 ⊢; omega, by rw [h3]; simp, by simp at h4 ⊢; omega⟩

/-- A term in memory: its three cells, and what lies in blocks from lo to hi. -/
def RepT : Nat → World → Nat → Nat → Value → Value → Value → List Sym → Prop
  | 0, _, _, _, _, _, _, _ => False
  | f + 1, w, lo, hi, a, b, c, l =>
    (∃ n : Nat, a = .string ⟨#[]⟩ ∧ b = .int .i64 n ∧ c = .slice none 0 0 ∧ l = [⟨[], n, 0⟩]) ∨
    (∃ (nm : List UInt8) (ls : List (List Sym)) (xs : List Value), nm ≠ [] ∧ a = .string ⟨nm.toArray⟩ ∧ b = .int .i64 0 ∧ l = ⟨nm, 0, ls.length⟩ :: ls.flatten ∧
      w.ownsRow lo 74 3 c ls.length xs ∧ (∀ k, c.ownBlock = some k → k < hi) ∧
      ∀ (i : Nat) (l' : List Sym), ls[i]? = some l' → ∃ a' b' c', xs[i * 3]? = some a' ∧ xs[i * 3 + 1]? = some b' ∧ xs[i * 3 + 2]? = some c' ∧ RepT f w lo hi a' b' c' l')

/-- A block of terms. -/
def isTerms (w : World) (k : Nat) : Prop := ∃ cur, w.heap[k]? = some (.cells cur 74 (0, 0))

theorem owns_terms {w : World} {B : Nat} {e : TypeId} {size n : Nat} {v : Value} {xs : List Value} (h : w.ownsRow B e size v n xs) (k : Nat) (hk : v.ownBlock = some k) : ∃ cur, w.heap[k]? = some (.cells cur e (0, 0)) := by
  rcases h.2 with ⟨rfl, _⟩ | ⟨g, cap, cur, rfl, _, hg, _⟩
  · simp [Value.ownBlock] at hk
  · simp only [Value.ownBlock, Option.some.injEq] at hk
    subst hk
    exact ⟨cur, hg⟩
theorem owns_apart {w : World} {B : Nat} {e e' : TypeId} {size n : Nat} {v : Value} {xs : List Value} (h : w.ownsRow B e size v n xs) (he : e ≠ e') {k : Nat} {cs : Array Value} {fr : Nat × Nat} (hk : w.heap[k]? = some (.cells cs e' fr)) : ¬ ownOf v k := by
  intro ho
  obtain ⟨cur, hc⟩ := owns_terms h k ho
  rw [hc] at hk
  simp at hk
  exact he hk.2.1
theorem owns_same {w w' : World} {B : Nat} {e : TypeId} {size n : Nat} {v : Value} {xs : List Value} (h : w.ownsRow B e size v n xs) (hk : ∀ k, v.ownBlock = some k → w'.heap[k]? = w.heap[k]?) : w'.ownsRow B e size v n xs := by
  refine ⟨h.1, ?_⟩
  rcases h.2 with hn | ⟨g, cap, cur, rfl, hb, hg, rest⟩
  · exact .inl hn
  · exact .inr ⟨g, cap, cur, rfl, hb, by rw [hk g rfl]; exact hg, rest⟩

theorem RepT.later : ∀ (f : Nat) {w w' : World} {lo hi : Nat} {a b c : Value} {l : List Sym}, RepT f w lo hi a b c l → (∀ k, lo ≤ k → k < hi → isTerms w k → w'.heap[k]? = w.heap[k]?) → RepT f w' lo hi a b c l := by
  intro f
  induction f with
  | zero => intro w w' lo hi a b c l h; exact h.elim
  | succ f ih =>
    intro w w' lo hi a b c l h hk
    rcases h with h | ⟨nm, ls, xs, h1, h2, h3, h4, h5, h6, h7⟩
    · exact Or.inl h
    · refine Or.inr ⟨nm, ls, xs, h1, h2, h3, h4, owns_same h5 (fun k e => hk k (h5.lt k e).1 (h6 k e) (owns_terms h5 k e)), h6, ?_⟩
      intro i l' hl
      obtain ⟨a', b', c', g1, g2, g3, g4⟩ := h7 i l' hl
      exact ⟨a', b', c', g1, g2, g3, ih g4 hk⟩
theorem RepT.wide : ∀ (f : Nat) {w : World} {lo hi lo' hi' : Nat} {a b c : Value} {l : List Sym}, RepT f w lo hi a b c l → lo' ≤ lo → hi ≤ hi' → RepT f w lo' hi' a b c l := by
  intro f
  induction f with
  | zero => intro w lo hi lo' hi' a b c l h; exact h.elim
  | succ f ih =>
    intro w lo hi lo' hi' a b c l h hl hh
    rcases h with h | ⟨nm, ls, xs, h1, h2, h3, h4, h5, h6, h7⟩
    · exact Or.inl h
    · refine Or.inr ⟨nm, ls, xs, h1, h2, h3, h4, owns_base h5 hl, fun k e => Nat.lt_of_lt_of_le (h6 k e) hh, ?_⟩
      intro i l' hl'
      obtain ⟨a', b', c', g1, g2, g3, g4⟩ := h7 i l' hl'
      exact ⟨a', b', c', g1, g2, g3, ih g4 hl hh⟩

end Go.Proofs.YtcbckkenifmchaaGreatDoor
