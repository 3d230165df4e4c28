/-
  PROVED HERE: plain facts: the program writes what it has read as the reference does (the conditions stand in each statement).
-/
import Derived.Test.YtcbckkenifmchaaGreatDoorCodeText
import Derived.Test.YtcbckkenifmchaaGreatDoorCodeParse
namespace Go.Proofs.YtcbckkenifmchaaGreatDoor
set_option linter.unusedSimpArgs false
set_option linter.unusedVariables false

/-- The variables are numbered in the order in which they first stand: from k variables on, as many as it tells then. -/
def scan : List Sym → Nat → Option Nat
  | [], k => some k
  | s :: r, k => if s.name = [] then (if s.num < k then scan r k else if s.num = k then scan r (k + 1) else none) else scan r k

theorem scan_append (a b : List Sym) (k : Nat) : scan (a ++ b) k = (scan a k).bind (scan b) := by
  induction a generalizing k with
  | nil => rfl
  | cons s a ih =>
    simp only [List.cons_append, scan]
    split
    · split
      · exact ih k
      · split
        · exact ih (k + 1)
        · rfl
    · exact ih k
theorem scan_cut {a b : List Sym} {k k' : Nat} (h : scan (a ++ b) k = some k') : ∃ j, scan a k = some j ∧ scan b j = some k' := by
  rw [scan_append] at h
  cases ha : scan a k with
  | none => rw [ha] at h; simp at h
  | some j => rw [ha] at h; exact ⟨j, rfl, h⟩
theorem scan_bound : ∀ (l : List Sym) (k k' : Nat), scan l k = some k' → k ≤ k' ∧ k' ≤ k + l.length ∧ ∀ s ∈ l, s.name = [] → s.num < k' := by
  intro l
  induction l with
  | nil => intro k k' h; simp [scan] at h; subst h; simp
  | cons s l ih =>
    intro k k' h
    simp only [scan] at h
    split at h
    · split at h
      · rename_i h1 h2
        obtain ⟨g1, g2, g3⟩ := ih _ _ h
        refine ⟨g1, by simp; omega, ?_⟩
        intro x hx hn
        simp at hx
        rcases hx with rfl | hx
        · omega
        · exact g3 x hx hn
      · split at h
        · rename_i h1 h2 h3
          obtain ⟨g1, g2, g3⟩ := ih _ _ h
          refine ⟨by omega, by simp; omega, ?_⟩
          intro x hx hn
          simp at hx
          rcases hx with rfl | hx
          · omega
          · exact g3 x hx hn
        · simp at h
    · rename_i h1
      obtain ⟨g1, g2, g3⟩ := ih _ _ h
      refine ⟨g1, by simp; omega, ?_⟩
      intro x hx hn
      simp at hx
      rcases hx with rfl | hx
      · exact absurd hn h1
      · exact g3 x hx hn

theorem idx_range (n k : Nat) (h : n < k) : (List.range k).idxOf n = n := by
  have hm : n ∈ List.range k := by simpa using h
  have h1 := List.idxOf_lt_length_of_mem hm
  have h2 := List.getElem_idxOf h1
  rw [List.getElem_range] at h2
  exact h2

theorem writes_kids (f : Nat) (IH : ∀ l, IsT f l → ∀ k k', scan l k = some k' → (wterm f l (List.range k)).2.1 = List.range k' ∧ ∀ rest miss, atomC (l ++ rest) miss = (wterm f l (List.range k)).1 ++ ((closes miss).1 ++ atomC rest (closes miss).2)) :
    ∀ (ls : List (List Sym)), ls ≠ [] → (∀ l ∈ ls, IsT f l) → ∀ (k k' : Nat) (sep : UInt8), scan ls.flatten k = some k' → (wkids f sep ls (List.range k)).2 = List.range k' ∧
      ∀ rest miss, sep :: atomC (ls.flatten ++ rest) (ls.length :: miss) = (wkids f sep ls (List.range k)).1 ++ (41 :: ((closes miss).1 ++ atomC rest (closes miss).2)) := by
  intro ls
  induction ls with
  | nil => intro h; exact absurd rfl h
  | cons l ls ih =>
    intro _ hls k k' sep hsc
    rw [List.flatten_cons] at hsc
    obtain ⟨j, h1, h2⟩ := scan_cut hsc
    obtain ⟨w1, w2⟩ := IH l (hls l (by simp)) k j h1
    cases ls with
    | nil =>
      simp only [List.flatten_nil, scan, Option.some.injEq] at h2
      subst h2
      simp only [wkids, w1, List.flatten_cons, List.flatten_nil, List.append_nil]
      refine ⟨trivial, fun rest miss => ?_⟩
      rw [w2]
      simp [closes]
    | cons l2 ls2 =>
      obtain ⟨v1, v2⟩ := ih (by simp) (fun x hx => hls x (by simp [hx])) j k' 44 h2
      have hk : wkids f sep (l :: l2 :: ls2) (List.range k) = (sep :: ((wterm f l (List.range k)).1 ++ (wkids f 44 (l2 :: ls2) (List.range j)).1), (wkids f 44 (l2 :: ls2) (List.range j)).2) := by
        rw [wkids, w1]
      rw [hk]
      refine ⟨v1, fun rest miss => ?_⟩
      rw [List.flatten_cons, List.append_assoc, w2]
      have hc : closes ((l :: l2 :: ls2).length :: miss) = ([44], (l2 :: ls2).length :: miss) := by simp [closes]
      rw [hc]
      have := v2 rest miss
      simp only [List.cons_append, List.nil_append, List.append_assoc]
      rw [this]

theorem writes : ∀ (f : Nat) (l : List Sym), IsT f l → ∀ k k', scan l k = some k' → (wterm f l (List.range k)).2.1 = List.range k' ∧ ∀ rest miss, atomC (l ++ rest) miss = (wterm f l (List.range k)).1 ++ ((closes miss).1 ++ atomC rest (closes miss).2) := by
  intro f
  induction f with
  | zero => intro l h; exact h.elim
  | succ f ih =>
    intro l h k k' hsc
    rcases h with ⟨n, rfl⟩ | ⟨nm, ls, h1, rfl, h2⟩
    · simp only [scan, if_true] at hsc
      split at hsc
      · rename_i hn
        simp at hsc; subst hsc
        have hv : wvar n (List.range k) = (calledL n, List.range k) := by
          unfold wvar
          rw [if_pos (by simpa using hn), idx_range n k hn]
        simp [wterm, hv, atomC, symC]
      · split at hsc
        · rename_i hn1 hn2
          simp at hsc; subst hsc
          have hv : wvar n (List.range k) = (calledL n, List.range (k + 1)) := by
            unfold wvar
            rw [if_neg (by simpa using hn1), List.range_succ, hn2]
            simp
          simp [wterm, hv, atomC, symC]
        · simp at hsc
    · have hsc' : scan ls.flatten k = some k' := by simpa [scan, h1] using hsc
      cases hls : ls with
      | nil =>
        rw [hls] at hsc'
        simp [scan] at hsc'
        subst hsc'
        simp [wterm, atomC, symC, h1]
      | cons l0 ls0 =>
        rw [← hls]
        have hne : ls ≠ [] := by rw [hls]; simp
        have hw := wterm_name f nm ls h1 h2 hne (List.range k)
        obtain ⟨v1, v2⟩ := writes_kids f ih ls hne h2 k k' 40 hsc'
        rw [hw]
        refine ⟨v1, fun rest miss => ?_⟩
        have hpos : 0 < ls.length := by rw [hls]; simp
        have := v2 rest miss
        simp only [List.cons_append, atomC, hpos, if_true, symC, h1, if_false, List.append_assoc]
        rw [this]
        simp

theorem body_writes (f : Nat) : ∀ (ls : List (List Sym)), (∀ l ∈ ls, IsT f l) → ∀ (k k' : Nat) (sep : List UInt8), scan ls.flatten k = some k' → bodyC sep ls = wlisted f sep ls (List.range k) := by
  intro ls
  induction ls with
  | nil => intro _ k k' sep _; rfl
  | cons l ls ih =>
    intro hls k k' sep hsc
    rw [List.flatten_cons] at hsc
    obtain ⟨j, h1, h2⟩ := scan_cut hsc
    obtain ⟨w1, w2⟩ := writes f l (hls l (by simp)) k j h1
    have h3 := w2 [] []
    simp only [List.append_nil, closes, atomC, List.nil_append] at h3
    rw [bodyC, wlisted, w1, h3, ih (fun x hx => hls x (by simp [hx])) j k' _ h2]
    simp

/-- Every token but the last has a text. -/
def Worded (ts : List Tok) : Prop := ∀ i t, ts[i]? = some t → i + 1 < ts.length → t.text ≠ []
theorem Worded.drop {ts : List Tok} (h : Worded ts) (n : Nat) : Worded (ts.drop n) := by
  intro i t hi hl
  rw [List.getElem?_drop] at hi
  rw [List.length_drop] at hl
  exact h (n + i) t hi (by omega)
theorem Worded.tail {t : Tok} {ts : List Tok} (h : Worded (t :: ts)) : Worded ts := by simpa using h.drop 1

theorem number_scan (names : Names) (s : List UInt8) (r : List Sym) : scan (⟨[], (numberOf names s).2, 0⟩ :: r) names.length = scan r (numberOf names s).1.length := by
  unfold numberOf
  split
  · rename_i h
    have := List.idxOf_lt_length_of_mem h
    simp [scan, this]
  · simp [scan]

theorem args_good (f : Nat) (IH : ∀ ts names r, Worded ts → pterm f ts names = some r → IsT f r.1 ∧ scan r.1 names.length = some r.2.2.length) (k0 : Nat) :
    ∀ (g : Nat) (ts : List Tok) (names : Names) (acc : List (List Sym)) r, Worded ts → (∀ l ∈ acc, IsT f l) → scan acc.flatten k0 = some names.length → pargs (pterm f) g ts names acc = some r → (∀ l ∈ r.1, IsT f l) ∧ scan r.1.flatten k0 = some r.2.2.length := by
  intro g
  induction g with
  | zero => intro ts names acc r _ _ _ h; simp [pargs] at h
  | succ g ih =>
    intro ts names acc r hw ha hs h
    cases ts with
    | nil => simp [pargs] at h
    | cons t ts =>
      rw [pargs] at h
      split at h
      · simp at h; subst h; exact ⟨ha, hs⟩
      · cases hq : pterm f ts names with
        | none => rw [hq] at h; simp at h
        | some q =>
          rw [hq] at h
          simp only at h
          obtain ⟨i1, i2⟩ := IH ts names q hw.tail hq
          obtain ⟨n, _, _, hn, _⟩ := pterm_behind f ts names q hq
          refine ih q.2.1 q.2.2 (acc ++ [q.1]) r (by rw [hn]; exact hw.tail.drop n) ?_ ?_ h
          · intro l hl
            simp at hl
            rcases hl with hl | rfl
            · exact ha l hl
            · exact i1
          · simp only [List.flatten_append, List.flatten_cons, List.flatten_nil, List.append_nil]
            rw [scan_append, hs]
            exact i2

theorem term_good : ∀ (f : Nat) (ts : List Tok) (names : Names) r, Worded ts → pterm f ts names = some r → IsT f r.1 ∧ scan r.1 names.length = some r.2.2.length := by
  intro f
  induction f with
  | zero => intro ts names r _ h; simp [pterm] at h
  | succ f ih =>
    intro ts names r hw h
    cases ts with
    | nil => simp [pterm] at h
    | cons t ts =>
      rw [pterm] at h
      split at h
      · simp at h; subst h
        exact ⟨Or.inl ⟨_, rfl⟩, by rw [number_scan]; rfl⟩
      · cases ts with
        | nil => simp [pname] at h
        | cons u us =>
          have ht : t.text ≠ [] := hw 0 t rfl (by simp)
          rw [pname] at h
          split at h
          · simp at h; subst h
            exact ⟨Or.inr ⟨t.text, [], ht, rfl, by simp⟩, by simp [scan, ht]⟩
          · rw [Option.map_eq_some_iff] at h
            obtain ⟨q, hq, rfl⟩ := h
            obtain ⟨g1, g2⟩ := args_good f ih names.length _ _ _ _ _ hw.tail (by simp) rfl hq
            exact ⟨Or.inr ⟨t.text, q.1, ht, rfl, g1⟩, by simpa [scan, ht] using g2⟩

theorem terms_good (f : Nat) (k0 : Nat) : ∀ (g : Nat) (ts : List Tok) (names : Names) (acc : List (List Sym)) q, Worded ts → (∀ l ∈ acc, IsT f l) → scan acc.flatten k0 = some names.length → pterms f g ts names acc = some q →
    (∀ l ∈ q.1, IsT f l) ∧ scan q.1.flatten k0 = some q.2.2.length ∧ Worded q.2.1 := by
  intro g
  induction g with
  | zero => intro ts names acc q _ _ _ h; simp [pterms] at h
  | succ g ih =>
    intro ts names acc q hw ha hs h
    rw [pterms] at h
    cases hq : pterm f ts names with
    | none => rw [hq] at h; simp at h
    | some r =>
      rw [hq] at h
      simp only at h
      obtain ⟨i1, i2⟩ := term_good f ts names r hw hq
      obtain ⟨n, _, _, hn, _⟩ := pterm_behind f ts names r hq
      have hw1 : Worded r.2.1 := by rw [hn]; exact hw.drop n
      have ha1 : ∀ l ∈ acc ++ [r.1], IsT f l := by
        intro l hl
        simp at hl
        rcases hl with hl | rfl
        · exact ha l hl
        · exact i1
      have hs1 : scan (acc ++ [r.1]).flatten k0 = some r.2.2.length := by
        simp only [List.flatten_append, List.flatten_cons, List.flatten_nil, List.append_nil]
        rw [scan_append, hs]
        exact i2
      cases hr : r.2.1 with
      | nil => rw [hr] at h; simp at h
      | cons x rest =>
        rw [hr] at h hw1
        simp only at h
        split at h
        · simp at h; subst h
          exact ⟨ha1, hs1, hw1.tail⟩
        · exact ih rest r.2.2 (acc ++ [r.1]) q hw1.tail ha1 hs1 h

/-- A clause that is written alike. -/
def Good (c : Cls) : Prop := IsT 1000 c.head ∧ (∀ l ∈ c.body, IsT 1000 l) ∧ ∃ k1 k2, scan c.head 0 = some k1 ∧ scan c.body.flatten k1 = some k2

theorem clause_good (ts : List Tok) (c : Cls × List Tok) (hw : Worded ts) (h : pclause ts = some c) : Good c.1 ∧ Worded c.2 := by
  rw [pclause] at h
  cases hp : pterm 1000 ts [] with
  | none => rw [hp] at h; simp at h
  | some r =>
    rw [hp] at h
    simp only at h
    obtain ⟨i1, i2⟩ := term_good 1000 ts [] r hw hp
    obtain ⟨n, _, _, hn, _⟩ := pterm_behind 1000 ts [] r hp
    have hw1 : Worded r.2.1 := by rw [hn]; exact hw.drop n
    cases hr : r.2.1 with
    | nil => rw [hr] at h; simp at h
    | cons y ys =>
      rw [hr] at h hw1
      simp only at h
      split at h
      · rw [Option.map_eq_some_iff] at h
        obtain ⟨q, hq, rfl⟩ := h
        obtain ⟨g1, g2, g3⟩ := terms_good 1000 r.2.2.length 1000 ys r.2.2 [] q hw1.tail (by simp) rfl hq
        exact ⟨⟨i1, g1, _, _, i2, g2⟩, g3⟩
      · simp at h
        subst h
        exact ⟨⟨i1, by simp, _, _, i2, rfl⟩, hw1.tail⟩

theorem prog_good : ∀ (g : Nat) (ts : List Tok) (acc cs : List Cls), Worded ts → (∀ c ∈ acc, Good c) → pprog g ts acc = some cs → ∀ c ∈ cs, Good c := by
  intro g
  induction g with
  | zero => intro ts acc cs _ _ h; simp [pprog] at h
  | succ g ih =>
    intro ts acc cs hw ha h
    cases ts with
    | nil => simp [pprog] at h
    | cons t ts =>
      rw [pprog] at h
      split at h
      · simp at h; subst h; exact ha
      · cases hc : pclause (t :: ts) with
        | none => rw [hc] at h; simp at h
        | some c =>
          rw [hc] at h
          simp only at h
          obtain ⟨g1, g2⟩ := clause_good _ c hw hc
          refine ih c.2 (acc ++ [c.1]) cs g2 ?_ h
          intro x hx
          simp at hx
          rcases hx with hx | rfl
          · exact ha x hx
          · exact g1

theorem rule_writes (c : Cls) (h : Good c) : ruleC ⟨c.head, c.body⟩ ++ [10] = wclause c := by
  obtain ⟨h1, h2, k1, k2, h3, h4⟩ := h
  obtain ⟨w1, w2⟩ := writes 1000 c.head h1 0 k1 h3
  have w3 := w2 [] []
  simp only [List.append_nil, closes, atomC, List.nil_append, List.range_zero] at w1 w3
  unfold ruleC wclause
  simp only
  split
  · rw [w3]; simp
  · rw [w3, w1, body_writes 1000 c.body h2 k1 k2 [] h4]; simp
theorem prog_writes (cs : List Cls) (h : ∀ c ∈ cs, Good c) : progC (cs.map (fun c => ⟨c.head, c.body⟩)) = cs.flatMap wclause := by
  induction cs with
  | nil => rfl
  | cons c cs ih =>
    rw [List.map_cons, progC, List.flatMap_cons, ← rule_writes c (h c (by simp)), ih (fun x hx => h x (by simp [hx]))]
    simp

theorem flat_mem_len (ls : List (List Sym)) (l : List Sym) (h : l ∈ ls) : l.length ≤ ls.flatten.length := by
  induction ls with
  | nil => simp at h
  | cons x ls ih =>
    simp only [List.mem_cons] at h
    rw [List.flatten_cons, List.length_append]
    rcases h with rfl | h
    · omega
    · have := ih h; omega

theorem isT_syms : ∀ (f : Nat) (l : List Sym), IsT f l → ∀ s ∈ l, s.args ≤ l.length ∧ (s.name = [] ∨ s.num = 0) := by
  intro f
  induction f with
  | zero => intro l h; exact h.elim
  | succ f ih =>
    intro l h s hs
    rcases h with ⟨n, rfl⟩ | ⟨nm, ls, h1, rfl, h2⟩
    · simp at hs; subst hs; simp
    · have hfl := flat_len f ls h2
      simp only [List.mem_cons] at hs
      rcases hs with rfl | hs
      · exact ⟨by simp only [List.length_cons]; omega, Or.inr rfl⟩
      · rw [List.mem_flatten] at hs
        obtain ⟨l', hl', hs⟩ := hs
        obtain ⟨a1, a2⟩ := ih l' (h2 l' hl') s hs
        have := flat_mem_len ls l' hl'
        exact ⟨by simp only [List.length_cons]; omega, a2⟩

theorem sym_ok (f : Nat) (l : List Sym) (k k' : Nat) (h : IsT f l) (hs : scan l k = some k') (hl : l.length ≤ 1000) (hk : k' ≤ 2600) : SymOk l := by
  refine ⟨by omega, fun s hm => ?_⟩
  obtain ⟨a1, a2⟩ := isT_syms f l h s hm
  obtain ⟨_, _, b3⟩ := scan_bound l k k' hs
  refine ⟨?_, by omega⟩
  rcases a2 with a2 | a2
  · have := b3 s hm a2; omega
  · omega

theorem body_ok (f : Nat) : ∀ (ls : List (List Sym)) (k k' : Nat), (∀ l ∈ ls, IsT f l) → scan ls.flatten k = some k' → ls.flatten.length ≤ 1000 → k' ≤ 2600 → ∀ l ∈ ls, SymOk l := by
  intro ls
  induction ls with
  | nil => intro k k' _ _ _ _ l hl; simp at hl
  | cons l ls ih =>
    intro k k' hT hs hl hk x hx
    rw [List.flatten_cons] at hs hl
    rw [List.length_append] at hl
    obtain ⟨j, h1, h2⟩ := scan_cut hs
    obtain ⟨b1, _, _⟩ := scan_bound _ _ _ h2
    simp only [List.mem_cons] at hx
    rcases hx with rfl | hx
    · exact sym_ok f x k j (hT x (by simp)) h1 (by omega) (by omega)
    · exact ih j k' (fun y hy => hT y (by simp [hy])) h2 (by omega) hk x hx

end Go.Proofs.YtcbckkenifmchaaGreatDoor
