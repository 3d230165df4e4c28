/-
  PROVED HERE: what the reference's 'decimal' and 'called' answer, at every number that is not negative (and below a bound that no text reaches); the world stays as it was. plain facts on writing a term, as the reference does it (no memory, no program; the conditions stand in each statement). what the reference method follows does to a Look in memory at an opening bracket behind a name (the conditions stand in the statement). what the reference's 'over' answers of a row of tokens (its conditions stand in the statement); nothing that was there turns. what the reference's 'over' answers of a row of tokens (its conditions stand in the statement); nothing that was there turns. what the reference's 'term' reads out of a row of tokens (the conditions stand in the statement). what the reference's 'term' reads out of a row of tokens where brackets follow the name (the conditions stand in the statement). what the reference's 'Written' writes of a term that lies in memory (the conditions stand in the statement).
-/
import Derived.Test.YtlmjilpjmgjjcaaGreatDoorT2
import Derived.Lib.Strings
import Derived.Lib.ItoaNum
import Derived.BigQuiet
import Derived.Deep.QuietTactic
import Derived.Deep.LoopGhost
namespace Go.Proofs.YtlmjilpjmgjjcaaGreatDoor
open Go.RowKit
set_option linter.unusedSimpArgs false
set_option linter.unusedVariables false

theorem str_cat (a b : List UInt8) : (⟨a.toArray⟩ : ByteArray) ++ ⟨b.toArray⟩ = ⟨(a ++ b).toArray⟩ := by
  apply ByteArray.ext
  simp [ByteArray.data_append]
theorem ret_str {a b : ByteArray} (h : a = b) : Ending.returned (.string a) = .returned (.string b) := by rw [h]
theorem digit_cut (m : Nat) (h : m < 10) : (⟨#[48, 49, 50, 51, 52, 53, 54, 55, 56, 57]⟩ : ByteArray).extract m (m + 1) = ⟨[UInt8.ofNat (48 + m)].toArray⟩ := by
  have : ∀ m, m < 10 → ((⟨#[48, 49, 50, 51, 52, 53, 54, 55, 56, 57]⟩ : ByteArray).extract m (m + 1)).data.toList = [UInt8.ofNat (48 + m)] := by decide
  apply ByteArray.ext
  apply Array.ext'
  rw [this m h]
theorem letter_cut (m : Nat) (h : m < 26) : great.extract m (m + 1) = ⟨[UInt8.ofNat (65 + m)].toArray⟩ := by
  have : ∀ m, m < 26 → (great.extract m (m + 1)).data.toList = [UInt8.ofNat (65 + m)] := by decide +kernel
  apply ByteArray.ext
  apply Array.ext'
  rw [this m h]

theorem dec_len (n : Nat) : (Lib.decDigits n).length ≤ n + 1 := by
  induction n using Nat.strongRecOn with
  | ind n ih =>
    rw [Lib.decDigits]
    split
    · simp
    · have := ih (n / 10) (by omega)
      simp only [List.length_append, List.length_cons, List.length_nil]
      omega

def DecSaid (n : Nat) : Prop := ∀ w : World, Calls Tryz.prog 117 #[.int .i64 n] w fun e w' => e = .returned (.string ⟨(Lib.decDigits n).toArray⟩) ∧ w' = w

set_option maxHeartbeats 400000 in
theorem decimal_lo (n : Nat) (hn : n < 10) : DecSaid n := by
  intro w
  have Hd := (show Hid _ from digit_cut (n % 10) (by omega))
  go_enter Tryz.func117, Tryz.ntmps117
  go_wp2
  go_ret
  refine ⟨ret_str (Hd.out.trans ?_), rfl⟩
  rw [Lib.decDigits, dif_pos hn, Nat.mod_eq_of_lt hn]

set_option maxHeartbeats 400000 in
theorem decimal_hi (n : Nat) (hn : ¬ n < 10) (hb : n < 1000000000) (ih : DecSaid (n / 10)) : DecSaid n := by
  intro w
  have Hd := (show Hid _ from digit_cut (n % 10) (by omega))
  have Hih := (show Hid _ from ih)
  clear ih
  have hlen := dec_len (n / 10)
  go_enter Tryz.func117, Tryz.ntmps117
  go_wp2_with fail
  refine (Hih.out _).mono ?_
  rintro e w' ⟨rfl, rfl⟩
  go_wp2
  go_ret
  refine ⟨ret_str ?_, rfl⟩
  rw [Hd.out, str_cat]
  congr 2
  conv => rhs; rw [Lib.decDigits, dif_neg hn]

theorem decimal_any (n : Nat) (hb : n < 1000000000) : DecSaid n := by
  induction n using Nat.strongRecOn with
  | ind n ih =>
    by_cases hn : n < 10
    · exact decimal_lo n hn
    · exact decimal_hi n hn hb (ih (n / 10) (by omega) (by omega))

/-- The n-th name for a variable. -/
def calledL (n : Nat) : List UInt8 := if n < 26 then [UInt8.ofNat (65 + n)] else UInt8.ofNat (65 + n % 26) :: Lib.decDigits (n / 26)

set_option maxHeartbeats 400000 in
theorem called_any (n : Nat) (w : World) (hb : n < 1000000000) :
    Calls Tryz.prog 145 #[.int .i64 n] w fun e w' => e = .returned (.string ⟨(calledL n).toArray⟩) ∧ w' = w := by
  have Hd := (show Hid _ from letter_cut (n % 26) (by omega))
  by_cases h : n < 26
  · go_enter Tryz.func145, Tryz.ntmps145
    go_wp2
    go_ret
    refine ⟨ret_str (Hd.out.trans ?_), rfl⟩
    rw [calledL, if_pos h, Nat.mod_eq_of_lt h]
  · go_enter Tryz.func145, Tryz.ntmps145
    go_wp2_with fail
    refine (decimal_any (n / 26) (by omega) _).mono ?_
    rintro e w' ⟨rfl, rfl⟩
    have hlen := dec_len (n / 26)
    go_wp2
    go_ret
    refine ⟨ret_str ?_, rfl⟩
    show great.extract (n % 26) (n % 26 + 1) ++ _ = _
    rw [Hd.out, str_cat, calledL, if_neg h]
    rfl

end Go.Proofs.YtlmjilpjmgjjcaaGreatDoor

namespace Go.Proofs.YtlmjilpjmgjjcaaGreatDoor
open Go.RowKit
set_option linter.unusedSimpArgs false
set_option linter.unusedVariables false

/-- The form of a term, written from left to right. -/
def IsT : Nat → List Sym → Prop
  | 0, _ => False
  | f + 1, l => (∃ n : Nat, l = [⟨[], n, 0⟩]) ∨ ∃ (nm : List UInt8) (ls : List (List Sym)), nm ≠ [] ∧ l = ⟨nm, 0, ls.length⟩ :: ls.flatten ∧ ∀ l' ∈ ls, IsT f l'

theorem RepT.isT : ∀ (f : Nat) {w : World} {lo hi : Nat} {a b c : Value} {l : List Sym}, RepT f w lo hi a b c l → IsT f l := by
  intro f
  induction f with
  | zero => intro w lo hi a b c l h; exact h.elim
  | succ f ih =>
    intro w lo hi a b c l h
    rcases h with ⟨n, _, _, _, h⟩ | ⟨nm, ls, xs, h1, _, _, h4, _, _, h7⟩
    · exact Or.inl ⟨n, h⟩
    · refine Or.inr ⟨nm, ls, h1, h4, fun l' hl => ?_⟩
      obtain ⟨i, hi, rfl⟩ := List.getElem_of_mem hl
      obtain ⟨a', b', c', _, _, _, g⟩ := h7 i _ (List.getElem?_eq_getElem hi)
      exact ih g

/-- A variable's name, and the variables seen. -/
def wvar (n : Nat) (seen : List Nat) : List UInt8 × List Nat := if n ∈ seen then (calledL (seen.idxOf n), seen) else (calledL seen.length, seen ++ [n])

/-- So many terms, a sign ahead of each. -/
def wargs (p : List Sym → List Nat → List UInt8 × List Nat × List Sym) : Nat → UInt8 → List Sym → List Nat → List UInt8 × List Nat × List Sym
  | 0, _, r, seen => ([], seen, r)
  | n + 1, sep, r, seen => (sep :: ((p r seen).1 ++ (wargs p n 44 (p r seen).2.2 (p r seen).2.1).1), (wargs p n 44 (p r seen).2.2 (p r seen).2.1).2)

/-- The first term of some symbols, written; the variables seen; what is left. -/
def wterm : Nat → List Sym → List Nat → List UInt8 × List Nat × List Sym
  | 0, r, seen => ([], seen, r)
  | _ + 1, [], seen => ([], seen, [])
  | f + 1, s :: r, seen =>
    if s.name = [] then ((wvar s.num seen).1, (wvar s.num seen).2, r)
    else if s.args = 0 then (s.name, seen, r)
    else (s.name ++ (wargs (wterm f) s.args 40 r seen).1 ++ [41], (wargs (wterm f) s.args 40 r seen).2)

/-- The terms of a list, a sign ahead of each. -/
def wkids (f : Nat) : UInt8 → List (List Sym) → List Nat → List UInt8 × List Nat
  | _, [], seen => ([], seen)
  | sep, l :: ls, seen => (sep :: ((wterm f l seen).1 ++ (wkids f 44 ls (wterm f l seen).2.1).1), (wkids f 44 ls (wterm f l seen).2.1).2)

theorem wargs_kids (f : Nat) (hp : ∀ l, IsT f l → ∀ rest seen, wterm f (l ++ rest) seen = ((wterm f l seen).1, (wterm f l seen).2.1, rest)) :
    ∀ (ls : List (List Sym)), (∀ l' ∈ ls, IsT f l') → ∀ sep rest seen, wargs (wterm f) ls.length sep (ls.flatten ++ rest) seen = ((wkids f sep ls seen).1, (wkids f sep ls seen).2, rest) := by
  intro ls
  induction ls with
  | nil => intro _ sep rest seen; rfl
  | cons l ls ih =>
    intro h sep rest seen
    have h1 := hp l (h l (by simp)) (ls.flatten ++ rest) seen
    have h2 := ih (fun l' hl => h l' (by simp [hl])) 44 rest (wterm f l seen).2.1
    simp only [List.length_cons, List.flatten_cons, List.append_assoc, wargs, wkids]
    rw [h1]
    simp only
    rw [h2]

theorem wterm_app : ∀ (f : Nat) (l : List Sym), IsT f l → ∀ rest seen, wterm f (l ++ rest) seen = ((wterm f l seen).1, (wterm f l seen).2.1, rest) := by
  intro f
  induction f with
  | zero => intro l h; exact h.elim
  | succ f ih =>
    intro l h rest seen
    rcases h with ⟨n, rfl⟩ | ⟨nm, ls, h1, rfl, h2⟩
    · simp [wterm]
    · have hw := wargs_kids f ih ls h2 40
      have hw1 := hw rest seen
      have hw2 := hw [] seen
      simp only [List.append_nil] at hw2
      simp only [List.cons_append, wterm, h1, if_false]
      cases ls with
      | nil => simp
      | cons l ls =>
        rw [if_neg (by simp), if_neg (by simp)]
        rw [hw1, hw2]

theorem wterm_name (f : Nat) (nm : List UInt8) (ls : List (List Sym)) (hn : nm ≠ []) (h : ∀ l' ∈ ls, IsT f l') (hl : ls ≠ []) (seen : List Nat) :
    wterm (f + 1) (⟨nm, 0, ls.length⟩ :: ls.flatten) seen = (nm ++ (wkids f 40 ls seen).1 ++ [41], (wkids f 40 ls seen).2, []) := by
  have hw2 := wargs_kids f (wterm_app f) ls h 40 [] seen
  simp only [List.append_nil] at hw2
  simp only [wterm, hn, if_false]
  rw [if_neg (by simp [hl]), hw2]

theorem called_len (n : Nat) (h : n ≤ 4000) : (calledL n).length ≤ 200 := by
  unfold calledL
  split
  · simp
  · have := dec_len (n / 26)
    simp only [List.length_cons]
    omega
theorem wvar_len (n : Nat) (seen : List Nat) (h : seen.length ≤ 3999) : (wvar n seen).1.length ≤ 200 ∧ (wvar n seen).2.length ≤ seen.length + 1 := by
  unfold wvar
  split
  · rename_i hm
    have := List.idxOf_lt_length_of_mem hm
    exact ⟨called_len _ (by omega), by simp⟩
  · exact ⟨called_len _ (by omega), by simp⟩

theorem wkids_len (f : Nat) (hp : ∀ l, IsT f l → (∀ s ∈ l, s.name.length ≤ 4096) → ∀ seen, seen.length + l.length ≤ 4000 → (wterm f l seen).1.length + 1 ≤ 4100 * l.length ∧ (wterm f l seen).2.1.length ≤ seen.length + l.length) :
    ∀ (ls : List (List Sym)), (∀ l' ∈ ls, IsT f l') → (∀ s ∈ ls.flatten, s.name.length ≤ 4096) → ∀ sep seen, seen.length + ls.flatten.length ≤ 4000 → (wkids f sep ls seen).1.length ≤ 4100 * ls.flatten.length ∧ (wkids f sep ls seen).2.length ≤ seen.length + ls.flatten.length := by
  intro ls
  induction ls with
  | nil => intro _ _ sep seen _; simp [wkids]
  | cons l ls ih =>
    intro h hn sep seen hs
    simp only [List.flatten_cons, List.length_append] at hs
    have h1 := hp l (h l (by simp)) (fun s hs => hn s (by simp [hs])) seen (by omega)
    have h2 := ih (fun l' hl => h l' (by simp [hl])) (fun s hs => hn s (by simp only [List.flatten_cons, List.mem_append]; exact Or.inr hs)) 44 (wterm f l seen).2.1 (by omega)
    simp only [wkids, List.length_cons, List.length_append, List.flatten_cons]
    omega

theorem isT_pos : ∀ (f : Nat) (l : List Sym), IsT f l → 0 < l.length := by
  intro f l h
  cases f with
  | zero => exact h.elim
  | succ f => rcases h with ⟨n, rfl⟩ | ⟨nm, ls, h1, rfl, h2⟩ <;> simp
theorem flat_len (f : Nat) (ls : List (List Sym)) (h : ∀ l' ∈ ls, IsT f l') : ls.length ≤ ls.flatten.length := by
  induction ls with
  | nil => simp
  | cons l ls ih =>
    have h1 := isT_pos f l (h l (by simp))
    have h2 := ih (fun l' hl => h l' (by simp [hl]))
    simp only [List.flatten_cons, List.length_append, List.length_cons]
    omega

theorem wterm_len : ∀ (f : Nat) (l : List Sym), IsT f l → (∀ s ∈ l, s.name.length ≤ 4096) → ∀ seen, seen.length + l.length ≤ 4000 → (wterm f l seen).1.length + 1 ≤ 4100 * l.length ∧ (wterm f l seen).2.1.length ≤ seen.length + l.length := by
  intro f
  induction f with
  | zero => intro l h; exact h.elim
  | succ f ih =>
    intro l h hn seen hs
    rcases h with ⟨n, rfl⟩ | ⟨nm, ls, h1, rfl, h2⟩
    · have := wvar_len n seen (by simp at hs; omega)
      simp [wterm]
      omega
    · have hnm : nm.length ≤ 4096 := hn _ (List.mem_cons_self ..)
      by_cases hl : ls = []
      · subst hl
        simp [wterm, h1]
        omega
      · rw [wterm_name f nm ls h1 h2 hl]
        simp only [List.length_cons] at hs
        have h3 := wkids_len f ih ls h2 (fun s hs => hn s (List.mem_cons_of_mem _ hs)) 40 seen (by omega)
        have h4 := flat_len f ls h2
        simp only [List.length_append, List.length_cons, List.length_nil]
        omega

end Go.Proofs.YtlmjilpjmgjjcaaGreatDoor

namespace Go.Proofs.YtlmjilpjmgjjcaaGreatDoor
open Go.RowKit
set_option linter.unusedSimpArgs false
set_option linter.unusedVariables false

set_option maxRecDepth 10000 in
set_option maxHeartbeats 400000 in
theorem follows_open (w : World) (B b : Nat) (L : LookS) (ov : Value) (ps : Int) (tx : ByteArray) (h : IsLook w B b L ov) (hBb : B ≤ b) (hL : L.stk.length ≤ 4096) (hw : L.want = 3) :
    Calls Tryz.prog 178 #[.pointer (some ⟨b, 0, none⟩), .agg #[.int .i64 40, .string tx, .int .i64 ps]] w fun e w' =>
      e = .returned (.tuple #[]) ∧ ∃ ov', Kept (lookSet b ov) w w' ∧ IsLook w' B b (lfollows L 40) ov' := by
  obtain ⟨hb, ⟨c0, c1, c2, c3, c4, c5, c6, c7⟩, hf⟩ := h.facts
  have Hlook := hide' h
  obtain ⟨sa, scap, rfl⟩ := owns_slice h.opn
  clear h
  rw [hw] at c0
  have Hw := hide' hw
  have hbase : B ≤ w.heap.size := Nat.le_of_lt (Nat.lt_of_le_of_lt hBb hb)
  have hopn := hide' Hlook.out.opn
  clear hw
  go_enter Tryz.func178, Tryz.ntmps178
  go_wp2_with (at_builtin; refine wpList_append1 _ rfl (.tmp 28) (.tmp 29) 25 rfl B 3 Tryz.infoInt Tryz.underlying25 rfl (by decide) _ L.stk.length (ints L.stk.reverse) rfl (hopn.out.alloc _) _ rfl (by simp) rfl (int_one _) ?_ ?_ ?_)
  · omega
  · simp; omega
  intro v' w1 hap
  obtain ⟨va, vcap, rfl⟩ := owns_slice hap.owns
  have hk1 : Kept (ownOf (.slice sa L.stk.length scap)) w w1 := ((Kept.refl _ w).alloc _).trans hap.kept
  have hne : ¬ ownOf (.slice sa L.stk.length scap) b := fun e => Hlook.out.apart b e rfl
  have hblk1 : w1.heap[b]? = some (.cells (lookCells L (.slice sa L.stk.length scap)) 278 (0, 0)) := (hk1.block b hb hne).trans Hlook.out.blk
  have d0 : w1.cell? ⟨b, 0, none⟩ = some (.int .i64 L.want) := cell_of_block hblk1 0 _ rfl
  have d3 : w1.cell? ⟨b, 3, none⟩ = some (.slice sa L.stk.length scap) := cell_of_block hblk1 3 _ rfl
  have df : ∀ i, w1.frozen? ⟨b, i, none⟩ = false := fun i => thawed_of_block hblk1 i
  have Hap := hide' hap
  have Hblk1 := hide' hblk1
  have Hk1 := hide' hk1
  clear hap hblk1 hk1 hne c0 c1 c2 c3 c4 c5 c6 c7 hf
  go_wp2
  go_end0
  have hv : ∀ k, (Value.slice va (L.stk.length + 1) vcap).ownBlock = some k → ¬ only b k := by
    rintro k hk (rfl : k = b)
    rcases Hap.out.where_ with h | ⟨g, h, hg⟩
    · exact Hlook.out.apart k (by rw [← h]; exact hk) rfl
    · rw [hk] at h
      simp at h
      subst h
      simp at hg
      omega
  refine ⟨rfl, .slice va (L.stk.length + 1) vcap, ?_, ?_, ?_⟩
  · exact (Hk1.out.mono (fun _ _ e => Or.inr e)).then (((Kept.refl (only b) w1).put 3 _).put 0 _) (fun _ _ e => Or.inl e)
  · rw [block_set (block_set Hblk1.out 3 _) 0 _]
    simp [lookCells, lfollows, Hw.out]
  · have h4 : (lfollows L 40).stk = 0 :: L.stk := by simp [lfollows, Hw.out]
    rw [h4]
    have h5 := (((Kept.refl (only b) w1).put 3 (.slice va (L.stk.length + 1) vcap)).put 0 (.int .i64 2)).owns Hap.out.owns hv
    simpa [ints] using h5

end Go.Proofs.YtlmjilpjmgjjcaaGreatDoor

namespace Go.Proofs.YtlmjilpjmgjjcaaGreatDoor
open Go.RowKit
set_option linter.unusedSimpArgs false
set_option linter.unusedVariables false

/-- What holds of a Look behind i tokens. -/
structure LInv (L : LookS) (i : Nat) : Prop where
  want : L.want ≤ 5
  term : L.want = 2 → L.stk ≠ []
  size : L.size ≤ i
  heads : L.heads ≤ i
  goals : L.goals ≤ i
  len : L.stk.length ≤ i
  all : ∀ n ∈ L.stk, n ≤ i

/-- A token more. -/
def lstep (L : LookS) (kd tn : Nat) : LookS :=
  if L.want ≤ 2 then lbegins L kd tn else if L.want = 5 then { L with err := 2 } else lfollows L kd

theorem LInv.mono {L : LookS} {i j : Nat} (h : LInv L i) (hij : i ≤ j) : LInv L j :=
  ⟨h.want, h.term, Nat.le_trans h.size hij, Nat.le_trans h.heads hij, Nat.le_trans h.goals hij, Nat.le_trans h.len hij, fun n hn => Nat.le_trans (h.all n hn) hij⟩

theorem lbegins_inv {L : LookS} {i : Nat} (h : LInv L i) (kd tn : Nat) : LInv (lbegins L kd tn) (i + 1) := by
  unfold lbegins
  have h1 := h.size
  have h2 := h.heads
  have h3 := h.goals
  have h4 := h.len
  split
  · exact ⟨h.want, h.term, by simp; omega, by simp; omega, by simp; omega, by simp; omega, fun n hn => Nat.le_trans (h.all n hn) (Nat.le_succ i)⟩
  · have hw : (if kd = 1 then 3 else 4) ≤ 5 ∧ ((if kd = 1 then 3 else 4) ≠ 2) := by split <;> simp
    have hall : ∀ n ∈ L.stk, n ≤ i + 1 := fun n hn => Nat.le_trans (h.all n hn) (Nat.le_succ i)
    refine ⟨hw.1, fun e => absurd e hw.2, ?_, ?_, ?_, ?_, ?_⟩
    all_goals
      unfold lsized lstart
      dsimp only
      split
      · first | (simp; done) | (simp; omega) | exact hall
      · split
        · first | (simp; done) | (simp; omega) | exact hall
        · cases hs : L.stk with
          | nil => first | (simp; done) | (simp; omega) | (simp [hs]; done)
          | cons n r =>
            have hn : n ≤ i := h.all n (by rw [hs]; simp)
            have hr : ∀ x ∈ r, x ≤ i := fun x hx => h.all x (by rw [hs]; simp [hx])
            rw [hs] at h4
            simp only [List.length_cons] at h4
            first
              | (simp; done)
              | (simp; omega)
              | (intro x hx; simp at hx; rcases hx with rfl | hx; · omega
                 have := hr x hx; omega)

theorem lfollows_inv {L : LookS} {i : Nat} (h : LInv L i) (kd : Nat) : LInv (lfollows L kd) (i + 1) := by
  have h1 := h.size
  have h2 := h.heads
  have h3 := h.goals
  have h4 := h.len
  have h5 := h.want
  have hall : ∀ n ∈ L.stk, n ≤ i + 1 := fun n hn => Nat.le_trans (h.all n hn) (Nat.le_succ i)
  unfold lfollows
  split
  · exact ⟨by simp, fun _ => by simp, by simp; omega, by simp; omega, by simp; omega, by simp; omega, by intro n hn; simp at hn; rcases hn with rfl | hn; · omega
                                                                                                         exact hall n hn⟩
  · split
    · rename_i _ hc
      exact ⟨by simp, fun _ => hc.2, by simp; omega, by simp; omega, by simp; omega, by simp; omega, hall⟩
    · split
      · exact ⟨by simp, fun e => by simp at e, by simp; omega, by simp; omega, by simp; omega, by simp; omega, fun n hn => hall n (List.mem_of_mem_tail hn)⟩
      · split
        · exact ⟨h5, h.term, by simp; omega, by simp; omega, by simp; omega, by simp; omega, hall⟩
        · split
          · exact ⟨by simp, fun e => by simp at e, by simp; omega, by simp; omega, by simp; omega, by simp; omega, hall⟩
          · split
            · exact ⟨by simp, fun e => by simp at e, by simp; omega, by simp; omega, by simp, by simp; omega, hall⟩
            · split
              · exact ⟨by simp, fun e => by simp at e, by simp; omega, by simp; omega, by simp; omega, by simp; omega, hall⟩
              · split
                · exact ⟨by simp, fun e => by simp at e, by simp; omega, by simp; omega, by simp; omega, by simp; omega, hall⟩
                · exact ⟨h5, h.term, by simp; omega, by simp; omega, by simp; omega, by simp; omega, hall⟩

theorem lstep_inv {L : LookS} {i : Nat} (h : LInv L i) (kd tn : Nat) : LInv (lstep L kd tn) (i + 1) := by
  unfold lstep
  split
  · exact lbegins_inv h kd tn
  · split
    · have h := h.mono (Nat.le_succ i)
      exact ⟨h.want, h.term, h.size, h.heads, h.goals, h.len, h.all⟩
    · exact lfollows_inv h kd

/-- What 'over' answers: the error, the place. -/
def lover : List Tok → LookS → Nat × Nat
  | [], _ => (0, 0)
  | t :: ts, L =>
    if t.kind = 4 ∧ (L.want = 5 ∨ L.want = 0) then (0, 0)
    else if (lstep L t.kind t.text.length).err ≠ 0 then ((lstep L t.kind t.text.length).err, t.pos)
    else lover ts (lstep L t.kind t.text.length)

theorem begins_all (w : World) (B b : Nat) (L : LookS) (ov : Value) (kd : Nat) (ps : Int) (tx : ByteArray) (h : IsLook w B b L ov) (hBb : B ≤ b) (hi : LInv L 4000) (hw : L.want ≤ 2) (ht : tx.size ≤ 4096) :
    Calls Tryz.prog 177 #[.pointer (some ⟨b, 0, none⟩), .agg #[.int .i64 kd, .string tx, .int .i64 ps]] w fun e w' =>
      e = .returned (.tuple #[]) ∧ ∃ ov', Kept (lookSet b ov) w w' ∧ IsLook w' B b (lbegins L kd tx.size) ov' := by
  have hb := lt_of_block h.blk
  have own : ∀ k, ov.ownBlock = some k → B ≤ k := fun k hk => (h.opn.lt k hk).1
  have hs := hi.size
  have hh := hi.heads
  have hg := hi.goals
  have hl := hi.len
  by_cases hk : kd ≠ 1 ∧ (kd ≠ 2 ∨ L.want ≠ 2)
  · refine (begins_err w B b L ov kd ps tx h hk).mono ?_
    rintro e w' ⟨rfl, h1, h2⟩
    exact ⟨rfl, ov, h1.mono (fun _ _ e => Or.inl e), h2⟩
  · by_cases h2 : L.want = 2
    · obtain ⟨n, r, hst⟩ : ∃ n r, L.stk = n :: r := by
        cases hc : L.stk with
        | nil => exact absurd hc (hi.term h2)
        | cons n r => exact ⟨n, r, rfl⟩
      have hn := hi.all n (by rw [hst]; simp)
      rw [hst] at hl
      simp only [List.length_cons] at hl
      by_cases h1 : kd = 1
      · subst h1
        refine (begins_term1 w B b L n r ov ps tx h hst (by omega) (by omega) (by omega) ht h2).mono ?_
        rintro e w' ⟨rfl, h1, h2⟩
        exact ⟨rfl, ov, h1, h2⟩
      · obtain rfl : kd = 2 := by omega
        refine (begins_term2 w B b L n r ov ps tx h hst (by omega) (by omega) (by omega) ht h2).mono ?_
        rintro e w' ⟨rfl, h1, h2⟩
        exact ⟨rfl, ov, h1, h2⟩
    · obtain rfl : kd = 1 := by omega
      by_cases h0 : L.want = 0
      · refine (begins_head w B b L ov ps tx h (by omega) ht h0).mono ?_
        rintro e w' ⟨rfl, h1, h2⟩
        exact ⟨rfl, ov, h1.mono (fun _ _ e => Or.inl e), h2⟩
      · refine (begins_goal w B b L ov ps tx h (by omega) ht (by omega)).mono ?_
        rintro e w' ⟨rfl, h1, h2⟩
        exact ⟨rfl, ov, h1.mono (fun _ _ e => Or.inl e), h2⟩

theorem follows_all (w : World) (B b : Nat) (L : LookS) (ov : Value) (kd : Nat) (ps : Int) (tx : ByteArray) (h : IsLook w B b L ov) (hBb : B ≤ b) (hi : LInv L 4000) :
    Calls Tryz.prog 178 #[.pointer (some ⟨b, 0, none⟩), .agg #[.int .i64 kd, .string tx, .int .i64 ps]] w fun e w' =>
      e = .returned (.tuple #[]) ∧ ∃ ov', Kept (lookSet b ov) w w' ∧ IsLook w' B b (lfollows L kd) ov' := by
  have hl : L.stk.length ≤ 4096 := by have := hi.len; omega
  by_cases h1 : kd = 40
  · subst h1
    by_cases h2 : L.want = 3
    · exact follows_open w B b L ov ps tx h hBb hl h2
    · exact follows_opennot w B b L ov ps tx h hBb hl h2
  · by_cases h2 : kd = 41
    · subst h2; exact follows_close w B b L ov ps tx h hBb hl
    · by_cases h3 : kd = 44
      · subst h3; exact follows_comma w B b L ov ps tx h hBb hl
      · by_cases h4 : kd = 46
        · subst h4; exact follows_dot w B b L ov ps tx h hBb hl
        · by_cases h5 : kd = 3
          · subst h5; exact follows_arrow w B b L ov ps tx h hBb hl
          · exact follows_other w B b L ov kd ps tx h hBb hl ⟨h1, h2, h3, h4, h5⟩

end Go.Proofs.YtlmjilpjmgjjcaaGreatDoor

namespace Go.Proofs.YtlmjilpjmgjjcaaGreatDoor
open Go.RowKit
set_option linter.unusedSimpArgs false
set_option linter.unusedVariables false

def lstart0 (query : Bool) : LookS := ⟨if query then 1 else 0, query, query, [], 0, 0, 0, 0⟩

theorem toksCells_at (l : List Tok) (k : Nat) (t : Tok) (h : l[k]? = some t) (j : Nat) (hj : j < 3) : (toksCells l)[k * 3 + j]? = (tokCells t)[j]? := by
  induction l generalizing k with
  | nil => simp at h
  | cons a l ih =>
    cases k with
    | zero =>
      simp at h; subst h
      show (tokCells a ++ toksCells l)[_]? = _
      rw [List.getElem?_append_left (by simp [tokCells]; omega)]
      simp
    | succ k =>
      show (tokCells a ++ toksCells l)[_]? = _
      rw [List.getElem?_append_right (by simp [tokCells]; omega)]
      rw [← ih k (by simpa using h)]
      congr 1
      simp [tokCells]
      omega

theorem lover_here (ts : List Tok) (k : Nat) (t : Tok) (L : LookS) (h : ts[k]? = some t) : lover (ts.drop k) L =
    if t.kind = 4 ∧ (L.want = 5 ∨ L.want = 0) then (0, 0)
    else if (lstep L t.kind t.text.length).err ≠ 0 then ((lstep L t.kind t.text.length).err, t.pos)
    else lover (ts.drop (k + 1)) (lstep L t.kind t.text.length) := by
  have hk : k < ts.length := (List.getElem?_eq_some_iff.1 h).1
  rw [List.drop_eq_getElem_cons hk]
  have : ts[k] = t := (List.getElem?_eq_some_iff.1 h).2
  rw [this]
  rfl
theorem ret_two {a b c d : Int} (h : a = c) (h' : b = d) : Ending.returned (.tuple #[.int .i64 a, .int .i64 b]) = .returned (.tuple #[.int .i64 c, .int .i64 d]) := by rw [h, h']
theorem over_kept {w wr w1 : World} {ov : Value} {L : LookS} (hbel : Below w.heap.size w wr) (hl : IsLook wr w.heap.size w.heap.size L ov) (o : Obj) (h : Kept (lookSet w.heap.size ov) (wr.alloc o) w1) : Below w.heap.size w w1 :=
  (hbel.alloc hbel.size o).trans (h.below (by have := hbel.size; simp; omega) (fun k hk => by
    rcases hk with rfl | hk
    · exact Nat.le_refl _
    · exact (hl.opn.lt k hk).1))
theorem over_box {wr w1 : World} {b : Nat} {ov : Value} {L : LookS} {B : Nat} (hl : IsLook wr B b L ov) (cs : Array Value) (T : TypeId) (h : Kept (lookSet b ov) (wr.alloc (.cells cs T)) w1) (i : Nat) (v : Value) (hv : cs[i]? = some v) :
    w1.cell? ⟨wr.heap.size, i, none⟩ = some v :=
  h.cell (cell_alloc_new wr cs T i v hv) (fun hk => by
    rcases hk with hk | hk
    · have := lt_of_block hl.blk
      have hk : wr.heap.size = b := hk
      omega
    · have := (hl.opn.lt _ hk).2
      simp at this)

set_option maxRecDepth 10000 in
set_option maxHeartbeats 2000000 in
theorem over_false (w : World) (Bt : Nat) (ts : List Tok) (v : Value) (hts : w.ownsRow Bt 243 3 v ts.length (toksCells ts)) (hn : ts.length ≤ 3900) (htx : ∀ t ∈ ts, t.text.length ≤ 4096) :
    Calls Tryz.prog 142 #[v, .bool false] w fun e w' =>
      e = .returned (.tuple #[.int .i64 (lover ts (lstart0 false)).1, .int .i64 (lover ts (lstart0 false)).2]) ∧ Below w.heap.size w w' := by
  obtain ⟨ta, tcap, rfl⟩ := owns_slice hts
  have Hts := hide' hts
  clear hts
  go_enter Tryz.func142, Tryz.ntmps142
  go_wp2
  go_loopw [7] (fun i wr => ∃ (k : Nat) (L : LookS) (ov : Value), k ≤ ts.length ∧ i = .int .i64 k ∧ Below w.heap.size w wr ∧ IsLook wr w.heap.size w.heap.size L ov ∧ LInv L k ∧ L.err = 0 ∧
      lover (ts.drop k) L = lover ts (lstart0 false)) (fun i _ => ts.length - (intOf i).toNat)
  case atStart => exact ⟨0, lstart0 false, .slice none 0 0, Nat.zero_le _, rfl, (Below.refl _ _).alloc (Nat.le_refl _) _, ⟨heap_alloc_new w _, World.ownsRow_nil _ _ _ _⟩, ⟨by simp [lstart0], fun e => by simp [lstart0] at e, by simp [lstart0], by simp [lstart0], by simp [lstart0], by simp [lstart0], by simp [lstart0]⟩, rfl, rfl⟩
  case round =>
    obtain ⟨k, L, ov, hk, rfl, hbel, hlook, hinv, herr, hlov⟩ := hrel
    have Hlook := hide' hlook
    have Hinv := hide' hinv
    have Herr := hide' herr
    have Hlov := hide' hlov
    obtain ⟨hb, ⟨c0, c1, c2, c3, c4, c5, c6, c7⟩, hf⟩ := hlook.facts
    rw [herr] at c7
    clear hlook hinv herr hlov
    by_cases hlt : k < ts.length
    · obtain ⟨t, ht⟩ : ∃ t, ts[k]? = some t := ⟨_, List.getElem?_eq_getElem hlt⟩
      have hmem : t ∈ ts := List.mem_of_getElem? ht
      have htt : ByteArray.size ⟨t.text.toArray⟩ ≤ 4096 := htx t hmem
      obtain ⟨g, tcap', tcur, he, hBg, hg, hcp⟩ := owns_some Hts.out (by omega)
      simp only [Value.slice.injEq] at he
      obtain ⟨rfl, _, rfl⟩ := he
      have hgl := lt_of_block hg
      have tcell : ∀ j v, j < 3 → (tokCells t)[j]? = some v → wr.cell? ⟨g, k * 3 + j, none⟩ = some v := by
        intro j v hj hv
        exact (hbel.cell (p := ⟨g, k * 3 + j, none⟩) hgl).trans (owns_cell Hts.out (k * 3 + j) v (by rw [toksCells_at ts k t ht j hj]; exact hv))
      have tc0 : wr.cell? ⟨g, k * 3, none⟩ = some (.int .i64 t.kind) := tcell 0 _ (by omega) rfl
      have tc1 : wr.cell? ⟨g, k * 3 + 1, none⟩ = some (.string ⟨t.text.toArray⟩) := tcell 1 _ (by omega) rfl
      have tc2 : wr.cell? ⟨g, k * 3 + 2, none⟩ = some (.int .i64 t.pos) := tcell 2 _ (by omega) rfl
      have Hhere := hide' (lover_here ts k t L ht)
      have hwant := Hinv.out.want
      clear tcell ht hmem hg
      have hws : L.want = 0 ∨ L.want = 1 ∨ L.want = 2 ∨ L.want = 3 ∨ L.want = 4 ∨ L.want = 5 := by omega
      clear hwant
      rcases hws with hw | hw | hw | hw | hw | hw
      · rw [hw] at c0
        have Hw := hide' hw
        clear hw
        by_cases k4 : t.kind = 4
        · have Hh := hide' (Hhere.out.trans (if_pos ⟨k4, by rw [Hw.out]; omega⟩))
          have k4' : ((t.kind : Int) == 4) = true := by rw [beq_iff_eq]; omega
          clear k4
          go_wp2
          go_ret2
          refine ⟨ret_two ?_ ?_, ?_⟩
          · rw [← Hlov.out, Hh.out]; rfl
          · rw [← Hlov.out, Hh.out]; rfl
          · exact hbel.alloc hbel.size _
        · have Hn4 : Hid (¬ (t.kind = 4 ∧ (L.want = 5 ∨ L.want = 0))) := by rw [Hw.out]; intro h; omega
          have k4' : ((t.kind : Int) == 4) = false := by rw [beq_eq_false_iff_ne]; omega
          clear k4
          go_wp2_with fail
          refine (begins_all _ w.heap.size w.heap.size L ov t.kind _ ⟨t.text.toArray⟩ ?_ (Nat.le_refl _) (Hinv.out.mono (by omega)) (by rw [Hw.out]; omega) htt).mono ?_
          · exact Hlook.out.later (S := noBlock) ((Kept.refl _ _).alloc _) (fun h => h) (fun _ _ h => h)
          rintro e w1 ⟨rfl, ov', hkp, hlk⟩
          have hbel1 := over_kept hbel Hlook.out _ hkp
          have hbox2 : w1.cell? ⟨wr.heap.size, 2, none⟩ = some (.int .i64 t.pos) := over_box Hlook.out _ _ hkp 2 _ rfl
          have hstep : lbegins L t.kind (ByteArray.size ⟨t.text.toArray⟩) = lstep L t.kind t.text.length := by simp [lstep, Hw.out, ByteArray.size]
          rw [hstep] at hlk
          have Hlk := hide' hlk
          have d7 := hlk.facts.2.1.2.2.2.2.2.2.2
          have hb1 := hlk.facts.1
          have df := hlk.facts.2.2
          have Hst := hide' hstep
          have Hkp := hide' hkp
          clear hstep hkp hlk c0 c1 c2 c3 c4 c5 c6 c7 hf tc0 tc1 tc2
          by_cases he : (lstep L t.kind t.text.length).err = 0
          · rw [he] at d7
            have He := hide' he
            clear he
            go_wp2_with fail
            go_roundw
            case rel =>
              refine ⟨k + 1, lstep L t.kind t.text.length, ov', by omega, by go_num, hbel1, Hlk.out, lstep_inv Hinv.out _ _, He.out, ?_⟩
              rw [← Hlov.out, Hhere.out, if_neg Hn4.out, if_neg (by simp [He.out])]
            case measure => simp [intOf]; omega
          · have hne : (((lstep L t.kind t.text.length).err : Int) != 0) = true := by rw [bne_iff_ne]; omega
            have He := hide' he
            clear he
            go_wp2_with fail
            go_quiet (fail)
            go_wp2_with fail
            go_ret2
            refine ⟨ret_two ?_ ?_, ?_⟩
            · rw [← Hlov.out, Hhere.out, if_neg Hn4.out, if_pos He.out]
            · rw [← Hlov.out, Hhere.out, if_neg Hn4.out, if_pos He.out]
            · exact hbel1.trans ⟨rfl, rfl, rfl, Nat.le_refl _, fun _ _ => rfl⟩
      · rw [hw] at c0
        have Hw := hide' hw
        clear hw
        by_cases k4 : t.kind = 4
        · have Hn4 : Hid (¬ (t.kind = 4 ∧ (L.want = 5 ∨ L.want = 0))) := by rw [Hw.out]; intro h; omega
          have k4' : ((t.kind : Int) == 4) = true := by rw [beq_iff_eq]; omega
          clear k4
          go_wp2_with fail
          refine (begins_all _ w.heap.size w.heap.size L ov t.kind _ ⟨t.text.toArray⟩ ?_ (Nat.le_refl _) (Hinv.out.mono (by omega)) (by rw [Hw.out]; omega) htt).mono ?_
          · exact Hlook.out.later (S := noBlock) ((Kept.refl _ _).alloc _) (fun h => h) (fun _ _ h => h)
          rintro e w1 ⟨rfl, ov', hkp, hlk⟩
          have hbel1 := over_kept hbel Hlook.out _ hkp
          have hbox2 : w1.cell? ⟨wr.heap.size, 2, none⟩ = some (.int .i64 t.pos) := over_box Hlook.out _ _ hkp 2 _ rfl
          have hstep : lbegins L t.kind (ByteArray.size ⟨t.text.toArray⟩) = lstep L t.kind t.text.length := by simp [lstep, Hw.out, ByteArray.size]
          rw [hstep] at hlk
          have Hlk := hide' hlk
          have d7 := hlk.facts.2.1.2.2.2.2.2.2.2
          have hb1 := hlk.facts.1
          have df := hlk.facts.2.2
          have Hst := hide' hstep
          have Hkp := hide' hkp
          clear hstep hkp hlk c0 c1 c2 c3 c4 c5 c6 c7 hf tc0 tc1 tc2
          by_cases he : (lstep L t.kind t.text.length).err = 0
          · rw [he] at d7
            have He := hide' he
            clear he
            go_wp2_with fail
            go_roundw
            case rel =>
              refine ⟨k + 1, lstep L t.kind t.text.length, ov', by omega, by go_num, hbel1, Hlk.out, lstep_inv Hinv.out _ _, He.out, ?_⟩
              rw [← Hlov.out, Hhere.out, if_neg Hn4.out, if_neg (by simp [He.out])]
            case measure => simp [intOf]; omega
          · have hne : (((lstep L t.kind t.text.length).err : Int) != 0) = true := by rw [bne_iff_ne]; omega
            have He := hide' he
            clear he
            go_wp2_with fail
            go_quiet (fail)
            go_wp2_with fail
            go_ret2
            refine ⟨ret_two ?_ ?_, ?_⟩
            · rw [← Hlov.out, Hhere.out, if_neg Hn4.out, if_pos He.out]
            · rw [← Hlov.out, Hhere.out, if_neg Hn4.out, if_pos He.out]
            · exact hbel1.trans ⟨rfl, rfl, rfl, Nat.le_refl _, fun _ _ => rfl⟩
        · have Hn4 : Hid (¬ (t.kind = 4 ∧ (L.want = 5 ∨ L.want = 0))) := by rw [Hw.out]; intro h; omega
          have k4' : ((t.kind : Int) == 4) = false := by rw [beq_eq_false_iff_ne]; omega
          clear k4
          go_wp2_with fail
          refine (begins_all _ w.heap.size w.heap.size L ov t.kind _ ⟨t.text.toArray⟩ ?_ (Nat.le_refl _) (Hinv.out.mono (by omega)) (by rw [Hw.out]; omega) htt).mono ?_
          · exact Hlook.out.later (S := noBlock) ((Kept.refl _ _).alloc _) (fun h => h) (fun _ _ h => h)
          rintro e w1 ⟨rfl, ov', hkp, hlk⟩
          have hbel1 := over_kept hbel Hlook.out _ hkp
          have hbox2 : w1.cell? ⟨wr.heap.size, 2, none⟩ = some (.int .i64 t.pos) := over_box Hlook.out _ _ hkp 2 _ rfl
          have hstep : lbegins L t.kind (ByteArray.size ⟨t.text.toArray⟩) = lstep L t.kind t.text.length := by simp [lstep, Hw.out, ByteArray.size]
          rw [hstep] at hlk
          have Hlk := hide' hlk
          have d7 := hlk.facts.2.1.2.2.2.2.2.2.2
          have hb1 := hlk.facts.1
          have df := hlk.facts.2.2
          have Hst := hide' hstep
          have Hkp := hide' hkp
          clear hstep hkp hlk c0 c1 c2 c3 c4 c5 c6 c7 hf tc0 tc1 tc2
          by_cases he : (lstep L t.kind t.text.length).err = 0
          · rw [he] at d7
            have He := hide' he
            clear he
            go_wp2_with fail
            go_roundw
            case rel =>
              refine ⟨k + 1, lstep L t.kind t.text.length, ov', by omega, by go_num, hbel1, Hlk.out, lstep_inv Hinv.out _ _, He.out, ?_⟩
              rw [← Hlov.out, Hhere.out, if_neg Hn4.out, if_neg (by simp [He.out])]
            case measure => simp [intOf]; omega
          · have hne : (((lstep L t.kind t.text.length).err : Int) != 0) = true := by rw [bne_iff_ne]; omega
            have He := hide' he
            clear he
            go_wp2_with fail
            go_quiet (fail)
            go_wp2_with fail
            go_ret2
            refine ⟨ret_two ?_ ?_, ?_⟩
            · rw [← Hlov.out, Hhere.out, if_neg Hn4.out, if_pos He.out]
            · rw [← Hlov.out, Hhere.out, if_neg Hn4.out, if_pos He.out]
            · exact hbel1.trans ⟨rfl, rfl, rfl, Nat.le_refl _, fun _ _ => rfl⟩
      · rw [hw] at c0
        have Hw := hide' hw
        clear hw
        by_cases k4 : t.kind = 4
        · have Hn4 : Hid (¬ (t.kind = 4 ∧ (L.want = 5 ∨ L.want = 0))) := by rw [Hw.out]; intro h; omega
          have k4' : ((t.kind : Int) == 4) = true := by rw [beq_iff_eq]; omega
          clear k4
          go_wp2_with fail
          refine (begins_all _ w.heap.size w.heap.size L ov t.kind _ ⟨t.text.toArray⟩ ?_ (Nat.le_refl _) (Hinv.out.mono (by omega)) (by rw [Hw.out]; omega) htt).mono ?_
          · exact Hlook.out.later (S := noBlock) ((Kept.refl _ _).alloc _) (fun h => h) (fun _ _ h => h)
          rintro e w1 ⟨rfl, ov', hkp, hlk⟩
          have hbel1 := over_kept hbel Hlook.out _ hkp
          have hbox2 : w1.cell? ⟨wr.heap.size, 2, none⟩ = some (.int .i64 t.pos) := over_box Hlook.out _ _ hkp 2 _ rfl
          have hstep : lbegins L t.kind (ByteArray.size ⟨t.text.toArray⟩) = lstep L t.kind t.text.length := by simp [lstep, Hw.out, ByteArray.size]
          rw [hstep] at hlk
          have Hlk := hide' hlk
          have d7 := hlk.facts.2.1.2.2.2.2.2.2.2
          have hb1 := hlk.facts.1
          have df := hlk.facts.2.2
          have Hst := hide' hstep
          have Hkp := hide' hkp
          clear hstep hkp hlk c0 c1 c2 c3 c4 c5 c6 c7 hf tc0 tc1 tc2
          by_cases he : (lstep L t.kind t.text.length).err = 0
          · rw [he] at d7
            have He := hide' he
            clear he
            go_wp2_with fail
            go_roundw
            case rel =>
              refine ⟨k + 1, lstep L t.kind t.text.length, ov', by omega, by go_num, hbel1, Hlk.out, lstep_inv Hinv.out _ _, He.out, ?_⟩
              rw [← Hlov.out, Hhere.out, if_neg Hn4.out, if_neg (by simp [He.out])]
            case measure => simp [intOf]; omega
          · have hne : (((lstep L t.kind t.text.length).err : Int) != 0) = true := by rw [bne_iff_ne]; omega
            have He := hide' he
            clear he
            go_wp2_with fail
            go_quiet (fail)
            go_wp2_with fail
            go_ret2
            refine ⟨ret_two ?_ ?_, ?_⟩
            · rw [← Hlov.out, Hhere.out, if_neg Hn4.out, if_pos He.out]
            · rw [← Hlov.out, Hhere.out, if_neg Hn4.out, if_pos He.out]
            · exact hbel1.trans ⟨rfl, rfl, rfl, Nat.le_refl _, fun _ _ => rfl⟩
        · have Hn4 : Hid (¬ (t.kind = 4 ∧ (L.want = 5 ∨ L.want = 0))) := by rw [Hw.out]; intro h; omega
          have k4' : ((t.kind : Int) == 4) = false := by rw [beq_eq_false_iff_ne]; omega
          clear k4
          go_wp2_with fail
          refine (begins_all _ w.heap.size w.heap.size L ov t.kind _ ⟨t.text.toArray⟩ ?_ (Nat.le_refl _) (Hinv.out.mono (by omega)) (by rw [Hw.out]; omega) htt).mono ?_
          · exact Hlook.out.later (S := noBlock) ((Kept.refl _ _).alloc _) (fun h => h) (fun _ _ h => h)
          rintro e w1 ⟨rfl, ov', hkp, hlk⟩
          have hbel1 := over_kept hbel Hlook.out _ hkp
          have hbox2 : w1.cell? ⟨wr.heap.size, 2, none⟩ = some (.int .i64 t.pos) := over_box Hlook.out _ _ hkp 2 _ rfl
          have hstep : lbegins L t.kind (ByteArray.size ⟨t.text.toArray⟩) = lstep L t.kind t.text.length := by simp [lstep, Hw.out, ByteArray.size]
          rw [hstep] at hlk
          have Hlk := hide' hlk
          have d7 := hlk.facts.2.1.2.2.2.2.2.2.2
          have hb1 := hlk.facts.1
          have df := hlk.facts.2.2
          have Hst := hide' hstep
          have Hkp := hide' hkp
          clear hstep hkp hlk c0 c1 c2 c3 c4 c5 c6 c7 hf tc0 tc1 tc2
          by_cases he : (lstep L t.kind t.text.length).err = 0
          · rw [he] at d7
            have He := hide' he
            clear he
            go_wp2_with fail
            go_roundw
            case rel =>
              refine ⟨k + 1, lstep L t.kind t.text.length, ov', by omega, by go_num, hbel1, Hlk.out, lstep_inv Hinv.out _ _, He.out, ?_⟩
              rw [← Hlov.out, Hhere.out, if_neg Hn4.out, if_neg (by simp [He.out])]
            case measure => simp [intOf]; omega
          · have hne : (((lstep L t.kind t.text.length).err : Int) != 0) = true := by rw [bne_iff_ne]; omega
            have He := hide' he
            clear he
            go_wp2_with fail
            go_quiet (fail)
            go_wp2_with fail
            go_ret2
            refine ⟨ret_two ?_ ?_, ?_⟩
            · rw [← Hlov.out, Hhere.out, if_neg Hn4.out, if_pos He.out]
            · rw [← Hlov.out, Hhere.out, if_neg Hn4.out, if_pos He.out]
            · exact hbel1.trans ⟨rfl, rfl, rfl, Nat.le_refl _, fun _ _ => rfl⟩
      · rw [hw] at c0
        have Hw := hide' hw
        clear hw
        by_cases k4 : t.kind = 4
        · have Hn4 : Hid (¬ (t.kind = 4 ∧ (L.want = 5 ∨ L.want = 0))) := by rw [Hw.out]; intro h; omega
          have k4' : ((t.kind : Int) == 4) = true := by rw [beq_iff_eq]; omega
          clear k4
          go_wp2_with fail
          refine (follows_all _ w.heap.size w.heap.size L ov t.kind _ ⟨t.text.toArray⟩ ?_ (Nat.le_refl _) (Hinv.out.mono (by omega))).mono ?_
          · exact Hlook.out.later (S := noBlock) ((Kept.refl _ _).alloc _) (fun h => h) (fun _ _ h => h)
          rintro e w1 ⟨rfl, ov', hkp, hlk⟩
          have hbel1 := over_kept hbel Hlook.out _ hkp
          have hbox2 : w1.cell? ⟨wr.heap.size, 2, none⟩ = some (.int .i64 t.pos) := over_box Hlook.out _ _ hkp 2 _ rfl
          have hstep : lfollows L t.kind = lstep L t.kind t.text.length := by simp [lstep, Hw.out, ByteArray.size]
          rw [hstep] at hlk
          have Hlk := hide' hlk
          have d7 := hlk.facts.2.1.2.2.2.2.2.2.2
          have hb1 := hlk.facts.1
          have df := hlk.facts.2.2
          have Hst := hide' hstep
          have Hkp := hide' hkp
          clear hstep hkp hlk c0 c1 c2 c3 c4 c5 c6 c7 hf tc0 tc1 tc2
          by_cases he : (lstep L t.kind t.text.length).err = 0
          · rw [he] at d7
            have He := hide' he
            clear he
            go_wp2_with fail
            go_roundw
            case rel =>
              refine ⟨k + 1, lstep L t.kind t.text.length, ov', by omega, by go_num, hbel1, Hlk.out, lstep_inv Hinv.out _ _, He.out, ?_⟩
              rw [← Hlov.out, Hhere.out, if_neg Hn4.out, if_neg (by simp [He.out])]
            case measure => simp [intOf]; omega
          · have hne : (((lstep L t.kind t.text.length).err : Int) != 0) = true := by rw [bne_iff_ne]; omega
            have He := hide' he
            clear he
            go_wp2_with fail
            go_quiet (fail)
            go_wp2_with fail
            go_ret2
            refine ⟨ret_two ?_ ?_, ?_⟩
            · rw [← Hlov.out, Hhere.out, if_neg Hn4.out, if_pos He.out]
            · rw [← Hlov.out, Hhere.out, if_neg Hn4.out, if_pos He.out]
            · exact hbel1.trans ⟨rfl, rfl, rfl, Nat.le_refl _, fun _ _ => rfl⟩
        · have Hn4 : Hid (¬ (t.kind = 4 ∧ (L.want = 5 ∨ L.want = 0))) := by rw [Hw.out]; intro h; omega
          have k4' : ((t.kind : Int) == 4) = false := by rw [beq_eq_false_iff_ne]; omega
          clear k4
          go_wp2_with fail
          refine (follows_all _ w.heap.size w.heap.size L ov t.kind _ ⟨t.text.toArray⟩ ?_ (Nat.le_refl _) (Hinv.out.mono (by omega))).mono ?_
          · exact Hlook.out.later (S := noBlock) ((Kept.refl _ _).alloc _) (fun h => h) (fun _ _ h => h)
          rintro e w1 ⟨rfl, ov', hkp, hlk⟩
          have hbel1 := over_kept hbel Hlook.out _ hkp
          have hbox2 : w1.cell? ⟨wr.heap.size, 2, none⟩ = some (.int .i64 t.pos) := over_box Hlook.out _ _ hkp 2 _ rfl
          have hstep : lfollows L t.kind = lstep L t.kind t.text.length := by simp [lstep, Hw.out, ByteArray.size]
          rw [hstep] at hlk
          have Hlk := hide' hlk
          have d7 := hlk.facts.2.1.2.2.2.2.2.2.2
          have hb1 := hlk.facts.1
          have df := hlk.facts.2.2
          have Hst := hide' hstep
          have Hkp := hide' hkp
          clear hstep hkp hlk c0 c1 c2 c3 c4 c5 c6 c7 hf tc0 tc1 tc2
          by_cases he : (lstep L t.kind t.text.length).err = 0
          · rw [he] at d7
            have He := hide' he
            clear he
            go_wp2_with fail
            go_roundw
            case rel =>
              refine ⟨k + 1, lstep L t.kind t.text.length, ov', by omega, by go_num, hbel1, Hlk.out, lstep_inv Hinv.out _ _, He.out, ?_⟩
              rw [← Hlov.out, Hhere.out, if_neg Hn4.out, if_neg (by simp [He.out])]
            case measure => simp [intOf]; omega
          · have hne : (((lstep L t.kind t.text.length).err : Int) != 0) = true := by rw [bne_iff_ne]; omega
            have He := hide' he
            clear he
            go_wp2_with fail
            go_quiet (fail)
            go_wp2_with fail
            go_ret2
            refine ⟨ret_two ?_ ?_, ?_⟩
            · rw [← Hlov.out, Hhere.out, if_neg Hn4.out, if_pos He.out]
            · rw [← Hlov.out, Hhere.out, if_neg Hn4.out, if_pos He.out]
            · exact hbel1.trans ⟨rfl, rfl, rfl, Nat.le_refl _, fun _ _ => rfl⟩
      · rw [hw] at c0
        have Hw := hide' hw
        clear hw
        by_cases k4 : t.kind = 4
        · have Hn4 : Hid (¬ (t.kind = 4 ∧ (L.want = 5 ∨ L.want = 0))) := by rw [Hw.out]; intro h; omega
          have k4' : ((t.kind : Int) == 4) = true := by rw [beq_iff_eq]; omega
          clear k4
          go_wp2_with fail
          refine (follows_all _ w.heap.size w.heap.size L ov t.kind _ ⟨t.text.toArray⟩ ?_ (Nat.le_refl _) (Hinv.out.mono (by omega))).mono ?_
          · exact Hlook.out.later (S := noBlock) ((Kept.refl _ _).alloc _) (fun h => h) (fun _ _ h => h)
          rintro e w1 ⟨rfl, ov', hkp, hlk⟩
          have hbel1 := over_kept hbel Hlook.out _ hkp
          have hbox2 : w1.cell? ⟨wr.heap.size, 2, none⟩ = some (.int .i64 t.pos) := over_box Hlook.out _ _ hkp 2 _ rfl
          have hstep : lfollows L t.kind = lstep L t.kind t.text.length := by simp [lstep, Hw.out, ByteArray.size]
          rw [hstep] at hlk
          have Hlk := hide' hlk
          have d7 := hlk.facts.2.1.2.2.2.2.2.2.2
          have hb1 := hlk.facts.1
          have df := hlk.facts.2.2
          have Hst := hide' hstep
          have Hkp := hide' hkp
          clear hstep hkp hlk c0 c1 c2 c3 c4 c5 c6 c7 hf tc0 tc1 tc2
          by_cases he : (lstep L t.kind t.text.length).err = 0
          · rw [he] at d7
            have He := hide' he
            clear he
            go_wp2_with fail
            go_roundw
            case rel =>
              refine ⟨k + 1, lstep L t.kind t.text.length, ov', by omega, by go_num, hbel1, Hlk.out, lstep_inv Hinv.out _ _, He.out, ?_⟩
              rw [← Hlov.out, Hhere.out, if_neg Hn4.out, if_neg (by simp [He.out])]
            case measure => simp [intOf]; omega
          · have hne : (((lstep L t.kind t.text.length).err : Int) != 0) = true := by rw [bne_iff_ne]; omega
            have He := hide' he
            clear he
            go_wp2_with fail
            go_quiet (fail)
            go_wp2_with fail
            go_ret2
            refine ⟨ret_two ?_ ?_, ?_⟩
            · rw [← Hlov.out, Hhere.out, if_neg Hn4.out, if_pos He.out]
            · rw [← Hlov.out, Hhere.out, if_neg Hn4.out, if_pos He.out]
            · exact hbel1.trans ⟨rfl, rfl, rfl, Nat.le_refl _, fun _ _ => rfl⟩
        · have Hn4 : Hid (¬ (t.kind = 4 ∧ (L.want = 5 ∨ L.want = 0))) := by rw [Hw.out]; intro h; omega
          have k4' : ((t.kind : Int) == 4) = false := by rw [beq_eq_false_iff_ne]; omega
          clear k4
          go_wp2_with fail
          refine (follows_all _ w.heap.size w.heap.size L ov t.kind _ ⟨t.text.toArray⟩ ?_ (Nat.le_refl _) (Hinv.out.mono (by omega))).mono ?_
          · exact Hlook.out.later (S := noBlock) ((Kept.refl _ _).alloc _) (fun h => h) (fun _ _ h => h)
          rintro e w1 ⟨rfl, ov', hkp, hlk⟩
          have hbel1 := over_kept hbel Hlook.out _ hkp
          have hbox2 : w1.cell? ⟨wr.heap.size, 2, none⟩ = some (.int .i64 t.pos) := over_box Hlook.out _ _ hkp 2 _ rfl
          have hstep : lfollows L t.kind = lstep L t.kind t.text.length := by simp [lstep, Hw.out, ByteArray.size]
          rw [hstep] at hlk
          have Hlk := hide' hlk
          have d7 := hlk.facts.2.1.2.2.2.2.2.2.2
          have hb1 := hlk.facts.1
          have df := hlk.facts.2.2
          have Hst := hide' hstep
          have Hkp := hide' hkp
          clear hstep hkp hlk c0 c1 c2 c3 c4 c5 c6 c7 hf tc0 tc1 tc2
          by_cases he : (lstep L t.kind t.text.length).err = 0
          · rw [he] at d7
            have He := hide' he
            clear he
            go_wp2_with fail
            go_roundw
            case rel =>
              refine ⟨k + 1, lstep L t.kind t.text.length, ov', by omega, by go_num, hbel1, Hlk.out, lstep_inv Hinv.out _ _, He.out, ?_⟩
              rw [← Hlov.out, Hhere.out, if_neg Hn4.out, if_neg (by simp [He.out])]
            case measure => simp [intOf]; omega
          · have hne : (((lstep L t.kind t.text.length).err : Int) != 0) = true := by rw [bne_iff_ne]; omega
            have He := hide' he
            clear he
            go_wp2_with fail
            go_quiet (fail)
            go_wp2_with fail
            go_ret2
            refine ⟨ret_two ?_ ?_, ?_⟩
            · rw [← Hlov.out, Hhere.out, if_neg Hn4.out, if_pos He.out]
            · rw [← Hlov.out, Hhere.out, if_neg Hn4.out, if_pos He.out]
            · exact hbel1.trans ⟨rfl, rfl, rfl, Nat.le_refl _, fun _ _ => rfl⟩
      · rw [hw] at c0
        have Hw := hide' hw
        clear hw
        by_cases k4 : t.kind = 4
        · have Hh := hide' (Hhere.out.trans (if_pos ⟨k4, by rw [Hw.out]; omega⟩))
          have k4' : ((t.kind : Int) == 4) = true := by rw [beq_iff_eq]; omega
          clear k4
          go_wp2
          go_ret2
          refine ⟨ret_two ?_ ?_, ?_⟩
          · rw [← Hlov.out, Hh.out]; rfl
          · rw [← Hlov.out, Hh.out]; rfl
          · exact hbel.alloc hbel.size _
        · have Hn4 : Hid (¬ (t.kind = 4 ∧ (L.want = 5 ∨ L.want = 0))) := by rw [Hw.out]; intro h; omega
          have k4' : ((t.kind : Int) == 4) = false := by rw [beq_eq_false_iff_ne]; omega
          clear k4
          have He2 : Hid ((lstep L t.kind t.text.length).err = 2) := by show _ = 2; simp [lstep, Hw.out]
          go_wp2_with fail
          go_quiet (fail)
          go_wp2_with fail
          go_ret2
          refine ⟨ret_two ?_ ?_, ?_⟩
          · rw [← Hlov.out, Hhere.out, if_neg Hn4.out, if_pos (by rw [He2.out]; omega), He2.out]; rfl
          · rw [← Hlov.out, Hhere.out, if_neg Hn4.out, if_pos (by rw [He2.out]; omega)]
          · exact (((hbel.setCell (Nat.le_refl _) _).alloc (by have := hbel.size; simp; omega) _)).trans ⟨rfl, rfl, rfl, Nat.le_refl _, fun _ _ => rfl⟩
    · have Hend : Hid (lover (ts.drop k) L = (0, 0)) := by show _ = _; rw [List.drop_eq_nil_of_le (by omega)]; rfl
      go_wp2
      go_ret2
      refine ⟨ret_two ?_ ?_, hbel⟩
      · rw [← Hlov.out, Hend.out]; rfl
      · rw [← Hlov.out, Hend.out]; rfl

end Go.Proofs.YtlmjilpjmgjjcaaGreatDoor

namespace Go.Proofs.YtlmjilpjmgjjcaaGreatDoor
open Go.RowKit
set_option linter.unusedSimpArgs false
set_option linter.unusedVariables false

theorem Tryz.infoTerm : (Tryz.prog.info? 183).map (fun i => (i.zero, i.size, i.bytes)) = some (some (.agg #[.string ⟨#[]⟩, .int .i64 0, .slice none 0 0]), 3, 48) := by kernel_rfl

/-- What 'term' leaves: the term, the place behind it, the names. -/
def TermSaid (f : Nat) : Prop := ∀ (w : World) (ts : List Tok) (k : Nat) (tv : Value) (Bt B : Nat) (names : Names) (nv : Value) (r : List Sym × List Tok × Names),
  pterm f (ts.drop k) names = some r → w.ownsRow Bt 243 3 tv ts.length (toksCells ts) → w.ownsRow B 9 1 nv names.length (strs names) → B ≤ w.heap.size →
  ts.length ≤ 1000 → names.length + (ts.length - k) ≤ 1000 → (∀ t ∈ ts, t.text.length ≤ 4096) → (∀ i t, ts[i]? = some t → i + 1 < ts.length → t.text ≠ []) →
  Calls Tryz.prog 143 #[tv, .int .i64 k, nv] w fun e w' => ∃ a b c nv' j, e = .returned (.tuple #[.agg #[a, b, c], .int .i64 (j : Nat), nv']) ∧ r.2.1 = ts.drop j ∧ k < j ∧ j ≤ ts.length ∧
    RepT f w' w.heap.size w'.heap.size a b c r.1 ∧ Appended w B 9 1 nv r.2.2.length (strs r.2.2) nv' w'

theorem Appended.around {w0 w w1 w2 : World} {S : Nat → Prop} {B : Nat} {e : TypeId} {size n : Nat} {v v' : Value} {xs : List Value} (h : Appended w B e size v n xs v' w1) (h0 : Kept (ownOf v) w0 w)
    (hv : ∀ k, v.ownBlock = some k → k < w0.heap.size) (h2 : Kept S w1 w2) (hS : ∀ k, S k → w0.heap.size ≤ k) (hSv : ∀ k, v'.ownBlock = some k → ¬ S k) : Appended w0 B e size v n xs v' w2 :=
  ⟨h2.owns h.owns hSv, (h0.then h.kept (fun _ _ e => e)).then h2 (fun i hi hs => by have := hS i hs; omega), by
    rcases h.where_ with h | ⟨g, h, hg⟩
    · exact Or.inl h
    · exact Or.inr ⟨g, h, Nat.le_trans h0.size hg⟩⟩

theorem tok_at {w : World} {Bt k : Nat} {ts : List Tok} {tv : Value} {t : Tok} (h : w.ownsRow Bt 243 3 tv ts.length (toksCells ts)) (ht : ts[k]? = some t) :
    ∃ g cap, tv = .slice (some ⟨g, 0, none⟩) ts.length cap ∧ g < w.heap.size ∧ w.cell? ⟨g, k * 3, none⟩ = some (.int .i64 t.kind) ∧ w.cell? ⟨g, k * 3 + 1, none⟩ = some (.string ⟨t.text.toArray⟩) ∧ w.cell? ⟨g, k * 3 + 2, none⟩ = some (.int .i64 t.pos) := by
  have hk : k < ts.length := (List.getElem?_eq_some_iff.1 ht).1
  obtain ⟨g, cap, cur, rfl, hBg, hg, hcp⟩ := owns_some h (by omega)
  have tcell : ∀ j v, j < 3 → (tokCells t)[j]? = some v → w.cell? ⟨g, k * 3 + j, none⟩ = some v := fun j v hj hv => owns_cell h (k * 3 + j) v (by rw [toksCells_at ts k t ht j hj]; exact hv)
  exact ⟨g, cap, rfl, lt_of_block hg, tcell 0 _ (by omega) rfl, tcell 1 _ (by omega) rfl, tcell 2 _ (by omega) rfl⟩

theorem drop_at {ts : List Tok} {k : Nat} {t : Tok} {r : List Tok} (h : ts.drop k = t :: r) : ts[k]? = some t ∧ ts.drop (k + 1) = r ∧ k < ts.length := by
  have hk : k < ts.length := by
    rcases Nat.lt_or_ge k ts.length with hl | hl
    · exact hl
    · rw [List.drop_eq_nil_of_le hl] at h; cases h
  rw [List.drop_eq_getElem_cons hk] at h
  injection h with h1 h2
  exact ⟨by rw [List.getElem?_eq_getElem hk, h1], h2, hk⟩

set_option maxRecDepth 10000 in
set_option maxHeartbeats 400000 in
theorem term_var (f : Nat) (w : World) (ts : List Tok) (k : Nat) (tv : Value) (Bt B : Nat) (names : Names) (nv : Value) (t : Tok) (r : List Tok)
    (hd : ts.drop k = t :: r) (hkd : t.kind = 2) (hts : w.ownsRow Bt 243 3 tv ts.length (toksCells ts)) (hnv : w.ownsRow B 9 1 nv names.length (strs names)) (hB : B ≤ w.heap.size)
    (hl : ts.length ≤ 1000) (hn : names.length + (ts.length - k) ≤ 1000) (htx : ∀ t ∈ ts, t.text.length ≤ 4096) :
    Calls Tryz.prog 143 #[tv, .int .i64 k, nv] w fun e w' => ∃ a b c nv' j, e = .returned (.tuple #[.agg #[a, b, c], .int .i64 (j : Nat), nv']) ∧ r = ts.drop j ∧ k < j ∧ j ≤ ts.length ∧
      RepT (f + 1) w' w.heap.size w'.heap.size a b c [⟨[], (numberOf names t.text).2, 0⟩] ∧ Appended w B 9 1 nv (numberOf names t.text).1.length (strs (numberOf names t.text).1) nv' w' := by
  obtain ⟨ht, hr, hk⟩ := drop_at hd
  obtain ⟨g, tcap, rfl, hg, t0, t1, t2⟩ := tok_at hts ht
  have hlen := htx t (List.mem_of_getElem? ht)
  rw [hkd] at t0
  have Hr := hide' hr
  have Hnv := hide' hnv
  have Hts := hide' hts
  obtain ⟨na, ncap, rfl⟩ := owns_slice hnv
  clear hd hts hnv ht hr
  go_enter Tryz.func143, Tryz.ntmps143
  go_wp2_with fail
  refine (number_any _ B names t.text _ (Hnv.out.alloc _) (by simp; omega) (by omega) hlen).mono ?_
  rintro e w1 ⟨v', rfl, hap⟩
  obtain ⟨va, vcap, rfl⟩ := owns_slice hap.owns
  have hN : ¬ ownOf (.slice na names.length ncap) w.heap.size := fun e => by have := (Hnv.out.lt _ e).2; omega
  have hblk := (hap.kept.block w.heap.size (by simp) hN).trans (heap_alloc_new w _)
  have z0 : w1.cell? ⟨w.heap.size, 0, none⟩ = some (.string ⟨#[]⟩) := cell_of_block hblk 0 _ rfl
  have z1 : w1.cell? ⟨w.heap.size, 1, none⟩ = some (.int .i64 0) := cell_of_block hblk 1 _ rfl
  have z2 : w1.cell? ⟨w.heap.size, 2, none⟩ = some (.slice none 0 0) := cell_of_block hblk 2 _ rfl
  have zf := fun i => thawed_of_block hblk i
  have hsz := lt_of_block hblk
  have Hap := hide' hap
  have Hblk := hide' hblk
  clear hap hblk
  go_wp2
  refine bodyPost_ret (v := .tuple #[.agg #[.string ⟨#[]⟩, .int .i64 (numberOf names t.text).2, .slice none 0 0], .int .i64 ((k + 1 : Nat) : Int), .slice va (numberOf names t.text).1.length vcap]) (by simp [results, Tryz.results143, go_sem, z0, z1, z2, zf, hsz]) rfl ?_
  refine ⟨_, _, _, _, k + 1, rfl, Hr.out.symm, by omega, by omega, Or.inl ⟨_, rfl, rfl, rfl, rfl⟩, ?_⟩
  refine Hap.out.around ((Kept.refl _ w).alloc _) (fun k e => (Hnv.out.lt k e).2) ((((Kept.refl (only w.heap.size) w1).put 0 _).put 1 _).put 2 _) (fun k e => Nat.le_of_eq (Eq.symm e)) ?_
  rintro k hk (rfl : k = w.heap.size)
  rcases Hap.out.where_ with h | ⟨g, h, hg⟩
  · exact hN (h.symm.trans hk)
  · rw [hk] at h
    simp at h hg
    omega

set_option maxRecDepth 10000 in
set_option maxHeartbeats 400000 in
theorem term_name (f : Nat) (w : World) (ts : List Tok) (k : Nat) (tv : Value) (Bt B : Nat) (names : Names) (nv : Value) (t u : Tok) (r : List Tok)
    (hd : ts.drop k = t :: u :: r) (hkd : t.kind ≠ 2) (hku : u.kind ≠ 40) (hts : w.ownsRow Bt 243 3 tv ts.length (toksCells ts)) (hnv : w.ownsRow B 9 1 nv names.length (strs names)) (hB : B ≤ w.heap.size)
    (hl : ts.length ≤ 1000) (hne : t.text ≠ []) :
    Calls Tryz.prog 143 #[tv, .int .i64 k, nv] w fun e w' => ∃ a b c nv' j, e = .returned (.tuple #[.agg #[a, b, c], .int .i64 (j : Nat), nv']) ∧ u :: r = ts.drop j ∧ k < j ∧ j ≤ ts.length ∧
      RepT (f + 1) w' w.heap.size w'.heap.size a b c [⟨t.text, 0, 0⟩] ∧ Appended w B 9 1 nv names.length (strs names) nv' w' := by
  obtain ⟨ht, hr, hk⟩ := drop_at hd
  obtain ⟨hu, hr', hk'⟩ := drop_at hr
  obtain ⟨g, tcap, rfl, hg, t0, t1, t2⟩ := tok_at hts ht
  obtain ⟨g', tcap', he, hg', u0, u1, u2⟩ := tok_at hts hu
  simp only [Value.slice.injEq, Option.some.injEq, Addr.mk.injEq] at he
  obtain ⟨⟨rfl, _⟩, _, rfl⟩ := he
  have k2 : ((t.kind : Int) == 2) = false := by rw [beq_eq_false_iff_ne]; omega
  have k40 : ((u.kind : Int) != 40) = true := by rw [bne_iff_ne]; omega
  have Hr := hide' hr
  have Hnv := hide' hnv
  obtain ⟨na, ncap, rfl⟩ := owns_slice hnv
  clear hd hts hnv ht hr hu hr'
  go_enter Tryz.func143, Tryz.ntmps143
  go_wp2
  refine bodyPost_ret (v := .tuple #[.agg #[.string ⟨t.text.toArray⟩, .int .i64 0, .slice none 0 0], .int .i64 ((k + 1 : Nat) : Int), .slice na names.length ncap]) (by simp [results, Tryz.results143, go_sem]) rfl ?_
  refine ⟨_, _, _, _, k + 1, rfl, Hr.out.symm, by omega, by omega, Or.inr ⟨t.text, [], [], hne, rfl, rfl, rfl, World.ownsRow_nil _ _ _ _, fun k e => by simp [Value.ownBlock] at e, fun i l' h => by simp at h⟩, ?_⟩
  exact ⟨(Hnv.out.alloc _).alloc _, ((Kept.refl _ w).alloc _).alloc _, Or.inl rfl⟩

end Go.Proofs.YtlmjilpjmgjjcaaGreatDoor

namespace Go.Proofs.YtlmjilpjmgjjcaaGreatDoor
open Go.RowKit
set_option linter.unusedSimpArgs false
set_option linter.unusedVariables false

theorem RepT.shape {f : Nat} {w : World} {lo hi : Nat} {a b c : Value} {l : List Sym} (h : RepT f w lo hi a b c l) : ∃ s n ca cl cc, a = .string s ∧ b = .int .i64 n ∧ c = .slice ca cl cc := by
  cases f with
  | zero => exact h.elim
  | succ f =>
    rcases h with ⟨n, rfl, rfl, rfl, _⟩ | ⟨nm, ls, xs, _, rfl, rfl, _, h5, _⟩
    · exact ⟨_, _, _, _, _, rfl, rfl, rfl⟩
    · obtain ⟨a, cap, rfl⟩ := owns_slice h5
      exact ⟨_, _, _, _, _, rfl, rfl, rfl⟩

/-- The terms gathered so far. -/
structure Kids (f : Nat) (w : World) (lo : Nat) (cv : Value) (acc : List (List Sym)) (xs : List Value) : Prop where
  owns : w.ownsRow lo 183 3 cv acc.length xs
  all : ∀ (i : Nat) (l' : List Sym), acc[i]? = some l' → ∃ a b c l h, xs[i * 3]? = some a ∧ xs[i * 3 + 1]? = some b ∧ xs[i * 3 + 2]? = some c ∧ lo ≤ l ∧ h ≤ w.heap.size ∧
    (∀ k, cv.ownBlock = some k → ¬ (l ≤ k ∧ k < h)) ∧ RepT f w l h a b c l'

theorem Kids.nil (f : Nat) (w : World) (lo : Nat) : Kids f w lo (.slice none 0 0) [] [] := ⟨World.ownsRow_nil _ _ _ _, fun i l' h => by simp at h⟩

theorem Appended.trans {w w1 w2 : World} {B : Nat} {e : TypeId} {size n n' : Nat} {v v1 v2 : Value} {xs xs' : List Value} (h : Appended w B e size v n xs v1 w1) (h' : Appended w1 B e size v1 n' xs' v2 w2) : Appended w B e size v n' xs' v2 w2 :=
  ⟨h'.owns, h.kept.then h'.kept (fun i hi ho => by
      rcases h.where_ with hw | ⟨g, hw, hg⟩
      · exact hw.symm.trans ho
      · have : some g = some i := hw.symm.trans ho
        simp at this; omega), by
    rcases h'.where_ with hw' | ⟨g, hw', hg⟩
    · rcases h.where_ with hw | ⟨g, hw, hg⟩
      · exact Or.inl (hw'.trans hw)
      · exact Or.inr ⟨g, hw'.trans hw, hg⟩
    · exact Or.inr ⟨g, hw', Nat.le_trans h.kept.size hg⟩⟩

theorem term_one {s : ByteArray} {n : Int} {ca : Option Addr} {cl cc : Nat} : ∀ u ∈ (#[Value.string s, .int .i64 n, .slice ca cl cc] : Array Value).toList, u.oneCell' = true := by
  intro u hu
  simp at hu
  rcases hu with rfl | rfl | rfl <;> rfl

/-- A term more: the world behind the append and the store. -/
theorem Kids.step {f : Nat} {wr w1 w3 : World} {N lo : Nat} {nvj nv' cv cv' : Value} {B nn nn' : Nat} {ns ns' : List Value} {acc : List (List Sym)} {xs : List Value} {s : ByteArray} {n : Int} {ca : Option Addr} {cl cc : Nat} {l : List Sym} {o : Obj}
    (hk : Kids f wr lo cv acc xs) (hlo : N < lo) (hlo' : lo ≤ wr.heap.size) (hnv : wr.ownsRow B 9 1 nvj nn ns) (hap : Appended wr B 9 1 nvj nn' ns' nv' w1)
    (hr : RepT f w1 wr.heap.size w1.heap.size (.string s) (.int .i64 n) (.slice ca cl cc) l) (ha : Appended (w1.alloc o) lo 183 3 cv (acc.length + 1) (xs ++ [.string s, .int .i64 n, .slice ca cl cc]) cv' w3) (u : Value) :
    Kids f (w3.setCell ⟨N, 2, none⟩ u) lo cv' (acc ++ [l]) (xs ++ [.string s, .int .i64 n, .slice ca cl cc]) ∧ Kept (fun k => ownOf cv k ∨ k = N) w1 (w3.setCell ⟨N, 2, none⟩ u) := by
  have hcvlt : ∀ k, cv.ownBlock = some k → lo ≤ k ∧ k < wr.heap.size := hk.owns.lt
  have k13 : Kept (ownOf cv) w1 w3 := ((Kept.refl _ w1).alloc o).then ha.kept (fun _ _ e => e)
  have k14 : Kept (fun k => ownOf cv k ∨ k = N) w1 (w3.setCell ⟨N, 2, none⟩ u) := Kept.setCell (S := fun k => ownOf cv k ∨ k = N) (k13.mono (fun _ _ e => Or.inl e)) (p := ⟨N, 2, none⟩) (fun _ => Or.inr rfl) u
  have hcv' : ∀ k, cv'.ownBlock = some k → (lo ≤ k ∧ k < wr.heap.size ∧ cv.ownBlock = some k) ∨ w1.heap.size < k := by
    intro k hk
    rcases ha.where_ with h | ⟨g, h, hg⟩
    · rw [hk] at h
      exact Or.inl ⟨(hcvlt k h.symm).1, (hcvlt k h.symm).2, h.symm⟩
    · rw [hk] at h
      simp at h hg
      exact Or.inr (by omega)
  have hxl : xs.length = acc.length * 3 := hk.owns.1
  have hw14 : w1.heap.size ≤ (w3.setCell ⟨N, 2, none⟩ u).heap.size := k14.size
  have hwr1 := hap.kept.size
  refine ⟨⟨?_, ?_⟩, k14⟩
  · have := ((Kept.refl (only N) w3).put 2 u).owns ha.owns (fun k hk e => by
      have e : k = N := e
      rcases hcv' k hk with h | h <;> omega)
    simpa using this
  · intro i l' hl
    rcases Nat.lt_or_ge i acc.length with hi | hi
    · rw [List.getElem?_append_left hi] at hl
      obtain ⟨a', b', c', l1, h1, x1, x2, x3, g1, g2, g3, g4⟩ := hk.all i l' hl
      refine ⟨a', b', c', l1, h1, ?_, ?_, ?_, g1, by omega, ?_, ?_⟩
      · rw [List.getElem?_append_left (by omega)]; exact x1
      · rw [List.getElem?_append_left (by omega)]; exact x2
      · rw [List.getElem?_append_left (by omega)]; exact x3
      · intro k hk' hin
        rcases hcv' k hk' with h | h
        · exact g3 k h.2.2 hin
        · omega
      · refine g4.later (w := wr) _ (fun k hk1 hk2 ht => ?_)
        obtain ⟨cur, hcur⟩ := ht
        have e1 : w1.heap[k]? = wr.heap[k]? := hap.kept.block k (by omega) (owns_apart hnv (by decide) hcur)
        have e2 := k14.block k (by omega) (fun h => by
          rcases h with h | h
          · exact g3 k h ⟨hk1, hk2⟩
          · omega)
        exact e2.trans e1
    · have hi' : i = acc.length := by
        have : i < (acc ++ [l]).length := (List.getElem?_eq_some_iff.1 hl).1
        simp at this; omega
      subst hi'
      simp at hl
      subst hl
      refine ⟨.string s, .int .i64 n, .slice ca cl cc, wr.heap.size, w1.heap.size, ?_, ?_, ?_, hlo', by omega, ?_, ?_⟩
      · rw [List.getElem?_append_right (by omega), hxl]; simp
      · rw [List.getElem?_append_right (by omega), hxl]; simp
      · rw [List.getElem?_append_right (by omega), hxl]; simp
      · intro k hk' hin
        rcases hcv' k hk' with h | h <;> omega
      · refine hr.later _ (fun k hk1 hk2 _ => k14.block k hk2 (fun h => ?_))
        rcases h with h | h
        · have := (hcvlt k h).2; omega
        · omega

end Go.Proofs.YtlmjilpjmgjjcaaGreatDoor

namespace Go.Proofs.YtlmjilpjmgjjcaaGreatDoor
open Go.RowKit
set_option linter.unusedSimpArgs false
set_option linter.unusedVariables false

theorem Kept.drewN {S : Nat → Prop} {a w : World} (h : Kept S a w) (n : Nat) : Kept S a (w.drewN n) := ⟨h.os, h.tape, h.output, h.size, h.block⟩

def WrittenSaid (f : Nat) : Prop := ∀ (w : World) (lo hi : Nat) (a b c : Value) (l : List Sym) (B : Nat) (seen : List Nat) (sv : Value),
  RepT f w lo hi a b c l → w.ownsRow B 3 1 sv seen.length (ints seen) → B ≤ w.heap.size → (∀ s ∈ l, s.name.length ≤ 4096) → seen.length + l.length ≤ 4000 →
  Calls Tryz.prog 107 #[.agg #[a, b, c], sv] w fun e w' => ∃ sv', e = .returned (.tuple #[.string ⟨(wterm f l seen).1.toArray⟩, sv']) ∧ Appended w B 3 1 sv (wterm f l seen).2.1.length (ints (wterm f l seen).2.1) sv' w'

theorem wvar_hit {seen : List Nat} {n k : Nat} (hk : k < seen.length) (h : seen[k] = n) (hn : n ∉ seen.take k) : wvar n seen = (calledL k, seen) := by
  have hm : n ∈ seen := by rw [← h]; exact List.getElem_mem _
  unfold wvar
  rw [if_pos hm]
  congr 2
  have h1 : seen.idxOf n ≤ k := by
    rcases Nat.lt_or_ge k (seen.idxOf n) with hl | hl
    · have := List.not_of_lt_findIdx (p := (· == n)) (xs := seen) hl
      simp [h] at this
    · exact hl
  rcases Nat.lt_or_ge (seen.idxOf n) k with hl | hl
  · exfalso
    apply hn
    have hlt : seen.idxOf n < seen.length := List.idxOf_lt_length_of_mem hm
    have : seen[seen.idxOf n] = n := List.getElem_idxOf hlt
    rw [← this]
    rw [List.mem_take_iff_getElem]
    exact ⟨seen.idxOf n, by omega, rfl⟩
  · omega
theorem wvar_miss {seen : List Nat} {n k : Nat} (hk : ¬ k < seen.length) (hn : n ∉ seen.take k) : wvar n seen = (calledL seen.length, seen ++ [n]) := by
  rw [List.take_of_length_le (by omega)] at hn
  unfold wvar
  rw [if_neg hn]
theorem seen_on {seen : List Nat} {n k : Nat} (hk : k < seen.length) (h : ¬ seen[k] = n) (hn : n ∉ seen.take k) : n ∉ seen.take (k + 1) := by
  rw [List.take_succ_eq_append_getElem hk]
  simp only [List.mem_append, List.mem_singleton, not_or]
  exact ⟨hn, fun e => h e.symm⟩

set_option maxRecDepth 10000 in
set_option maxHeartbeats 1000000 in
theorem written_var (w : World) (n : Nat) (B : Nat) (seen : List Nat) (sv : Value) (hsv : w.ownsRow B 3 1 sv seen.length (ints seen)) (hB : B ≤ w.heap.size) (hs : seen.length ≤ 3999) :
    Calls Tryz.prog 107 #[.agg #[.string ⟨#[]⟩, .int .i64 n, .slice none 0 0], sv] w fun e w' => ∃ sv', e = .returned (.tuple #[.string ⟨(wvar n seen).1.toArray⟩, sv']) ∧ Appended w B 3 1 sv (wvar n seen).2.length (ints (wvar n seen).2) sv' w' := by
  obtain ⟨sa, scap, rfl⟩ := owns_slice hsv
  have Hsv := hide' hsv
  clear hsv
  go_enter Tryz.func107, Tryz.ntmps107
  go_wp2
  go_loopw [6] (fun i wr => ∃ k : Nat, k ≤ seen.length ∧ i = .int .i64 k ∧ n ∉ seen.take k ∧ Kept noBlock w wr ∧ wr.heap[w.heap.size]? = some (.cells #[.string ⟨#[]⟩, .int .i64 n, .slice none 0 0] 183 (0, 0))) (fun i _ => seen.length - (intOf i).toNat)
  case atStart => exact ⟨0, Nat.zero_le _, rfl, by simp, (Kept.refl _ w).alloc _, heap_alloc_new w _⟩
  case round =>
    obtain ⟨k, hk, rfl, hnot, hkept, hbox⟩ := hrel
    have Hnot := hide' hnot
    have Hkept := hide' hkept
    have Hbox := hide' hbox
    have Hsvr := hide' (hkept.owns Hsv.out (fun _ _ h => h))
    have b1 : wr.cell? ⟨w.heap.size, 1, none⟩ = some (.int .i64 n) := cell_of_block hbox 1 _ rfl
    have hsz := hkept.size
    clear hnot hkept hbox
    by_cases hlt : k < seen.length
    · obtain ⟨g, cap', cur, he, hBg, hg, hcp⟩ := owns_some Hsvr.out (by omega)
      simp only [Value.slice.injEq] at he
      obtain ⟨rfl, _, rfl⟩ := he
      obtain ⟨m, hm⟩ : ∃ m, m = seen[k] := ⟨_, rfl⟩
      have hc : wr.cell? ⟨g, k, none⟩ = some (.int .i64 m) := owns_cell Hsvr.out k _ (by simp [ints, hlt, hm])
      have Hm := hide' hm
      clear hg hm
      cases hmn : ((m : Int) == (n : Int))
      · have hq : ¬ m = n := by
          have := beq_eq_false_iff_ne.1 hmn
          omega
        go_wp2_with fail
        go_quiet (fail)
        go_wp2_with fail
        go_roundw
        case rel => exact ⟨k + 1, by omega, by go_num, seen_on hlt (fun h => hq (Hm.out.trans h)) Hnot.out, ⟨Hkept.out.os, Hkept.out.tape, Hkept.out.output, Hkept.out.size, Hkept.out.block⟩, Hbox.out⟩
        case measure => simp [intOf]; omega
      · have hq : m = n := by
          have := eq_of_beq hmn
          omega
        have Hw := hide' (wvar_hit hlt (Hm.out.symm.trans hq) Hnot.out)
        clear hq
        go_wp2_with fail
        go_quiet (fail)
        go_wp2_with fail
        refine (called_any k _ (by omega)).mono ?_
        rintro e w' ⟨rfl, rfl⟩
        go_wp2_with fail
        go_ret2
        rw [Hw.out]
        exact ⟨_, rfl, ⟨Hsvr.out, (Hkept.out.drewN _).mono (fun _ _ h => h.elim), Or.inl rfl⟩⟩
    · have Hw := hide' (wvar_miss hlt Hnot.out)
      go_wp2_with fail
      refine (called_any seen.length _ (by omega)).mono ?_
      rintro e w' ⟨rfl, rfl⟩
      go_wp2_with (at_builtin; refine wpList_append1 _ rfl (.tmp 36) (.tmp 39) 25 rfl B 3 Tryz.infoInt Tryz.underlying25 rfl (by decide) _ seen.length (ints seen) rfl Hsvr.out _ rfl rfl rfl (int_one _) ?_ ?_ ?_)
      · omega
      · omega
      intro v' w1 hap
      have Hap := hide' hap
      clear hap
      go_wp2
      go_ret2
      rw [Hw.out]
      refine ⟨v', rfl, ?_⟩
      have h := Hap.out.around (S := noBlock) (Hkept.out.mono (fun _ _ h => h.elim)) (fun k e => (Hsv.out.lt k e).2) (Kept.refl _ _) (fun _ h => h.elim) (fun _ _ h => h)
      simpa [ints] using h

set_option maxRecDepth 10000 in
set_option maxHeartbeats 1000000 in
theorem written_name (w : World) (nm : List UInt8) (hnm : nm ≠ []) (c : Value) (B : Nat) (seen : List Nat) (sv : Value) (lo : Nat) (xs : List Value) (hc : w.ownsRow lo 183 3 c 0 xs) (hsv : w.ownsRow B 3 1 sv seen.length (ints seen)) :
    Calls Tryz.prog 107 #[.agg #[.string ⟨nm.toArray⟩, .int .i64 0, c], sv] w fun e w' => ∃ sv', e = .returned (.tuple #[.string ⟨nm.toArray⟩, sv']) ∧ Appended w B 3 1 sv seen.length (ints seen) sv' w' := by
  obtain ⟨sa, scap, rfl⟩ := owns_slice hsv
  obtain ⟨ca, ccap, rfl⟩ := owns_slice hc
  have Hsv := hide' hsv
  clear hsv hc
  have he : nm.isEmpty = false := by simpa using hnm
  go_enter Tryz.func107, Tryz.ntmps107
  go_wp2
  go_ret2
  exact ⟨_, rfl, ⟨Hsv.out.alloc _, (Kept.refl _ w).alloc _, Or.inl rfl⟩⟩

set_option maxRecDepth 10000 in
set_option maxHeartbeats 1000000 in
theorem written_args (f : Nat) (IH : WrittenSaid f) (w : World) (nm : List UInt8) (hnm : nm ≠ []) (c : Value) (B : Nat) (seen : List Nat) (sv : Value) (lo hi : Nat) (xs : List Value) (ls : List (List Sym)) (hls : ls ≠ [])
    (hc : w.ownsRow lo 183 3 c ls.length xs) (hk : ∀ (i : Nat) (l' : List Sym), ls[i]? = some l' → ∃ a' b' c', xs[i * 3]? = some a' ∧ xs[i * 3 + 1]? = some b' ∧ xs[i * 3 + 2]? = some c' ∧ RepT f w lo hi a' b' c' l')
    (hsv : w.ownsRow B 3 1 sv seen.length (ints seen)) (hB : B ≤ w.heap.size) (hn : nm.length ≤ 4096) (hsn : ∀ s ∈ ls.flatten, s.name.length ≤ 4096) (hsl : seen.length + ls.flatten.length ≤ 3999) :
    Calls Tryz.prog 107 #[.agg #[.string ⟨nm.toArray⟩, .int .i64 0, c], sv] w fun e w' => ∃ sv', e = .returned (.tuple #[.string ⟨(nm ++ (wkids f 40 ls seen).1 ++ [41]).toArray⟩, sv']) ∧
      Appended w B 3 1 sv (wkids f 40 ls seen).2.length (ints (wkids f 40 ls seen).2) sv' w' := by
  obtain ⟨sa, scap, rfl⟩ := owns_slice hsv
  obtain ⟨g, ccap, ccur, rfl, hgl, hgb, hgc⟩ := owns_some hc (by cases ls with | nil => exact absurd rfl hls | cons _ _ => simp)
  have Hsv := hide' hsv
  have Hc := hide' hc
  have Hk := hide' hk
  have Hih := hide' IH
  have he : nm.isEmpty = false := by simpa using hnm
  have hl0 : (((ls.length : Nat) : Int) == 0) = false := by
    rw [beq_eq_false_iff_ne]
    cases ls with
    | nil => exact absurd rfl hls
    | cons _ _ => simp; omega
  have Hisf : Hid (∀ l' ∈ ls, IsT f l') := fun l' hl => by
    obtain ⟨i, hi, rfl⟩ := List.getElem_of_mem hl
    obtain ⟨a', b', c', _, _, _, g⟩ := hk i _ (List.getElem?_eq_getElem hi)
    exact g.isT f
  have hfl := flat_len f ls Hisf.out
  have Hlen := hide' (wkids_len f (wterm_len f) ls Hisf.out hsn 40 seen (by omega))
  clear hsv hc hk IH hgb
  go_enter Tryz.func107, Tryz.ntmps107
  go_wp2
  go_loopw [1, 9, 10] (fun sl tx i wr => ∃ (k : Nat) (sk : List Nat) (dt : List UInt8), k ≤ ls.length ∧ i = .int .i64 k ∧ tx = .string ⟨(nm ++ dt).toArray⟩ ∧
      dt ++ (wkids f (if k = 0 then 40 else 44) (ls.drop k) sk).1 = (wkids f 40 ls seen).1 ∧ (wkids f (if k = 0 then 40 else 44) (ls.drop k) sk).2 = (wkids f 40 ls seen).2 ∧
      sk.length + (ls.drop k).flatten.length ≤ 3999 ∧ Appended w B 3 1 (.slice sa seen.length scap) sk.length (ints sk) sl wr ∧
      wr.heap[w.heap.size]? = some (.cells #[.string ⟨nm.toArray⟩, .int .i64 0, .slice (some ⟨g, 0, none⟩) ls.length ccap] 183 (0, 0))) (fun _ _ i _ => ls.length - (intOf i).toNat)
  case atStart => exact ⟨0, seen, [], Nat.zero_le _, rfl, by simp, by simp, by simp, by simpa using hsl, ⟨Hsv.out.alloc _, (Kept.refl _ w).alloc _, Or.inl rfl⟩, heap_alloc_new w _⟩
  case round =>
    obtain ⟨k, sk, dt, hk, rfl, rfl, hdt, hsd, hsk, hap, hbox⟩ := hrel
    obtain ⟨ska, skcap, rfl⟩ := owns_slice hap.owns
    have b0 : wr.cell? ⟨w.heap.size, 0, none⟩ = some (.string ⟨nm.toArray⟩) := cell_of_block hbox 0 _ rfl
    have b2 : wr.cell? ⟨w.heap.size, 2, none⟩ = some (.slice (some ⟨g, 0, none⟩) ls.length ccap) := cell_of_block hbox 2 _ rfl
    have hdl : dt.length ≤ 50000000 := by
      have h1 := congrArg List.length hdt
      have h2 := Hlen.out
      simp only [List.length_append] at h1
      omega
    have Hap := hide' hap
    have Hbox := hide' hbox
    have Hdt := hide' hdt
    have Hsd := hide' hsd
    have hszr := hap.kept.size
    clear hap hbox hdt hsd
    by_cases hlt : k < ls.length
    · obtain ⟨l', hl'⟩ : ∃ l', ls[k]? = some l' := ⟨_, List.getElem?_eq_getElem hlt⟩
      have hdk : ls.drop k = l' :: ls.drop (k + 1) := by
        rw [List.drop_eq_getElem_cons hlt]
        rw [(List.getElem?_eq_some_iff.1 hl').2]
      obtain ⟨a', b', c', x0, x1, x2, hrep⟩ := Hk.out k l' hl'
      obtain ⟨s0, n0, c0a, c0l, c0c, rfl, rfl, rfl⟩ := hrep.shape
      have hkeep : ∀ (k : Nat), isTerms w k → wr.heap[k]? = w.heap[k]? := fun k ht => by
        obtain ⟨cur, hcur⟩ := ht
        exact Hap.out.kept.block k (lt_of_block hcur) (owns_apart Hsv.out (by decide) hcur)
      have hcr : wr.ownsRow lo 183 3 (.slice (some ⟨g, 0, none⟩) ls.length ccap) ls.length xs := owns_same Hc.out (fun k e => hkeep k (owns_terms Hc.out k e))
      have hrepr : RepT f wr lo hi _ _ _ l' := hrep.later f (fun k _ _ ht => hkeep k ht)
      have y0 : wr.cell? ⟨g, k * 3, none⟩ = some (.string s0) := owns_cell hcr _ _ x0
      have y1 : wr.cell? ⟨g, k * 3 + 1, none⟩ = some (.int .i64 n0) := owns_cell hcr _ _ x1
      have y2 : wr.cell? ⟨g, k * 3 + 2, none⟩ = some (.slice c0a c0l c0c) := owns_cell hcr _ _ x2
      have hsub : ∀ s ∈ l', s.name.length ≤ 4096 := fun s hs => hsn s (List.mem_flatten.2 ⟨l', List.mem_of_getElem? hl', hs⟩)
      have hsl2 : sk.length + l'.length + (ls.drop (k + 1)).flatten.length ≤ 3999 := by
        rw [hdk] at hsk
        simp only [List.flatten_cons, List.length_append] at hsk
        omega
      have hwl := wterm_len f l' (hrep.isT f) hsub sk (by omega)
      have hwl1 : (wterm f l' sk).1.length ≤ 50000000 := by omega
      have HI := hide' (Hih.out wr lo hi _ _ _ l' B sk _ hrepr Hap.out.owns (by omega) hsub (by omega))
      have Hdk := hide' hdk
      have Hwl := hide' hwl
      clear x0 x1 x2 hrep hkeep hcr hrepr hdk hwl hl'
      go_wp2_with fail
      refine HI.out.mono ?_
      rintro e w1 ⟨sv', rfl, hap1⟩
      obtain ⟨s1a, s1cap, rfl⟩ := owns_slice hap1.owns
      have Hap1 := hide' hap1
      have hbox1 := (hap1.kept.block w.heap.size (lt_of_block Hbox.out) (owns_apart Hap.out.owns (by decide) Hbox.out)).trans Hbox.out
      have Hbox1 := hide' hbox1
      clear hap1 hbox1 y0 y1 y2 b0 b2
      have Hstr : Hid (∀ sep : UInt8, (⟨(nm ++ dt).toArray⟩ : ByteArray) ++ ⟨[sep].toArray⟩ ++ ⟨(wterm f l' sk).1.toArray⟩ = ⟨(nm ++ (dt ++ sep :: (wterm f l' sk).1)).toArray⟩) := fun sep => by
        rw [str_cat, str_cat]; simp
      by_cases h0 : k = 0
      · have hk0 : ((k : Int) == 0) = true := by rw [beq_iff_eq]; omega
        have Hd0 : Hid ((dt ++ 40 :: (wterm f l' sk).1) ++ (wkids f 44 (ls.drop (k + 1)) (wterm f l' sk).2.1).1 = (wkids f 40 ls seen).1 ∧ (wkids f 44 (ls.drop (k + 1)) (wterm f l' sk).2.1).2 = (wkids f 40 ls seen).2) := by
          have h1 := Hdt.out
          have h2 := Hsd.out
          rw [Hdk.out, if_pos h0] at h1 h2
          simp only [wkids] at h1 h2
          exact ⟨by rw [← h1]; simp, h2⟩
        have H0 := hide' h0
        clear h0
        go_wp2
        go_roundw
        case rel => exact ⟨k + 1, (wterm f l' sk).2.1, dt ++ 40 :: (wterm f l' sk).1, by omega, by go_num, by rw [← Hstr.out 40], by simpa using Hd0.out.1, by simpa using Hd0.out.2, by have := Hwl.out; omega, Hap.out.trans Hap1.out, Hbox1.out⟩
        case measure => simp [intOf]; omega
      · have hk0 : ((k : Int) == 0) = false := by rw [beq_eq_false_iff_ne]; omega
        have Hd0 : Hid ((dt ++ 44 :: (wterm f l' sk).1) ++ (wkids f 44 (ls.drop (k + 1)) (wterm f l' sk).2.1).1 = (wkids f 40 ls seen).1 ∧ (wkids f 44 (ls.drop (k + 1)) (wterm f l' sk).2.1).2 = (wkids f 40 ls seen).2) := by
          have h1 := Hdt.out
          have h2 := Hsd.out
          rw [Hdk.out, if_neg h0] at h1 h2
          simp only [wkids] at h1 h2
          exact ⟨by rw [← h1]; simp, h2⟩
        go_wp2
        go_roundw
        case rel => exact ⟨k + 1, (wterm f l' sk).2.1, dt ++ 44 :: (wterm f l' sk).1, by omega, by go_num, by rw [← Hstr.out 44], by simpa using Hd0.out.1, by simpa using Hd0.out.2, by have := Hwl.out; omega, Hap.out.trans Hap1.out, Hbox1.out⟩
        case measure => simp [intOf]; omega
    · have Hend : Hid ((wkids f 40 ls seen) = (dt, sk)) := by
        have h1 := Hdt.out
        have h2 := Hsd.out
        rw [List.drop_eq_nil_of_le (by omega)] at h1 h2
        simp only [wkids, List.append_nil] at h1 h2
        show _ = _
        rw [h1, h2]
      go_wp2
      go_ret2
      rw [Hend.out]
      refine ⟨_, ?_, Hap.out⟩
      show Ending.returned (.tuple #[.string ((⟨(nm ++ dt).toArray⟩ : ByteArray) ++ ⟨[41].toArray⟩), .slice ska sk.length skcap]) = _
      rw [str_cat]

theorem written_any : ∀ f, WrittenSaid f := by
  intro f
  induction f with
  | zero => intro w lo hi a b c l B seen sv h; exact h.elim
  | succ f ih =>
    intro w lo hi a b c l B seen sv h hsv hB hn hs
    have hT := h.isT
    rcases h with ⟨n, rfl, rfl, rfl, rfl⟩ | ⟨nm, ls, xs, h1, rfl, rfl, rfl, h5, h6, h7⟩
    · have hw : wterm (f + 1) [⟨[], n, 0⟩] seen = ((wvar n seen).1, (wvar n seen).2, []) := by simp [wterm]
      rw [hw]
      exact written_var w n B seen sv hsv hB (by simp at hs; omega)
    · by_cases hl : ls = []
      · subst hl
        have hw : wterm (f + 1) (⟨nm, 0, ([] : List (List Sym)).length⟩ :: ([] : List (List Sym)).flatten) seen = (nm, seen, []) := by simp [wterm, h1]
        rw [hw]
        exact written_name w nm h1 c B seen sv lo xs h5 hsv
      · have hT2 : ∀ l' ∈ ls, IsT f l' := fun l' hl => by
          obtain ⟨i, hi, rfl⟩ := List.getElem_of_mem hl
          obtain ⟨a', b', c', _, _, _, g⟩ := h7 i _ (List.getElem?_eq_getElem hi)
          exact g.isT f
        rw [wterm_name f nm ls h1 hT2 hl]
        exact written_args f ih w nm h1 c B seen sv lo hi xs ls hl h5 h7 hsv hB (hn _ (List.mem_cons_self ..)) (fun s hs => hn s (List.mem_cons_of_mem _ hs)) (by simp at hs ⊢; omega)

end Go.Proofs.YtlmjilpjmgjjcaaGreatDoor
