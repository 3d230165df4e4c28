/-
  PROVED HERE: what the reference's methods 'sized', 'begins', 'follows' do to a Look in memory, and nothing else (their conditions stand in each statement).
-/
import Derived.Test.YtcbckkenifmchaaGreatDoorRefToks
namespace Go.Proofs.YtcbckkenifmchaaGreatDoor
open Go.RowKit

/-- How far a text has been looked over; 'stk': of each open bracket how many arguments have begun, the innermost first. -/
structure LookS where
  want : Nat
  query : Bool
  body : Bool
  stk : List Nat
  size : Nat
  goals : Nat
  heads : Nat
  err : Nat

def lookCells (L : LookS) (ov : Value) : Array Value :=
  #[.int .i64 L.want, .bool L.query, .bool L.body, ov, .int .i64 L.size, .int .i64 L.goals, .int .i64 L.heads, .int .i64 L.err]
def ints (l : List Nat) : List Value := l.map fun (n : Nat) => Value.int .i64 n

structure IsLook (w : World) (B b : Nat) (L : LookS) (ov : Value) : Prop where
  blk : w.heap[b]? = some (.cells (lookCells L ov) 162 (0, 0))
  opn : w.ownsRow B 3 1 ov L.stk.length (ints L.stk.reverse)

theorem cell_of_block {w : World} {b : Nat} {cs : Array Value} {T : TypeId} (h : w.heap[b]? = some (.cells cs T (0, 0))) (i : Nat) (v : Value) (hv : cs[i]? = some v) :
    w.cell? ⟨b, i, none⟩ = some v := by simp [World.cell?, h, hv]
theorem thawed_of_block {w : World} {b : Nat} {cs : Array Value} {T : TypeId} (h : w.heap[b]? = some (.cells cs T (0, 0))) (i : Nat) : w.frozen? ⟨b, i, none⟩ = false := by
  simp [World.frozen?, h]
theorem lt_of_block {w : World} {b : Nat} {o : Obj} (h : w.heap[b]? = some o) : b < w.heap.size := (Array.getElem?_eq_some_iff.1 h).1
theorem block_set {w : World} {b : Nat} {cs : Array Value} {T : TypeId} (h : w.heap[b]? = some (.cells cs T (0, 0))) (i : Nat) (v : Value) :
    (w.setCell ⟨b, i, none⟩ v).heap[b]? = some (.cells (cs.setIfInBounds i v) T (0, 0)) := by
  simp [World.setCell, Array.getElem?_modify, h]
theorem block_alloc {w : World} {b : Nat} {o : Obj} (h : w.heap[b]? = some o) (o' : Obj) : (w.alloc o').heap[b]? = some o := by
  rw [Below.heap_alloc _ _ _ (lt_of_block h)]; exact h

/-- What a walk wants to know of a Look's cells. -/
theorem IsLook.facts {w : World} {B b : Nat} {L : LookS} {ov : Value} (h : IsLook w B b L ov) :
    b < w.heap.size ∧ (w.cell? ⟨b, 0, none⟩ = some (.int .i64 L.want) ∧ w.cell? ⟨b, 1, none⟩ = some (.bool L.query) ∧ w.cell? ⟨b, 2, none⟩ = some (.bool L.body) ∧ w.cell? ⟨b, 3, none⟩ = some ov ∧
      w.cell? ⟨b, 4, none⟩ = some (.int .i64 L.size) ∧ w.cell? ⟨b, 5, none⟩ = some (.int .i64 L.goals) ∧ w.cell? ⟨b, 6, none⟩ = some (.int .i64 L.heads) ∧ w.cell? ⟨b, 7, none⟩ = some (.int .i64 L.err)) ∧
    (∀ i, w.frozen? ⟨b, i, none⟩ = false) :=
  ⟨lt_of_block h.blk, ⟨cell_of_block h.blk 0 _ rfl, cell_of_block h.blk 1 _ rfl, cell_of_block h.blk 2 _ rfl, cell_of_block h.blk 3 _ rfl, cell_of_block h.blk 4 _ rfl, cell_of_block h.blk 5 _ rfl, cell_of_block h.blk 6 _ rfl, cell_of_block h.blk 7 _ rfl⟩,
    fun i => thawed_of_block h.blk i⟩
/-- The open brackets' row lies in another block. -/
theorem IsLook.apart {w : World} {B b : Nat} {L : LookS} {ov : Value} (h : IsLook w B b L ov) : ∀ k, ov.ownBlock = some k → ¬ k = b := by
  rintro k hk rfl
  rcases h.opn.2 with ⟨rfl, _⟩ | ⟨g, cap, cur, rfl, _, hg, _⟩
  · simp [Value.ownBlock] at hk
  · simp only [Value.ownBlock, Option.some.injEq] at hk
    subst hk
    rw [h.blk] at hg
    simp at hg
theorem IsLook.later {S : Nat → Prop} {w w' : World} {B b : Nat} {L : LookS} {ov : Value} (h : IsLook w B b L ov) (hk : Kept S w w') (hb : ¬ S b) (ho : ∀ k, ov.ownBlock = some k → ¬ S k) : IsLook w' B b L ov :=
  ⟨(hk.block b (lt_of_block h.blk) hb).trans h.blk, hk.owns h.opn ho⟩

/-- One block alone. -/
def only (b : Nat) : Nat → Prop := fun k => k = b
theorem Kept.put {a w : World} {b : Nat} (h : Kept (only b) a w) (i : Nat) (u : Value) : Kept (only b) a (w.setCell ⟨b, i, none⟩ u) := h.setCell (p := ⟨b, i, none⟩) (fun _ => (rfl : b = b)) u

def lsized (L : LookS) (n : Nat) : LookS := { L with size := L.size + 1, err := if 8 < n ∨ 30 < L.size + 1 then 3 else L.err }

set_option maxHeartbeats 400000 in
theorem sized_any (w : World) (B b : Nat) (L : LookS) (ov : Value) (kd ps : Int) (tx : ByteArray) (h : IsLook w B b L ov) (hs : L.size ≤ 4096) (ht : tx.size ≤ 4096) :
    Calls Tryz.prog 114 #[.pointer (some ⟨b, 0, none⟩), .agg #[.int .i64 kd, .string tx, .int .i64 ps]] w fun e w' =>
      e = .returned (.tuple #[]) ∧ Kept (only b) w w' ∧ IsLook w' B b (lsized L tx.size) ov := by
  obtain ⟨hb, ⟨c0, c1, c2, c3, c4, c5, c6, c7⟩, hf⟩ := h.facts
  have fin : ∀ (x : World) (e : Nat), x.heap[b]? = some (.cells (((lookCells L ov).setIfInBounds 4 (.int .i64 (L.size + 1 : Nat))).setIfInBounds 7 (.int .i64 e)) 162 (0, 0)) → e = (lsized L tx.size).err → Kept (only b) w x → IsLook x B b (lsized L tx.size) ov := by
    intro x e hx he hk
    refine ⟨?_, hk.owns h.opn h.apart⟩
    rw [hx, he]
    rfl
  have Hfin := hide' fin
  have Hblk := hide' h.blk
  clear fin h
  by_cases h1 : 8 < tx.size
  · go_enter Tryz.func114, Tryz.ntmps114
    go_wp2
    go_end0
    have hk : Kept (only b) w (((w.setCell ⟨b, 4, none⟩ (.int .i64 (L.size + 1 : Nat))).setCell ⟨b, 7, none⟩ (.int .i64 (3 : Nat))).alloc (.cells #[.int .i64 kd, .string tx, .int .i64 ps] 121)) :=
      (((Kept.refl _ w).put 4 _).put 7 _).alloc _
    exact ⟨rfl, hk, Hfin.out _ 3 (block_alloc (block_set (block_set Hblk.out 4 _) 7 _) _) (by simp [lsized, h1]) hk⟩
  · by_cases h2 : 30 < L.size + 1
    · have h2' : ((30 : Int) < (L.size : Int) + 1) := by omega
      go_enter Tryz.func114, Tryz.ntmps114
      go_wp2
      go_end0
      have hk : Kept (only b) w (((w.setCell ⟨b, 4, none⟩ (.int .i64 (L.size + 1 : Nat))).setCell ⟨b, 7, none⟩ (.int .i64 (3 : Nat))).alloc (.cells #[.int .i64 kd, .string tx, .int .i64 ps] 121)) :=
        (((Kept.refl _ w).put 4 _).put 7 _).alloc _
      exact ⟨rfl, hk, Hfin.out _ 3 (block_alloc (block_set (block_set Hblk.out 4 _) 7 _) _) (by simp [lsized, h1, h2]) hk⟩
    · have h2' : ¬ ((30 : Int) < (L.size : Int) + 1) := by omega
      go_enter Tryz.func114, Tryz.ntmps114
      go_wp2
      go_end0
      have hk : Kept (only b) w ((w.setCell ⟨b, 4, none⟩ (.int .i64 (L.size + 1 : Nat))).alloc (.cells #[.int .i64 kd, .string tx, .int .i64 ps] 121)) :=
        ((Kept.refl _ w).put 4 _).alloc _
      exact ⟨rfl, hk, Hfin.out _ L.err (block_alloc (block_set Hblk.out 4 _) _) (by simp [lsized, h1]; omega) hk⟩

/-- The bounds that the first token of a clause, of an atom or of a term meets. -/
def lstart (L : LookS) : LookS :=
  if L.want = 0 then { L with heads := L.heads + 1, body := false, size := 0, err := if 24 < L.heads + 1 then 3 else L.err }
  else if L.want = 1 then { L with goals := L.goals + 1, size := 0, err := if 6 < L.goals + 1 then 3 else L.err }
  else match L.stk with
    | [] => L
    | n :: r => { L with stk := (n + 1) :: r, err := if 4 < n + 1 then 3 else L.err }
def lbegins (L : LookS) (kd tn : Nat) : LookS :=
  if kd ≠ 1 ∧ (kd ≠ 2 ∨ L.want ≠ 2) then { L with err := 2 } else { lsized (lstart L) tn with want := if kd = 1 then 3 else 4 }

theorem cell_alloc_new (w : World) (cs : Array Value) (T : TypeId) (i : Nat) (v : Value) (h : cs[i]? = some v) : (w.alloc (.cells cs T)).cell? ⟨w.heap.size, i, none⟩ = some v :=
  cell_of_block (heap_alloc_new w _) i v h

theorem box_ne {W : World} {b : Nat} (i : Nat) (h : b < W.heap.size) : ¬ only b (⟨W.heap.size, i, none⟩ : Addr).block := fun e => by have : W.heap.size = b := e; omega
theorem IsLook.from {w W : World} {B b : Nat} {L L' : LookS} {ov : Value} {cs : Array Value} (h : IsLook w B b L ov) (hk : Kept (only b) w W) (hblk : W.heap[b]? = some (.cells cs 162 (0, 0)))
    (hcs : cs = lookCells L' ov) (hst : L'.stk = L.stk) : IsLook W B b L' ov :=
  ⟨by rw [hblk, hcs], by rw [hst]; exact hk.owns h.opn h.apart⟩

end Go.Proofs.YtcbckkenifmchaaGreatDoor
