/-
  PROVED HERE: what the reference's method 'follows' does to a Look in memory (the conditions stand in the statement).
-/
import Derived.Test.YtcbckkenifmchaaGreatDoorRefTerm
namespace Go.Proofs.YtcbckkenifmchaaGreatDoor
open Go.RowKit
set_option linter.unusedSimpArgs false
set_option linter.unusedVariables false

theorem Tryz.infoInt : (Tryz.prog.info? 3).map (fun i => (i.zero, i.size, i.bytes)) = some (some (.int .i64 0), 1, 8) := by kernel_rfl

def lfollows (L : LookS) (kd : Nat) : LookS :=
  if kd = 40 ∧ L.want = 3 then { L with stk := 0 :: L.stk, want := 2 }
  else if kd = 44 ∧ L.stk ≠ [] then { L with want := 2 }
  else if kd = 41 ∧ L.stk ≠ [] then { L with stk := L.stk.tail, want := 4 }
  else if L.stk ≠ [] then { L with err := 2 }
  else if kd = 44 ∧ L.body = true then { L with want := 1 }
  else if kd = 3 ∧ L.body = false then { L with body := true, goals := 0, want := 1 }
  else if kd = 46 ∧ L.query = true then { L with want := 5 }
  else if kd = 46 then { L with want := 0 }
  else { L with err := 2 }

theorem owns_slice {w : World} {B : Nat} {e : TypeId} {size n : Nat} {v : Value} {xs : List Value} (h : w.ownsRow B e size v n xs) : ∃ a cap, v = .slice a n cap := by
  rcases h.2 with ⟨rfl, rfl⟩ | ⟨g, cap, cur, rfl, _⟩
  · exact ⟨none, 0, rfl⟩
  · exact ⟨_, _, rfl⟩
theorem int_one (x : Int) : ∀ u ∈ (#[Value.int .i64 x] : Array Value).toList, u.oneCell' = true := by
  intro u hu
  simp at hu
  subst hu
  rfl
theorem owns_pop {w : World} {B : Nat} {e : TypeId} {g n cap : Nat} {xs : List Value} (h : w.ownsRow B e 1 (.slice (some ⟨g, 0, none⟩) (n + 1) cap) (n + 1) xs) :
    w.ownsRow B e 1 (.slice (some ⟨g, 0, none⟩) n cap) n (xs.take n) := by
  refine ⟨by have := h.1; simp at this ⊢; omega, ?_⟩
  rcases h.2 with ⟨h1, _⟩ | ⟨g', cap', cur, h1, hb, hg, hn, hc, hs, ht⟩
  · simp at h1
  · simp at h1
    obtain ⟨rfl, rfl⟩ := h1
    refine .inr ⟨g, cap, cur, rfl, hb, hg, by omega, hc, hs, ?_⟩
    rw [← ht, List.take_take]
    congr 1
    omega
theorem IsLook.below {w W : World} {B b : Nat} {L L' : LookS} {ov : Value} {cs : Array Value} (h : IsLook w B b L ov) (hBb : B ≤ b) (hk : Kept (only b) w W) (hblk : W.heap[b]? = some (.cells cs 162 (0, 0)))
    (hcs : cs = lookCells L' ov) (hst : L'.stk = L.stk) : ∃ ov', Kept (lookSet b ov) w W ∧ IsLook W B b L' ov' :=
  ⟨ov, hk.mono (fun _ _ e => Or.inl e), h.from hk hblk hcs hst⟩

set_option maxRecDepth 10000 in
set_option maxHeartbeats 400000 in
theorem follows_comma (w : World) (B b : Nat) (L : LookS) (ov : Value) (ps : Int) (tx : ByteArray) (h : IsLook w B b L ov) (hBb : B ≤ b) (hL : L.stk.length ≤ 4096) :
    Calls Tryz.prog 85 #[.pointer (some ⟨b, 0, none⟩), .agg #[.int .i64 44, .string tx, .int .i64 ps]] w fun e w' =>
      e = .returned (.tuple #[]) ∧ ∃ ov', Kept (lookSet b ov) w w' ∧ IsLook w' B b (lfollows L 44) ov' := by
  obtain ⟨hb, ⟨c0, c1, c2, c3, c4, c5, c6, c7⟩, hf⟩ := h.facts
  have Hlook := hide' h
  obtain ⟨sa, scap, rfl⟩ := owns_slice h.opn
  clear h
  cases hstk : L.stk with
  | nil =>
    simp only [hstk, List.length_nil] at c3 Hlook
    have Hst := hide' hstk
    clear hstk
    cases hbd : L.body
    · rw [hbd] at c2
      have Hbd := hide' hbd
      clear hbd
      go_enter Tryz.func85, Tryz.ntmps85
      go_wp2
      go_end0
      exact ⟨rfl, Hlook.out.below hBb (((Kept.refl (only b) w).put 7 _).alloc _) (block_alloc (block_set Hlook.out.blk 7 _) _) (by simp [lookCells, lfollows, Hst.out, Hbd.out]) (by simp [lfollows, Hst.out, Hbd.out])⟩
    · rw [hbd] at c2
      have Hbd := hide' hbd
      clear hbd
      go_enter Tryz.func85, Tryz.ntmps85
      go_wp2
      go_end0
      exact ⟨rfl, Hlook.out.below hBb (((Kept.refl (only b) w).put 0 _).alloc _) (block_alloc (block_set Hlook.out.blk 0 _) _) (by simp [lookCells, lfollows, Hst.out, Hbd.out]) (by simp [lfollows, Hst.out, Hbd.out])⟩
  | cons sn sr =>
    have hsl : sr.length + 1 ≤ 4096 := by rw [hstk] at hL; simpa using hL
    simp only [hstk, List.length_cons] at c3 Hlook
    have Hst := hide' hstk
    clear hstk
    go_enter Tryz.func85, Tryz.ntmps85
    go_wp2
    go_end0
    exact ⟨rfl, Hlook.out.below hBb (((Kept.refl (only b) w).put 0 _).alloc _) (block_alloc (block_set Hlook.out.blk 0 _) _) (by simp [lookCells, lfollows, Hst.out]) (by simp [lfollows, Hst.out])⟩

set_option maxRecDepth 10000 in
set_option maxHeartbeats 400000 in
theorem follows_arrow (w : World) (B b : Nat) (L : LookS) (ov : Value) (ps : Int) (tx : ByteArray) (h : IsLook w B b L ov) (hBb : B ≤ b) (hL : L.stk.length ≤ 4096) :
    Calls Tryz.prog 85 #[.pointer (some ⟨b, 0, none⟩), .agg #[.int .i64 3, .string tx, .int .i64 ps]] w fun e w' =>
      e = .returned (.tuple #[]) ∧ ∃ ov', Kept (lookSet b ov) w w' ∧ IsLook w' B b (lfollows L 3) ov' := by
  obtain ⟨hb, ⟨c0, c1, c2, c3, c4, c5, c6, c7⟩, hf⟩ := h.facts
  have Hlook := hide' h
  obtain ⟨sa, scap, rfl⟩ := owns_slice h.opn
  clear h
  cases hstk : L.stk with
  | nil =>
    simp only [hstk, List.length_nil] at c3 Hlook
    have Hst := hide' hstk
    clear hstk
    cases hbd : L.body
    · rw [hbd] at c2
      have Hbd := hide' hbd
      clear hbd
      go_enter Tryz.func85, Tryz.ntmps85
      go_wp2
      go_end0
      exact ⟨rfl, Hlook.out.below hBb (((((Kept.refl (only b) w).put 2 _).put 5 _).put 0 _).alloc _) (block_alloc (block_set (block_set (block_set Hlook.out.blk 2 _) 5 _) 0 _) _) (by simp [lookCells, lfollows, Hst.out, Hbd.out]) (by simp [lfollows, Hst.out, Hbd.out])⟩
    · rw [hbd] at c2
      have Hbd := hide' hbd
      clear hbd
      go_enter Tryz.func85, Tryz.ntmps85
      go_wp2
      go_end0
      exact ⟨rfl, Hlook.out.below hBb (((Kept.refl (only b) w).put 7 _).alloc _) (block_alloc (block_set Hlook.out.blk 7 _) _) (by simp [lookCells, lfollows, Hst.out, Hbd.out]) (by simp [lfollows, Hst.out, Hbd.out])⟩
  | cons sn sr =>
    have hsl : sr.length + 1 ≤ 4096 := by rw [hstk] at hL; simpa using hL
    simp only [hstk, List.length_cons] at c3 Hlook
    have Hst := hide' hstk
    clear hstk
    go_enter Tryz.func85, Tryz.ntmps85
    go_wp2
    go_end0
    exact ⟨rfl, Hlook.out.below hBb (((Kept.refl (only b) w).put 7 _).alloc _) (block_alloc (block_set Hlook.out.blk 7 _) _) (by simp [lookCells, lfollows, Hst.out]) (by simp [lfollows, Hst.out])⟩

set_option maxRecDepth 10000 in
set_option maxHeartbeats 400000 in
theorem follows_dot (w : World) (B b : Nat) (L : LookS) (ov : Value) (ps : Int) (tx : ByteArray) (h : IsLook w B b L ov) (hBb : B ≤ b) (hL : L.stk.length ≤ 4096) :
    Calls Tryz.prog 85 #[.pointer (some ⟨b, 0, none⟩), .agg #[.int .i64 46, .string tx, .int .i64 ps]] w fun e w' =>
      e = .returned (.tuple #[]) ∧ ∃ ov', Kept (lookSet b ov) w w' ∧ IsLook w' B b (lfollows L 46) ov' := by
  obtain ⟨hb, ⟨c0, c1, c2, c3, c4, c5, c6, c7⟩, hf⟩ := h.facts
  have Hlook := hide' h
  obtain ⟨sa, scap, rfl⟩ := owns_slice h.opn
  clear h
  cases hstk : L.stk with
  | nil =>
    simp only [hstk, List.length_nil] at c3 Hlook
    have Hst := hide' hstk
    clear hstk
    cases hqu : L.query
    · rw [hqu] at c1
      have Hqu := hide' hqu
      clear hqu
      go_enter Tryz.func85, Tryz.ntmps85
      go_wp2
      go_end0
      exact ⟨rfl, Hlook.out.below hBb (((Kept.refl (only b) w).put 0 _).alloc _) (block_alloc (block_set Hlook.out.blk 0 _) _) (by simp [lookCells, lfollows, Hst.out, Hqu.out]) (by simp [lfollows, Hst.out, Hqu.out])⟩
    · rw [hqu] at c1
      have Hqu := hide' hqu
      clear hqu
      go_enter Tryz.func85, Tryz.ntmps85
      go_wp2
      go_end0
      exact ⟨rfl, Hlook.out.below hBb (((Kept.refl (only b) w).put 0 _).alloc _) (block_alloc (block_set Hlook.out.blk 0 _) _) (by simp [lookCells, lfollows, Hst.out, Hqu.out]) (by simp [lfollows, Hst.out, Hqu.out])⟩
  | cons sn sr =>
    have hsl : sr.length + 1 ≤ 4096 := by rw [hstk] at hL; simpa using hL
    simp only [hstk, List.length_cons] at c3 Hlook
    have Hst := hide' hstk
    clear hstk
    go_enter Tryz.func85, Tryz.ntmps85
    go_wp2
    go_end0
    exact ⟨rfl, Hlook.out.below hBb (((Kept.refl (only b) w).put 7 _).alloc _) (block_alloc (block_set Hlook.out.blk 7 _) _) (by simp [lookCells, lfollows, Hst.out]) (by simp [lfollows, Hst.out])⟩

set_option maxRecDepth 10000 in
set_option maxHeartbeats 400000 in
theorem follows_opennot (w : World) (B b : Nat) (L : LookS) (ov : Value) (ps : Int) (tx : ByteArray) (h : IsLook w B b L ov) (hBb : B ≤ b) (hL : L.stk.length ≤ 4096) (hw : L.want ≠ 3) :
    Calls Tryz.prog 85 #[.pointer (some ⟨b, 0, none⟩), .agg #[.int .i64 40, .string tx, .int .i64 ps]] w fun e w' =>
      e = .returned (.tuple #[]) ∧ ∃ ov', Kept (lookSet b ov) w w' ∧ IsLook w' B b (lfollows L 40) ov' := by
  obtain ⟨hb, ⟨c0, c1, c2, c3, c4, c5, c6, c7⟩, hf⟩ := h.facts
  have Hlook := hide' h
  obtain ⟨sa, scap, rfl⟩ := owns_slice h.opn
  clear h
  have hw3 : ((L.want : Int) == 3) = false := by rw [beq_eq_false_iff_ne]; omega
  have Hw := hide' hw
  clear hw
  cases hstk : L.stk with
  | nil =>
    simp only [hstk, List.length_nil] at c3 Hlook
    have Hst := hide' hstk
    clear hstk
    go_enter Tryz.func85, Tryz.ntmps85
    go_wp2
    go_end0
    exact ⟨rfl, Hlook.out.below hBb (((Kept.refl (only b) w).put 7 _).alloc _) (block_alloc (block_set Hlook.out.blk 7 _) _) (by simp [lookCells, lfollows, Hst.out, Hw.out]) (by simp [lfollows, Hst.out, Hw.out])⟩
  | cons sn sr =>
    have hsl : sr.length + 1 ≤ 4096 := by rw [hstk] at hL; simpa using hL
    simp only [hstk, List.length_cons] at c3 Hlook
    have Hst := hide' hstk
    clear hstk
    go_enter Tryz.func85, Tryz.ntmps85
    go_wp2
    go_end0
    exact ⟨rfl, Hlook.out.below hBb (((Kept.refl (only b) w).put 7 _).alloc _) (block_alloc (block_set Hlook.out.blk 7 _) _) (by simp [lookCells, lfollows, Hst.out, Hw.out]) (by simp [lfollows, Hst.out, Hw.out])⟩

set_option maxRecDepth 10000 in
set_option maxHeartbeats 400000 in
theorem follows_close (w : World) (B b : Nat) (L : LookS) (ov : Value) (ps : Int) (tx : ByteArray) (h : IsLook w B b L ov) (hBb : B ≤ b) (hL : L.stk.length ≤ 4096) :
    Calls Tryz.prog 85 #[.pointer (some ⟨b, 0, none⟩), .agg #[.int .i64 41, .string tx, .int .i64 ps]] w fun e w' =>
      e = .returned (.tuple #[]) ∧ ∃ ov', Kept (lookSet b ov) w w' ∧ IsLook w' B b (lfollows L 41) ov' := by
  obtain ⟨hb, ⟨c0, c1, c2, c3, c4, c5, c6, c7⟩, hf⟩ := h.facts
  have Hlook := hide' h
  obtain ⟨sa, scap, rfl⟩ := owns_slice h.opn
  clear h
  cases hstk : L.stk with
  | nil =>
    simp only [hstk, List.length_nil] at c3 Hlook
    have Hst := hide' hstk
    clear hstk
    go_enter Tryz.func85, Tryz.ntmps85
    go_wp2
    go_end0
    exact ⟨rfl, Hlook.out.below hBb (((Kept.refl (only b) w).put 7 _).alloc _) (block_alloc (block_set Hlook.out.blk 7 _) _) (by simp [lookCells, lfollows, Hst.out]) (by simp [lfollows, Hst.out])⟩
  | cons sn sr =>
    have hsl : sr.length + 1 ≤ 4096 := by rw [hstk] at hL; simpa using hL
    simp only [hstk, List.length_cons] at c3 Hlook
    have Hst := hide' hstk
    clear hstk
    obtain ⟨sg, scap', scur, he, hBg, hg, hcp⟩ := owns_some Hlook.out.opn (by rw [Hst.out]; simp)
    simp only [Value.slice.injEq] at he
    obtain ⟨rfl, _, rfl⟩ := he
    rw [Hst.out] at hcp
    simp only [List.length_cons] at hcp
    clear hg
    go_enter Tryz.func85, Tryz.ntmps85
    go_wp2
    go_end0
    have hop := Hlook.out.opn
    refine ⟨rfl, .slice (some ⟨sg, 0, none⟩) sr.length scap, ?_, ?_, ?_⟩
    · exact ((((Kept.refl (only b) w).put 3 _).put 0 _).alloc _).mono (fun _ _ e => Or.inl e)
    · rw [block_alloc (block_set (block_set Hlook.out.blk 3 _) 0 _) _]
      simp [lookCells, lfollows, Hst.out]
    · have h2 : w.ownsRow B 3 1 (.slice (some ⟨sg, 0, none⟩) sr.length scap) sr.length (ints sr.reverse) := by
        rw [Hst.out] at hop
        have h3 := owns_pop (n := sr.length) hop
        have e : (ints (sn :: sr).reverse).take sr.length = ints sr.reverse := by simp [ints]
        rwa [e] at h3
      have h4 : (lfollows L 41).stk = sr := by simp [lfollows, Hst.out]
      rw [h4]
      exact ((((Kept.refl (only b) w).put 3 _).put 0 _).alloc _).owns h2 (fun k hk => Hlook.out.apart k (by simpa [Value.ownBlock] using hk))

set_option maxRecDepth 10000 in
set_option maxHeartbeats 400000 in
theorem follows_other (w : World) (B b : Nat) (L : LookS) (ov : Value) (kd : Nat) (ps : Int) (tx : ByteArray) (h : IsLook w B b L ov) (hBb : B ≤ b) (hL : L.stk.length ≤ 4096) (hk : kd ≠ 40 ∧ kd ≠ 41 ∧ kd ≠ 44 ∧ kd ≠ 46 ∧ kd ≠ 3) :
    Calls Tryz.prog 85 #[.pointer (some ⟨b, 0, none⟩), .agg #[.int .i64 kd, .string tx, .int .i64 ps]] w fun e w' =>
      e = .returned (.tuple #[]) ∧ ∃ ov', Kept (lookSet b ov) w w' ∧ IsLook w' B b (lfollows L kd) ov' := by
  obtain ⟨hb, ⟨c0, c1, c2, c3, c4, c5, c6, c7⟩, hf⟩ := h.facts
  have Hlook := hide' h
  obtain ⟨sa, scap, rfl⟩ := owns_slice h.opn
  clear h
  have k1 : ((kd : Int) == 40) = false := by rw [beq_eq_false_iff_ne]; omega
  have k2 : ((kd : Int) == 41) = false := by rw [beq_eq_false_iff_ne]; omega
  have k3 : ((kd : Int) == 44) = false := by rw [beq_eq_false_iff_ne]; omega
  have k4 : ((kd : Int) == 46) = false := by rw [beq_eq_false_iff_ne]; omega
  have k5 : ((kd : Int) == 3) = false := by rw [beq_eq_false_iff_ne]; omega
  have Hk := hide' hk
  clear hk
  cases hstk : L.stk with
  | nil =>
    simp only [hstk, List.length_nil] at c3 Hlook
    have Hst := hide' hstk
    clear hstk
    go_enter Tryz.func85, Tryz.ntmps85
    go_wp2
    go_end0
    exact ⟨rfl, Hlook.out.below hBb (((Kept.refl (only b) w).put 7 _).alloc _) (block_alloc (block_set Hlook.out.blk 7 _) _) (by simp [lookCells, lfollows, Hst.out, Hk.out]) (by simp [lfollows, Hst.out, Hk.out])⟩
  | cons sn sr =>
    have hsl : sr.length + 1 ≤ 4096 := by rw [hstk] at hL; simpa using hL
    simp only [hstk, List.length_cons] at c3 Hlook
    have Hst := hide' hstk
    clear hstk
    go_enter Tryz.func85, Tryz.ntmps85
    go_wp2
    go_end0
    exact ⟨rfl, Hlook.out.below hBb (((Kept.refl (only b) w).put 7 _).alloc _) (block_alloc (block_set Hlook.out.blk 7 _) _) (by simp [lookCells, lfollows, Hst.out, Hk.out]) (by simp [lfollows, Hst.out, Hk.out])⟩

end Go.Proofs.YtcbckkenifmchaaGreatDoor
