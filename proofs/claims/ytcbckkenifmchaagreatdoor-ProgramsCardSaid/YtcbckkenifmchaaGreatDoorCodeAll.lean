/-
  PROVED HERE: what the method 'readAll' of the program's reader answers and leaves (the conditions stand in each statement).
-/
import Derived.Test.YtcbckkenifmchaaGreatDoorCodeInv
import Derived.Deep.RegionWith
namespace Go.Proofs.YtcbckkenifmchaaGreatDoor
open Go.RowKit
set_option linter.unusedSimpArgs false
set_option linter.unusedVariables false

/-- A token in its own block; a fault in its own block. -/
def TokAt (w : World) (b : Nat) (t : Nat × Nat × Nat) : Prop := w.heap[b]? = some (.cells #[.int .i64 t.1, .int .i64 t.2.1, .int .i64 t.2.2] 152 (0, 0))
def FaultAt (w : World) (b : Nat) (e p : Nat) : Prop := w.heap[b]? = some (.cells #[.int .i64 e, .int .i64 p] 65 (0, 0))

theorem TokAt.cells {w : World} {b : Nat} {t : Nat × Nat × Nat} (h : TokAt w b t) : b < w.heap.size ∧ w.cell? ⟨b, 0, none⟩ = some (.int .i64 t.1) ∧ w.cell? ⟨b, 1, none⟩ = some (.int .i64 t.2.1) ∧ w.cell? ⟨b, 2, none⟩ = some (.int .i64 t.2.2) ∧ ∀ i, w.frozen? ⟨b, i, none⟩ = false :=
  ⟨lt_of_block h, cell_of_block h 0 _ rfl, cell_of_block h 1 _ rfl, cell_of_block h 2 _ rfl, fun i => thawed_of_block h i⟩
theorem FaultAt.cells {w : World} {b e p : Nat} (h : FaultAt w b e p) : b < w.heap.size ∧ w.cell? ⟨b, 0, none⟩ = some (.int .i64 e) ∧ w.cell? ⟨b, 1, none⟩ = some (.int .i64 p) ∧ ∀ i, w.frozen? ⟨b, i, none⟩ = false :=
  ⟨lt_of_block h, cell_of_block h 0 _ rfl, cell_of_block h 1 _ rfl, fun i => thawed_of_block h i⟩
theorem TokAt.held {w w' : World} {B b : Nat} {t : Nat × Nat × Nat} (h : TokAt w b t) (hk : Held B w w') : TokAt w' b t := (hk.other b _ _ _ h (Or.inl rfl)).trans h
theorem FaultAt.held {w w' : World} {B b e p : Nat} (h : FaultAt w b e p) (hk : Held B w w') : FaultAt w' b e p := (hk.other b _ _ _ h (Or.inr rfl)).trans h
theorem TokAt.kept {S : Nat → Prop} {w w' : World} {b : Nat} {t : Nat × Nat × Nat} (h : TokAt w b t) (hk : Kept S w w') (hs : ¬ S b) : TokAt w' b t := (hk.block b (lt_of_block h) hs).trans h
theorem FaultAt.kept {S : Nat → Prop} {w w' : World} {b e p : Nat} (h : FaultAt w b e p) (hk : Kept S w w') (hs : ¬ S b) : FaultAt w' b e p := (hk.block b (lt_of_block h) hs).trans h
theorem Kept.untouched {w w' : World} (h : Below w.heap.size w w') : Kept noBlock w w' := ⟨h.os, h.tape, h.output, h.size, fun k hk _ => h.block k hk⟩
theorem IsRx.fresh {w w' : World} {B rb : Nat} {st : RS} (h : IsRx w B rb st) (hk : Kept noBlock w w') : IsRx w' B rb st := by
  obtain ⟨V, Sa, Sb, vs, xs, h⟩ := h
  exact ⟨V, Sa, Sb, vs, xs, h.fresh hk⟩
/-- A token or a fault is written: the reader does not see it. -/
theorem IsRx.aside {w w' : World} {B rb k : Nat} {st : RS} {cs : Array Value} {T : TypeId} {fr : Nat × Nat} (h : IsRx w B rb st) (hb : w.heap[k]? = some (.cells cs T fr)) (hT : T = 152 ∨ T = 65) (hk : Kept (only k) w w') : IsRx w' B rb st := by
  obtain ⟨V, Sa, Sb, vs, xs, h⟩ := h
  have hr : rb ≠ k := fun e => by
    have e1 := h.blk
    rw [e, hb] at e1
    simp only [Option.some.injEq, Obj.cells.injEq] at e1
    rcases hT with h1 | h1 <;> exact absurd (e1.2.1.symm.trans h1) (by decide)
  have hX : ∀ {Br : Nat} {e : TypeId} {s n : Nat} {v : Value} {ys : List Value}, w.ownsRow Br e s v n ys → e ≠ 152 → e ≠ 65 → w'.ownsRow Br e s v n ys := fun ho h1 h2 =>
    hk.owns ho (fun i hi e => by
      have e : i = k := e
      subst e
      rcases hT with rfl | rfl
      · exact owns_apart ho h1 hb hi
      · exact owns_apart ho h2 hb hi)
  have hS : ∀ {v : Value} {l : List Sym}, SymRow w B Sa v l → SymRow w' B Sa v l := fun hs => ⟨hX hs.1 (by decide) (by decide), hs.2⟩
  have hBd : ∀ {v : Value} {ls : List (List Sym)} {us : List Value}, BodyRow w B Sa v ls us → BodyRow w' B Sa v ls us := fun hs => ⟨hX hs.1 (by decide) (by decide), fun i l hl => by
    obtain ⟨x, h1, h2⟩ := hs.2 i l hl
    exact ⟨x, h1, hS h2⟩⟩
  have r := h.rest
  exact ⟨V, Sa, Sb, vs, xs, (hk.block rb (lt_of_block h.blk) hr).trans h.blk, ⟨hX r.atom (by decide) (by decide), hX r.opn (by decide) (by decide), hX r.vars (by decide) (by decide), hS r.head, hBd r.body,
    ⟨hX r.cls.1 (by decide) (by decide), r.cls.2.1, r.cls.2.2.1, fun i c hc => by
      obtain ⟨hv, bv, vv, us, e1, e2, e3, e4⟩ := r.cls.2.2.2 i c hc
      exact ⟨hv, bv, vv, us, e1, hS e2, hBd e3, e4⟩⟩, r.ta, r.tb, Nat.le_trans r.la hk.size, Nat.le_trans r.lb hk.size⟩, h.le⟩

theorem IsRx.le {w : World} {B rb : Nat} {st : RS} (h : IsRx w B rb st) : B ≤ w.heap.size := by
  obtain ⟨V, Sa, Sb, vs, xs, h⟩ := h
  have := h.le
  have := lt_of_block h.blk
  omega
theorem IsRx.look {w : World} {B rb : Nat} {st : RS} (h : IsRx w B rb st) : ∃ V, ROpen w B rb st V := by
  obtain ⟨V, Sa, Sb, vs, xs, h⟩ := h
  exact ⟨V, h.opens⟩

theorem fault_done {w wr : World} {B rb b e0 p0 : Nat} {st : RS} (hr : IsRx wr B rb st) (hf : FaultAt wr b e0 p0) (hB : B ≤ b) (hbw : Below B w wr) (x y : Value) :
    IsRx ((wr.setCell ⟨b, 0, none⟩ x).setCell ⟨b, 1, none⟩ y) B rb st ∧ Below B w ((wr.setCell ⟨b, 0, none⟩ x).setCell ⟨b, 1, none⟩ y) :=
  ⟨hr.aside hf (Or.inr rfl) (((Kept.refl (only b) wr).put 0 x).put 1 y), (hbw.setCell (p := ⟨b, 0, none⟩) hB x).setCell (p := ⟨b, 1, none⟩) hB y⟩

set_option maxRecDepth 10000 in
set_option maxHeartbeats 2000000 in
theorem readAll_any (w : World) (B rb : Nat) (st : RS) (s : ByteArray) (h : IsRx w B rb st) (hi : RI 0 st) (hs : s.size ≤ 4000) :
    Calls Tryz.prog 58 #[.pointer (some ⟨rb, 0, none⟩), .string s] w fun e w' =>
      e = .returned (.agg #[.int .i64 (runT s.size (toks s.data.toList 0) st).1, .int .i64 (runT s.size (toks s.data.toList 0) st).2.1]) ∧ IsRx w' B rb (runT s.size (toks s.data.toList 0) st).2.2 ∧ Below B w w' := by
  obtain ⟨R, hR⟩ : ∃ R, R = runT s.size (toks s.data.toList 0) st := ⟨_, rfl⟩
  rw [← hR]
  have hBw := h.le
  have HR := hide' hR
  have H := hide' h
  have Hi := hide' hi
  clear h hi hR
  go_enter Tryz.func58, Tryz.ntmps58
  go_wp2_with fail
  refine (next_any s 0 _ (by omega) (Nat.zero_le _)).mono ?_
  rintro e w1 ⟨rfl, hb1⟩
  have hF0 : FaultAt (w.alloc (.cells #[.int .i64 0, .int .i64 0] 65)) w.heap.size 0 0 := heap_alloc_new w _
  have hk1 : Kept noBlock w w1 := ((Kept.refl _ w).alloc _).trans (Kept.untouched hb1)
  have HF1 := hide' (hF0.kept (Kept.untouched hb1) (fun h => h))
  have H1 := hide' (H.out.fresh hk1)
  have HB1 := hide' (hk1.below hBw (fun _ h => h.elim))
  have hlt : w.heap.size < w1.heap.size := lt_of_block HF1.out
  clear hF0 hk1 hb1
  go_wp2
  go_loopg [] (s.size + 1) (fun gk wr => ∃ (n : Nat) (st' : RS), n ≤ s.size ∧ s.size - n < gk ∧ TokAt wr w1.heap.size (nextC s n) ∧ FaultAt wr w.heap.size 0 0 ∧ IsRx wr B rb st' ∧ RI n st' ∧ runT s.size (toks (s.data.toList.drop n) n) st' = R ∧ Below B w wr)
  case atStart =>
    refine ⟨0, st, Nat.zero_le _, by omega, heap_alloc_new w1 _, HF1.out.kept ((Kept.refl noBlock w1).alloc _) (fun h => h), H1.out.fresh ((Kept.refl _ w1).alloc _), Hi.out, ?_, HB1.out.alloc (Nat.le_trans hBw HB1.out.size) _⟩
    rw [HR.out]; rfl
  case round =>
    obtain ⟨n, st', hn, hgk, htok, hflt, hr, hri, hrun, hbw⟩ := hrel
    obtain ⟨hrb, c0, c1, c2, _, cf⟩ := hr.cells
    obtain ⟨hT4, f0, f1, ff⟩ := hflt.cells
    have hn5 := hri.next
    have h45 : ¬ w.heap.size = w1.heap.size := by omega
    have hr4 : ¬ rb = w.heap.size := fun e => by
      obtain ⟨V, Sa, Sb, vs, xs, h⟩ := hr
      have e1 := h.blk
      rw [e, hflt] at e1
      simp at e1
    rcases next_toks s n hn with ⟨hnx, htk⟩ | ⟨t, q, hnx, htk, hkd, hnp, hpq, hqs, htx, htl⟩
    · rw [hnx] at htok
      rw [htk, runT] at hrun
      obtain ⟨hT5, t0, t1, t2, tf⟩ := htok.cells
      simp only at t0 t1 t2
      have Hr := hide' hr
      have Hflt := hide' hflt
      have Hbw := hide' hbw
      clear htok hflt hr hri htk hnx hbw
      by_cases h0 : st'.next = 0
      · rw [if_neg (by omega)] at hrun
        rw [h0] at c1
        have Hrun := hide' hrun
        clear hrun h0
        go_wp2
        refine bodyPost_ret (v := .agg #[.int .i64 0, .int .i64 0]) (by simp [results, Tryz.results58, go_sem, f0, f1, ff, hT4]) rfl ?_
        rw [← Hrun.out]
        exact ⟨rfl, fault_done Hr.out Hflt.out (by omega) Hbw.out _ _⟩
      · by_cases h5 : st'.next = 5
        · rw [if_neg (by omega)] at hrun
          rw [h5] at c1
          have Hrun := hide' hrun
          clear hrun h0 h5
          go_wp2
          refine bodyPost_ret (v := .agg #[.int .i64 0, .int .i64 0]) (by simp [results, Tryz.results58, go_sem, f0, f1, ff, hT4]) rfl ?_
          rw [← Hrun.out]
          exact ⟨rfl, fault_done Hr.out Hflt.out (by omega) Hbw.out _ _⟩
        · rw [if_pos ⟨h0, h5⟩] at hrun
          have b0 : ((st'.next : Int) != 0) = true := by rw [bne_iff_ne]; omega
          have b5 : ((st'.next : Int) != 5) = true := by rw [bne_iff_ne]; omega
          have Hrun := hide' hrun
          clear hrun h0 h5
          go_wp2
          refine bodyPost_ret (v := .agg #[.int .i64 2, .int .i64 s.size]) (by simp [results, Tryz.results58, go_sem, f0, f1, ff, hT4]) rfl ?_
          rw [← Hrun.out]
          exact ⟨rfl, fault_done Hr.out Hflt.out (by omega) Hbw.out _ _⟩
    · rw [hnx] at htok
      rw [htk, runT, htl] at hrun
      obtain ⟨hT5, t0, t1, t2, tf⟩ := htok.cells
      simp only at t0 t1 t2
      obtain ⟨kd, hkm⟩ : ∃ kd, kd = kmap t.kind := ⟨_, rfl⟩
      rw [← hkm] at htok t0 hrun
      have hkd1 : 1 ≤ kd := by
        rw [hkm]
        rcases hkd with h | h | h | h | h | h | h | h <;> rw [h] <;> decide
      have bk : ((kd : Int) != 0) = true := by rw [bne_iff_ne]; omega
      obtain ⟨V, hlook⟩ := hr.look
      have HC := hide' (check_any wr B rb st' V kd t.pos q hlook (hri.bd (by omega)) hn5 (by omega) (by omega))
      have Hr := hide' hr
      have Hflt := hide' hflt
      have Htok := hide' htok
      have Hbw := hide' hbw
      have Hri := hide' hri
      have Htx := hide' htx
      clear htok hflt hr hri htk hnx hbw hlook htx hkd hkm htl
      by_cases hc : checkC st' kd (q - t.pos) = 0
      · rw [if_neg (by simp [hc])] at hrun
        have hstand := check_stand hc
        have Hrun := hide' hrun
        have HT := hide' (Hri.out.takes (by omega) hstand)
        have Hri' := hide' ((Hri.out.take t.text hstand).at (m := q) (by omega))
        rw [hc] at HC
        clear hrun hc hstand
        go_wp2_with fail
        refine HC.out.mono ?_
        rintro e w2 ⟨rfl, hk2⟩
        have Hr2 := hide' (Hr.out.fresh hk2)
        have Hflt2 := hide' (Hflt.out.kept hk2 (fun h => h))
        have Htok2 := hide' (Htok.out.kept hk2 (fun h => h))
        have Hbw2 := hide' (Hbw.out.trans (hk2.below (by omega) (fun _ h => h.elim)))
        obtain ⟨x5, x0, x1, x2, xf⟩ := Htok2.out.cells
        simp only at x0 x1 x2
        have hsz2 := hk2.size
        clear hk2 t0 t1 t2 tf c0 c1 c2 cf f0 f1 ff
        go_wp2_with fail
        go_region_with (first
          | (go_at_call 80; refine (textOf_any s kd t.pos q _ ?_ ?_ ?_).mono ?_; (· omega); (· omega); (· omega); rintro e w3 ⟨rfl, hk3⟩; rw [Htx.out]; have Hr3 := hide' (Hr2.out.fresh (((Kept.refl noBlock w2).drewN 1).trans hk3)); have Hflt3 := hide' (Hflt2.out.kept (((Kept.refl noBlock w2).drewN 1).trans hk3) (fun h => h)); have Htok3 := hide' (Htok2.out.kept (((Kept.refl noBlock w2).drewN 1).trans hk3) (fun h => h)); obtain ⟨y5, y0, y1, y2, yf⟩ := Htok3.out.cells; simp only at y0 y1 y2; have Hk3 := hide' hk3; clear hk3)
          | (go_at_call 79; refine (take_any _ B rb st' kd t.text Hr3.out HT.out).mono ?_; rintro e w4 ⟨rfl, hr4', hh4⟩; have Hr4 := hide' hr4'; have Hh4 := hide' hh4; clear hr4' hh4))
        all_goals
          have hbw4 : Below B w w4 := (Hbw2.out.trans (Kept.below (((Kept.refl noBlock w2).drewN 1).trans Hk3.out) (by omega) (fun _ h => h.elim))).trans Hh4.out.below
          have Hflt4 := hide' (Hflt3.out.held Hh4.out)
          have Htok4 := hide' (Htok3.out.held Hh4.out)
          obtain ⟨z5, z0, z1, z2, zf⟩ := Htok4.out.cells
          simp only at z0 z1 z2
          have Hbw4 := hide' hbw4
          clear hbw4 x0 x1 x2 xf y0 y1 y2 yf
          go_wp2_with fail
          refine (next_any s q _ (by omega) hqs).mono ?_
          rintro e w5 ⟨rfl, hb5⟩
          have hk5 := Kept.untouched hb5
          have Htok5 := hide' (Htok4.out.kept hk5 (fun h => h))
          have Hflt5 := hide' (Hflt4.out.kept hk5 (fun h => h))
          have Hr5 := hide' (Hr4.out.fresh hk5)
          have Hbw5 := hide' (Hbw4.out.trans (hk5.below Hr4.out.le (fun _ h => h.elim)))
          obtain ⟨v5, v0, v1, v2, vf⟩ := Htok5.out.cells
          simp only at v0 v1 v2
          clear hk5 hb5 z0 z1 z2 zf
          go_wp2
          go_roundg (s.size - q + 1)
          case measure => omega
          case rel =>
            have hB5 : B ≤ w1.heap.size := by omega
            refine ⟨q, takeS st' kd t.text, hqs, by omega, ?_, ?_, ?_, Hri'.out, Hrun.out, ?_⟩
            · unfold TokAt
              rw [block_set (block_set (block_set Htok5.out 0 _) 1 _) 2 _]
              rfl
            · exact Hflt5.out.kept ((((Kept.refl (only w1.heap.size) w5).put 0 _).put 1 _).put 2 _) (fun e => h45 e)
            · exact Hr5.out.aside Htok5.out (Or.inl rfl) ((((Kept.refl (only w1.heap.size) w5).put 0 _).put 1 _).put 2 _)
            · exact ((Hbw5.out.setCell (p := ⟨w1.heap.size, 0, none⟩) hB5 _).setCell (p := ⟨w1.heap.size, 1, none⟩) hB5 _).setCell (p := ⟨w1.heap.size, 2, none⟩) hB5 _
      · rw [if_pos hc] at hrun
        have bc : ((checkC st' kd (q - t.pos) : Int) != 0) = true := by rw [bne_iff_ne]; omega
        have Hrun := hide' hrun
        clear hrun hc
        go_wp2_with fail
        refine HC.out.mono ?_
        rintro e w2 ⟨rfl, hk2⟩
        have Hr2 := hide' (Hr.out.fresh hk2)
        have Hflt2 := hide' (Hflt.out.kept hk2 (fun h => h))
        have Htok2 := hide' (Htok.out.kept hk2 (fun h => h))
        have Hbw2 := hide' (Hbw.out.trans (hk2.below (by omega) (fun _ h => h.elim)))
        obtain ⟨x5, x0, x1, x2, xf⟩ := Htok2.out.cells
        simp only at x0 x1 x2
        obtain ⟨g4, g0, g1, gf⟩ := Hflt2.out.cells
        clear hk2 t0 t1 t2 tf c0 c1 c2 cf f0 f1 ff
        go_wp2
        refine bodyPost_ret (v := .agg #[.int .i64 (checkC st' kd (q - t.pos)), .int .i64 t.pos]) (by simp [results, Tryz.results58, go_sem, g0, g1, gf, g4]) rfl ?_
        rw [← Hrun.out]
        exact ⟨rfl, fault_done Hr2.out Hflt2.out (by omega) Hbw2.out _ _⟩

end Go.Proofs.YtcbckkenifmchaaGreatDoor
