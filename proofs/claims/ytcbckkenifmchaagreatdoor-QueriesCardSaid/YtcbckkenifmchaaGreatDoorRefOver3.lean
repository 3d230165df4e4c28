/-
  PROVED HERE: what the reference function over answers of a row of tokens of a query (its conditions stand in the statement); nothing that was there turns.
-/
import Derived.Test.YtcbckkenifmchaaGreatDoorRefOver2
namespace Go.Proofs.YtcbckkenifmchaaGreatDoor
open Go.RowKit
set_option linter.unusedSimpArgs false
set_option linter.unusedVariables false

set_option maxRecDepth 10000 in
set_option maxHeartbeats 2000000 in
theorem over_true (w : World) (Bt : Nat) (ts : List Tok) (v : Value) (hts : w.ownsRow Bt 121 3 v ts.length (toksCells ts)) (hn : ts.length ≤ 3900) (htx : ∀ t ∈ ts, t.text.length ≤ 4096) :
    Calls Tryz.prog 61 #[v, .bool true] w fun e w' =>
      e = .returned (.tuple #[.int .i64 (lover ts (lstart0 true)).1, .int .i64 (lover ts (lstart0 true)).2]) ∧ Below w.heap.size w w' := by
  obtain ⟨ta, tcap, rfl⟩ := owns_slice hts
  have Hts := hide' hts
  clear hts
  go_enter Tryz.func61, Tryz.ntmps61
  go_wp2
  go_loopw [7] (fun i wr => ∃ (k : Nat) (L : LookS) (ov : Value), k ≤ ts.length ∧ i = .int .i64 k ∧ Below w.heap.size w wr ∧ IsLook wr w.heap.size w.heap.size L ov ∧ LInv L k ∧ L.err = 0 ∧
      lover (ts.drop k) L = lover ts (lstart0 true)) (fun i _ => ts.length - (intOf i).toNat)
  case atStart => exact ⟨0, lstart0 true, .slice none 0 0, Nat.zero_le _, rfl, (Below.refl _ _).alloc (Nat.le_refl _) _, ⟨heap_alloc_new w _, World.ownsRow_nil _ _ _ _⟩, ⟨by simp [lstart0], fun e => by simp [lstart0] at e, by simp [lstart0], by simp [lstart0], by simp [lstart0], by simp [lstart0], by simp [lstart0]⟩, rfl, rfl⟩
  case round =>
    obtain ⟨k, L, ov, hk, rfl, hbel, hlook, hinv, herr, hlov⟩ := hrel
    have Hlook := hide' hlook
    have Hinv := hide' hinv
    have Herr := hide' herr
    have Hlov := hide' hlov
    obtain ⟨hb, ⟨c0, c1, c2, c3, c4, c5, c6, c7⟩, hf⟩ := hlook.facts
    rw [herr] at c7
    clear hlook hinv herr hlov
    by_cases hlt : k < ts.length
    · obtain ⟨t, ht⟩ : ∃ t, ts[k]? = some t := ⟨_, List.getElem?_eq_getElem hlt⟩
      have hmem : t ∈ ts := List.mem_of_getElem? ht
      have htt : ByteArray.size ⟨t.text.toArray⟩ ≤ 4096 := htx t hmem
      obtain ⟨g, tcap', tcur, he, hBg, hg, hcp⟩ := owns_some Hts.out (by omega)
      simp only [Value.slice.injEq] at he
      obtain ⟨rfl, _, rfl⟩ := he
      have hgl := lt_of_block hg
      have tcell : ∀ j v, j < 3 → (tokCells t)[j]? = some v → wr.cell? ⟨g, k * 3 + j, none⟩ = some v := by
        intro j v hj hv
        exact (hbel.cell (p := ⟨g, k * 3 + j, none⟩) hgl).trans (owns_cell Hts.out (k * 3 + j) v (by rw [toksCells_at ts k t ht j hj]; exact hv))
      have tc0 : wr.cell? ⟨g, k * 3, none⟩ = some (.int .i64 t.kind) := tcell 0 _ (by omega) rfl
      have tc1 : wr.cell? ⟨g, k * 3 + 1, none⟩ = some (.string ⟨t.text.toArray⟩) := tcell 1 _ (by omega) rfl
      have tc2 : wr.cell? ⟨g, k * 3 + 2, none⟩ = some (.int .i64 t.pos) := tcell 2 _ (by omega) rfl
      have Hhere := hide' (lover_here ts k t L ht)
      have hwant := Hinv.out.want
      clear tcell ht hmem hg
      have hws : L.want = 0 ∨ L.want = 1 ∨ L.want = 2 ∨ L.want = 3 ∨ L.want = 4 ∨ L.want = 5 := by omega
      clear hwant
      rcases hws with hw | hw | hw | hw | hw | hw
      · rw [hw] at c0
        have Hw := hide' hw
        clear hw
        by_cases k4 : t.kind = 4
        · have Hh := hide' (Hhere.out.trans (if_pos ⟨k4, by rw [Hw.out]; omega⟩))
          have k4' : ((t.kind : Int) == 4) = true := by rw [beq_iff_eq]; omega
          clear k4
          go_wp2
          go_ret2
          refine ⟨ret_two ?_ ?_, ?_⟩
          · rw [← Hlov.out, Hh.out]; rfl
          · rw [← Hlov.out, Hh.out]; rfl
          · exact hbel.alloc hbel.size _
        · have Hn4 : Hid (¬ (t.kind = 4 ∧ (L.want = 5 ∨ L.want = 0))) := by rw [Hw.out]; intro h; omega
          have k4' : ((t.kind : Int) == 4) = false := by rw [beq_eq_false_iff_ne]; omega
          clear k4
          go_wp2_with fail
          refine (begins_all _ w.heap.size w.heap.size L ov t.kind _ ⟨t.text.toArray⟩ ?_ (Nat.le_refl _) (Hinv.out.mono (by omega)) (by rw [Hw.out]; omega) htt).mono ?_
          · exact Hlook.out.later (S := noBlock) ((Kept.refl _ _).alloc _) (fun h => h) (fun _ _ h => h)
          rintro e w1 ⟨rfl, ov', hkp, hlk⟩
          have hbel1 := over_kept hbel Hlook.out _ hkp
          have hbox2 : w1.cell? ⟨wr.heap.size, 2, none⟩ = some (.int .i64 t.pos) := over_box Hlook.out _ _ hkp 2 _ rfl
          have hstep : lbegins L t.kind (ByteArray.size ⟨t.text.toArray⟩) = lstep L t.kind t.text.length := by simp [lstep, Hw.out, ByteArray.size]
          rw [hstep] at hlk
          have Hlk := hide' hlk
          have d7 := hlk.facts.2.1.2.2.2.2.2.2.2
          have hb1 := hlk.facts.1
          have df := hlk.facts.2.2
          have Hst := hide' hstep
          have Hkp := hide' hkp
          clear hstep hkp hlk c0 c1 c2 c3 c4 c5 c6 c7 hf tc0 tc1 tc2
          by_cases he : (lstep L t.kind t.text.length).err = 0
          · rw [he] at d7
            have He := hide' he
            clear he
            go_wp2_with fail
            go_roundw
            case rel =>
              refine ⟨k + 1, lstep L t.kind t.text.length, ov', by omega, by go_num, hbel1, Hlk.out, lstep_inv Hinv.out _ _, He.out, ?_⟩
              rw [← Hlov.out, Hhere.out, if_neg Hn4.out, if_neg (by simp [He.out])]
            case measure => simp [intOf]; omega
          · have hne : (((lstep L t.kind t.text.length).err : Int) != 0) = true := by rw [bne_iff_ne]; omega
            have He := hide' he
            clear he
            go_wp2_with fail
            go_quiet (fail)
            go_wp2_with fail
            go_ret2
            refine ⟨ret_two ?_ ?_, ?_⟩
            · rw [← Hlov.out, Hhere.out, if_neg Hn4.out, if_pos He.out]
            · rw [← Hlov.out, Hhere.out, if_neg Hn4.out, if_pos He.out]
            · exact hbel1.trans ⟨rfl, rfl, rfl, Nat.le_refl _, fun _ _ => rfl⟩
      · rw [hw] at c0
        have Hw := hide' hw
        clear hw
        by_cases k4 : t.kind = 4
        · have Hn4 : Hid (¬ (t.kind = 4 ∧ (L.want = 5 ∨ L.want = 0))) := by rw [Hw.out]; intro h; omega
          have k4' : ((t.kind : Int) == 4) = true := by rw [beq_iff_eq]; omega
          clear k4
          go_wp2_with fail
          refine (begins_all _ w.heap.size w.heap.size L ov t.kind _ ⟨t.text.toArray⟩ ?_ (Nat.le_refl _) (Hinv.out.mono (by omega)) (by rw [Hw.out]; omega) htt).mono ?_
          · exact Hlook.out.later (S := noBlock) ((Kept.refl _ _).alloc _) (fun h => h) (fun _ _ h => h)
          rintro e w1 ⟨rfl, ov', hkp, hlk⟩
          have hbel1 := over_kept hbel Hlook.out _ hkp
          have hbox2 : w1.cell? ⟨wr.heap.size, 2, none⟩ = some (.int .i64 t.pos) := over_box Hlook.out _ _ hkp 2 _ rfl
          have hstep : lbegins L t.kind (ByteArray.size ⟨t.text.toArray⟩) = lstep L t.kind t.text.length := by simp [lstep, Hw.out, ByteArray.size]
          rw [hstep] at hlk
          have Hlk := hide' hlk
          have d7 := hlk.facts.2.1.2.2.2.2.2.2.2
          have hb1 := hlk.facts.1
          have df := hlk.facts.2.2
          have Hst := hide' hstep
          have Hkp := hide' hkp
          clear hstep hkp hlk c0 c1 c2 c3 c4 c5 c6 c7 hf tc0 tc1 tc2
          by_cases he : (lstep L t.kind t.text.length).err = 0
          · rw [he] at d7
            have He := hide' he
            clear he
            go_wp2_with fail
            go_roundw
            case rel =>
              refine ⟨k + 1, lstep L t.kind t.text.length, ov', by omega, by go_num, hbel1, Hlk.out, lstep_inv Hinv.out _ _, He.out, ?_⟩
              rw [← Hlov.out, Hhere.out, if_neg Hn4.out, if_neg (by simp [He.out])]
            case measure => simp [intOf]; omega
          · have hne : (((lstep L t.kind t.text.length).err : Int) != 0) = true := by rw [bne_iff_ne]; omega
            have He := hide' he
            clear he
            go_wp2_with fail
            go_quiet (fail)
            go_wp2_with fail
            go_ret2
            refine ⟨ret_two ?_ ?_, ?_⟩
            · rw [← Hlov.out, Hhere.out, if_neg Hn4.out, if_pos He.out]
            · rw [← Hlov.out, Hhere.out, if_neg Hn4.out, if_pos He.out]
            · exact hbel1.trans ⟨rfl, rfl, rfl, Nat.le_refl _, fun _ _ => rfl⟩
        · have Hn4 : Hid (¬ (t.kind = 4 ∧ (L.want = 5 ∨ L.want = 0))) := by rw [Hw.out]; intro h; omega
          have k4' : ((t.kind : Int) == 4) = false := by rw [beq_eq_false_iff_ne]; omega
          clear k4
          go_wp2_with fail
          refine (begins_all _ w.heap.size w.heap.size L ov t.kind _ ⟨t.text.toArray⟩ ?_ (Nat.le_refl _) (Hinv.out.mono (by omega)) (by rw [Hw.out]; omega) htt).mono ?_
          · exact Hlook.out.later (S := noBlock) ((Kept.refl _ _).alloc _) (fun h => h) (fun _ _ h => h)
          rintro e w1 ⟨rfl, ov', hkp, hlk⟩
          have hbel1 := over_kept hbel Hlook.out _ hkp
          have hbox2 : w1.cell? ⟨wr.heap.size, 2, none⟩ = some (.int .i64 t.pos) := over_box Hlook.out _ _ hkp 2 _ rfl
          have hstep : lbegins L t.kind (ByteArray.size ⟨t.text.toArray⟩) = lstep L t.kind t.text.length := by simp [lstep, Hw.out, ByteArray.size]
          rw [hstep] at hlk
          have Hlk := hide' hlk
          have d7 := hlk.facts.2.1.2.2.2.2.2.2.2
          have hb1 := hlk.facts.1
          have df := hlk.facts.2.2
          have Hst := hide' hstep
          have Hkp := hide' hkp
          clear hstep hkp hlk c0 c1 c2 c3 c4 c5 c6 c7 hf tc0 tc1 tc2
          by_cases he : (lstep L t.kind t.text.length).err = 0
          · rw [he] at d7
            have He := hide' he
            clear he
            go_wp2_with fail
            go_roundw
            case rel =>
              refine ⟨k + 1, lstep L t.kind t.text.length, ov', by omega, by go_num, hbel1, Hlk.out, lstep_inv Hinv.out _ _, He.out, ?_⟩
              rw [← Hlov.out, Hhere.out, if_neg Hn4.out, if_neg (by simp [He.out])]
            case measure => simp [intOf]; omega
          · have hne : (((lstep L t.kind t.text.length).err : Int) != 0) = true := by rw [bne_iff_ne]; omega
            have He := hide' he
            clear he
            go_wp2_with fail
            go_quiet (fail)
            go_wp2_with fail
            go_ret2
            refine ⟨ret_two ?_ ?_, ?_⟩
            · rw [← Hlov.out, Hhere.out, if_neg Hn4.out, if_pos He.out]
            · rw [← Hlov.out, Hhere.out, if_neg Hn4.out, if_pos He.out]
            · exact hbel1.trans ⟨rfl, rfl, rfl, Nat.le_refl _, fun _ _ => rfl⟩
      · rw [hw] at c0
        have Hw := hide' hw
        clear hw
        by_cases k4 : t.kind = 4
        · have Hn4 : Hid (¬ (t.kind = 4 ∧ (L.want = 5 ∨ L.want = 0))) := by rw [Hw.out]; intro h; omega
          have k4' : ((t.kind : Int) == 4) = true := by rw [beq_iff_eq]; omega
          clear k4
          go_wp2_with fail
          refine (begins_all _ w.heap.size w.heap.size L ov t.kind _ ⟨t.text.toArray⟩ ?_ (Nat.le_refl _) (Hinv.out.mono (by omega)) (by rw [Hw.out]; omega) htt).mono ?_
          · exact Hlook.out.later (S := noBlock) ((Kept.refl _ _).alloc _) (fun h => h) (fun _ _ h => h)
          rintro e w1 ⟨rfl, ov', hkp, hlk⟩
          have hbel1 := over_kept hbel Hlook.out _ hkp
          have hbox2 : w1.cell? ⟨wr.heap.size, 2, none⟩ = some (.int .i64 t.pos) := over_box Hlook.out _ _ hkp 2 _ rfl
          have hstep : lbegins L t.kind (ByteArray.size ⟨t.text.toArray⟩) = lstep L t.kind t.text.length := by simp [lstep, Hw.out, ByteArray.size]
          rw [hstep] at hlk
          have Hlk := hide' hlk
          have d7 := hlk.facts.2.1.2.2.2.2.2.2.2
          have hb1 := hlk.facts.1
          have df := hlk.facts.2.2
          have Hst := hide' hstep
          have Hkp := hide' hkp
          clear hstep hkp hlk c0 c1 c2 c3 c4 c5 c6 c7 hf tc0 tc1 tc2
          by_cases he : (lstep L t.kind t.text.length).err = 0
          · rw [he] at d7
            have He := hide' he
            clear he
            go_wp2_with fail
            go_roundw
            case rel =>
              refine ⟨k + 1, lstep L t.kind t.text.length, ov', by omega, by go_num, hbel1, Hlk.out, lstep_inv Hinv.out _ _, He.out, ?_⟩
              rw [← Hlov.out, Hhere.out, if_neg Hn4.out, if_neg (by simp [He.out])]
            case measure => simp [intOf]; omega
          · have hne : (((lstep L t.kind t.text.length).err : Int) != 0) = true := by rw [bne_iff_ne]; omega
            have He := hide' he
            clear he
            go_wp2_with fail
            go_quiet (fail)
            go_wp2_with fail
            go_ret2
            refine ⟨ret_two ?_ ?_, ?_⟩
            · rw [← Hlov.out, Hhere.out, if_neg Hn4.out, if_pos He.out]
            · rw [← Hlov.out, Hhere.out, if_neg Hn4.out, if_pos He.out]
            · exact hbel1.trans ⟨rfl, rfl, rfl, Nat.le_refl _, fun _ _ => rfl⟩
        · have Hn4 : Hid (¬ (t.kind = 4 ∧ (L.want = 5 ∨ L.want = 0))) := by rw [Hw.out]; intro h; omega
          have k4' : ((t.kind : Int) == 4) = false := by rw [beq_eq_false_iff_ne]; omega
          clear k4
          go_wp2_with fail
          refine (begins_all _ w.heap.size w.heap.size L ov t.kind _ ⟨t.text.toArray⟩ ?_ (Nat.le_refl _) (Hinv.out.mono (by omega)) (by rw [Hw.out]; omega) htt).mono ?_
          · exact Hlook.out.later (S := noBlock) ((Kept.refl _ _).alloc _) (fun h => h) (fun _ _ h => h)
          rintro e w1 ⟨rfl, ov', hkp, hlk⟩
          have hbel1 := over_kept hbel Hlook.out _ hkp
          have hbox2 : w1.cell? ⟨wr.heap.size, 2, none⟩ = some (.int .i64 t.pos) := over_box Hlook.out _ _ hkp 2 _ rfl
          have hstep : lbegins L t.kind (ByteArray.size ⟨t.text.toArray⟩) = lstep L t.kind t.text.length := by simp [lstep, Hw.out, ByteArray.size]
          rw [hstep] at hlk
          have Hlk := hide' hlk
          have d7 := hlk.facts.2.1.2.2.2.2.2.2.2
          have hb1 := hlk.facts.1
          have df := hlk.facts.2.2
          have Hst := hide' hstep
          have Hkp := hide' hkp
          clear hstep hkp hlk c0 c1 c2 c3 c4 c5 c6 c7 hf tc0 tc1 tc2
          by_cases he : (lstep L t.kind t.text.length).err = 0
          · rw [he] at d7
            have He := hide' he
            clear he
            go_wp2_with fail
            go_roundw
            case rel =>
              refine ⟨k + 1, lstep L t.kind t.text.length, ov', by omega, by go_num, hbel1, Hlk.out, lstep_inv Hinv.out _ _, He.out, ?_⟩
              rw [← Hlov.out, Hhere.out, if_neg Hn4.out, if_neg (by simp [He.out])]
            case measure => simp [intOf]; omega
          · have hne : (((lstep L t.kind t.text.length).err : Int) != 0) = true := by rw [bne_iff_ne]; omega
            have He := hide' he
            clear he
            go_wp2_with fail
            go_quiet (fail)
            go_wp2_with fail
            go_ret2
            refine ⟨ret_two ?_ ?_, ?_⟩
            · rw [← Hlov.out, Hhere.out, if_neg Hn4.out, if_pos He.out]
            · rw [← Hlov.out, Hhere.out, if_neg Hn4.out, if_pos He.out]
            · exact hbel1.trans ⟨rfl, rfl, rfl, Nat.le_refl _, fun _ _ => rfl⟩
      · rw [hw] at c0
        have Hw := hide' hw
        clear hw
        by_cases k4 : t.kind = 4
        · have Hn4 : Hid (¬ (t.kind = 4 ∧ (L.want = 5 ∨ L.want = 0))) := by rw [Hw.out]; intro h; omega
          have k4' : ((t.kind : Int) == 4) = true := by rw [beq_iff_eq]; omega
          clear k4
          go_wp2_with fail
          refine (follows_all _ w.heap.size w.heap.size L ov t.kind _ ⟨t.text.toArray⟩ ?_ (Nat.le_refl _) (Hinv.out.mono (by omega))).mono ?_
          · exact Hlook.out.later (S := noBlock) ((Kept.refl _ _).alloc _) (fun h => h) (fun _ _ h => h)
          rintro e w1 ⟨rfl, ov', hkp, hlk⟩
          have hbel1 := over_kept hbel Hlook.out _ hkp
          have hbox2 : w1.cell? ⟨wr.heap.size, 2, none⟩ = some (.int .i64 t.pos) := over_box Hlook.out _ _ hkp 2 _ rfl
          have hstep : lfollows L t.kind = lstep L t.kind t.text.length := by simp [lstep, Hw.out, ByteArray.size]
          rw [hstep] at hlk
          have Hlk := hide' hlk
          have d7 := hlk.facts.2.1.2.2.2.2.2.2.2
          have hb1 := hlk.facts.1
          have df := hlk.facts.2.2
          have Hst := hide' hstep
          have Hkp := hide' hkp
          clear hstep hkp hlk c0 c1 c2 c3 c4 c5 c6 c7 hf tc0 tc1 tc2
          by_cases he : (lstep L t.kind t.text.length).err = 0
          · rw [he] at d7
            have He := hide' he
            clear he
            go_wp2_with fail
            go_roundw
            case rel =>
              refine ⟨k + 1, lstep L t.kind t.text.length, ov', by omega, by go_num, hbel1, Hlk.out, lstep_inv Hinv.out _ _, He.out, ?_⟩
              rw [← Hlov.out, Hhere.out, if_neg Hn4.out, if_neg (by simp [He.out])]
            case measure => simp [intOf]; omega
          · have hne : (((lstep L t.kind t.text.length).err : Int) != 0) = true := by rw [bne_iff_ne]; omega
            have He := hide' he
            clear he
            go_wp2_with fail
            go_quiet (fail)
            go_wp2_with fail
            go_ret2
            refine ⟨ret_two ?_ ?_, ?_⟩
            · rw [← Hlov.out, Hhere.out, if_neg Hn4.out, if_pos He.out]
            · rw [← Hlov.out, Hhere.out, if_neg Hn4.out, if_pos He.out]
            · exact hbel1.trans ⟨rfl, rfl, rfl, Nat.le_refl _, fun _ _ => rfl⟩
        · have Hn4 : Hid (¬ (t.kind = 4 ∧ (L.want = 5 ∨ L.want = 0))) := by rw [Hw.out]; intro h; omega
          have k4' : ((t.kind : Int) == 4) = false := by rw [beq_eq_false_iff_ne]; omega
          clear k4
          go_wp2_with fail
          refine (follows_all _ w.heap.size w.heap.size L ov t.kind _ ⟨t.text.toArray⟩ ?_ (Nat.le_refl _) (Hinv.out.mono (by omega))).mono ?_
          · exact Hlook.out.later (S := noBlock) ((Kept.refl _ _).alloc _) (fun h => h) (fun _ _ h => h)
          rintro e w1 ⟨rfl, ov', hkp, hlk⟩
          have hbel1 := over_kept hbel Hlook.out _ hkp
          have hbox2 : w1.cell? ⟨wr.heap.size, 2, none⟩ = some (.int .i64 t.pos) := over_box Hlook.out _ _ hkp 2 _ rfl
          have hstep : lfollows L t.kind = lstep L t.kind t.text.length := by simp [lstep, Hw.out, ByteArray.size]
          rw [hstep] at hlk
          have Hlk := hide' hlk
          have d7 := hlk.facts.2.1.2.2.2.2.2.2.2
          have hb1 := hlk.facts.1
          have df := hlk.facts.2.2
          have Hst := hide' hstep
          have Hkp := hide' hkp
          clear hstep hkp hlk c0 c1 c2 c3 c4 c5 c6 c7 hf tc0 tc1 tc2
          by_cases he : (lstep L t.kind t.text.length).err = 0
          · rw [he] at d7
            have He := hide' he
            clear he
            go_wp2_with fail
            go_roundw
            case rel =>
              refine ⟨k + 1, lstep L t.kind t.text.length, ov', by omega, by go_num, hbel1, Hlk.out, lstep_inv Hinv.out _ _, He.out, ?_⟩
              rw [← Hlov.out, Hhere.out, if_neg Hn4.out, if_neg (by simp [He.out])]
            case measure => simp [intOf]; omega
          · have hne : (((lstep L t.kind t.text.length).err : Int) != 0) = true := by rw [bne_iff_ne]; omega
            have He := hide' he
            clear he
            go_wp2_with fail
            go_quiet (fail)
            go_wp2_with fail
            go_ret2
            refine ⟨ret_two ?_ ?_, ?_⟩
            · rw [← Hlov.out, Hhere.out, if_neg Hn4.out, if_pos He.out]
            · rw [← Hlov.out, Hhere.out, if_neg Hn4.out, if_pos He.out]
            · exact hbel1.trans ⟨rfl, rfl, rfl, Nat.le_refl _, fun _ _ => rfl⟩
      · rw [hw] at c0
        have Hw := hide' hw
        clear hw
        by_cases k4 : t.kind = 4
        · have Hn4 : Hid (¬ (t.kind = 4 ∧ (L.want = 5 ∨ L.want = 0))) := by rw [Hw.out]; intro h; omega
          have k4' : ((t.kind : Int) == 4) = true := by rw [beq_iff_eq]; omega
          clear k4
          go_wp2_with fail
          refine (follows_all _ w.heap.size w.heap.size L ov t.kind _ ⟨t.text.toArray⟩ ?_ (Nat.le_refl _) (Hinv.out.mono (by omega))).mono ?_
          · exact Hlook.out.later (S := noBlock) ((Kept.refl _ _).alloc _) (fun h => h) (fun _ _ h => h)
          rintro e w1 ⟨rfl, ov', hkp, hlk⟩
          have hbel1 := over_kept hbel Hlook.out _ hkp
          have hbox2 : w1.cell? ⟨wr.heap.size, 2, none⟩ = some (.int .i64 t.pos) := over_box Hlook.out _ _ hkp 2 _ rfl
          have hstep : lfollows L t.kind = lstep L t.kind t.text.length := by simp [lstep, Hw.out, ByteArray.size]
          rw [hstep] at hlk
          have Hlk := hide' hlk
          have d7 := hlk.facts.2.1.2.2.2.2.2.2.2
          have hb1 := hlk.facts.1
          have df := hlk.facts.2.2
          have Hst := hide' hstep
          have Hkp := hide' hkp
          clear hstep hkp hlk c0 c1 c2 c3 c4 c5 c6 c7 hf tc0 tc1 tc2
          by_cases he : (lstep L t.kind t.text.length).err = 0
          · rw [he] at d7
            have He := hide' he
            clear he
            go_wp2_with fail
            go_roundw
            case rel =>
              refine ⟨k + 1, lstep L t.kind t.text.length, ov', by omega, by go_num, hbel1, Hlk.out, lstep_inv Hinv.out _ _, He.out, ?_⟩
              rw [← Hlov.out, Hhere.out, if_neg Hn4.out, if_neg (by simp [He.out])]
            case measure => simp [intOf]; omega
          · have hne : (((lstep L t.kind t.text.length).err : Int) != 0) = true := by rw [bne_iff_ne]; omega
            have He := hide' he
            clear he
            go_wp2_with fail
            go_quiet (fail)
            go_wp2_with fail
            go_ret2
            refine ⟨ret_two ?_ ?_, ?_⟩
            · rw [← Hlov.out, Hhere.out, if_neg Hn4.out, if_pos He.out]
            · rw [← Hlov.out, Hhere.out, if_neg Hn4.out, if_pos He.out]
            · exact hbel1.trans ⟨rfl, rfl, rfl, Nat.le_refl _, fun _ _ => rfl⟩
        · have Hn4 : Hid (¬ (t.kind = 4 ∧ (L.want = 5 ∨ L.want = 0))) := by rw [Hw.out]; intro h; omega
          have k4' : ((t.kind : Int) == 4) = false := by rw [beq_eq_false_iff_ne]; omega
          clear k4
          go_wp2_with fail
          refine (follows_all _ w.heap.size w.heap.size L ov t.kind _ ⟨t.text.toArray⟩ ?_ (Nat.le_refl _) (Hinv.out.mono (by omega))).mono ?_
          · exact Hlook.out.later (S := noBlock) ((Kept.refl _ _).alloc _) (fun h => h) (fun _ _ h => h)
          rintro e w1 ⟨rfl, ov', hkp, hlk⟩
          have hbel1 := over_kept hbel Hlook.out _ hkp
          have hbox2 : w1.cell? ⟨wr.heap.size, 2, none⟩ = some (.int .i64 t.pos) := over_box Hlook.out _ _ hkp 2 _ rfl
          have hstep : lfollows L t.kind = lstep L t.kind t.text.length := by simp [lstep, Hw.out, ByteArray.size]
          rw [hstep] at hlk
          have Hlk := hide' hlk
          have d7 := hlk.facts.2.1.2.2.2.2.2.2.2
          have hb1 := hlk.facts.1
          have df := hlk.facts.2.2
          have Hst := hide' hstep
          have Hkp := hide' hkp
          clear hstep hkp hlk c0 c1 c2 c3 c4 c5 c6 c7 hf tc0 tc1 tc2
          by_cases he : (lstep L t.kind t.text.length).err = 0
          · rw [he] at d7
            have He := hide' he
            clear he
            go_wp2_with fail
            go_roundw
            case rel =>
              refine ⟨k + 1, lstep L t.kind t.text.length, ov', by omega, by go_num, hbel1, Hlk.out, lstep_inv Hinv.out _ _, He.out, ?_⟩
              rw [← Hlov.out, Hhere.out, if_neg Hn4.out, if_neg (by simp [He.out])]
            case measure => simp [intOf]; omega
          · have hne : (((lstep L t.kind t.text.length).err : Int) != 0) = true := by rw [bne_iff_ne]; omega
            have He := hide' he
            clear he
            go_wp2_with fail
            go_quiet (fail)
            go_wp2_with fail
            go_ret2
            refine ⟨ret_two ?_ ?_, ?_⟩
            · rw [← Hlov.out, Hhere.out, if_neg Hn4.out, if_pos He.out]
            · rw [← Hlov.out, Hhere.out, if_neg Hn4.out, if_pos He.out]
            · exact hbel1.trans ⟨rfl, rfl, rfl, Nat.le_refl _, fun _ _ => rfl⟩
      · rw [hw] at c0
        have Hw := hide' hw
        clear hw
        by_cases k4 : t.kind = 4
        · have Hh := hide' (Hhere.out.trans (if_pos ⟨k4, by rw [Hw.out]; omega⟩))
          have k4' : ((t.kind : Int) == 4) = true := by rw [beq_iff_eq]; omega
          clear k4
          go_wp2
          go_ret2
          refine ⟨ret_two ?_ ?_, ?_⟩
          · rw [← Hlov.out, Hh.out]; rfl
          · rw [← Hlov.out, Hh.out]; rfl
          · exact hbel.alloc hbel.size _
        · have Hn4 : Hid (¬ (t.kind = 4 ∧ (L.want = 5 ∨ L.want = 0))) := by rw [Hw.out]; intro h; omega
          have k4' : ((t.kind : Int) == 4) = false := by rw [beq_eq_false_iff_ne]; omega
          clear k4
          have He2 : Hid ((lstep L t.kind t.text.length).err = 2) := by show _ = 2; simp [lstep, Hw.out]
          go_wp2_with fail
          go_quiet (fail)
          go_wp2_with fail
          go_ret2
          refine ⟨ret_two ?_ ?_, ?_⟩
          · rw [← Hlov.out, Hhere.out, if_neg Hn4.out, if_pos (by rw [He2.out]; omega), He2.out]; rfl
          · rw [← Hlov.out, Hhere.out, if_neg Hn4.out, if_pos (by rw [He2.out]; omega)]
          · exact (((hbel.setCell (Nat.le_refl _) _).alloc (by have := hbel.size; simp; omega) _)).trans ⟨rfl, rfl, rfl, Nat.le_refl _, fun _ _ => rfl⟩
    · have Hend : Hid (lover (ts.drop k) L = (0, 0)) := by show _ = _; rw [List.drop_eq_nil_of_le (by omega)]; rfl
      go_wp2
      go_ret2
      refine ⟨ret_two ?_ ?_, hbel⟩
      · rw [← Hlov.out, Hend.out]; rfl
      · rw [← Hlov.out, Hend.out]; rfl

end Go.Proofs.YtcbckkenifmchaaGreatDoor
