/-
  PROVED HERE: what the program's 'clause.atomText' answers (the conditions stand in each statement).
-/
import Derived.Test.YtcbckkenifmchaaGreatDoorCodeName
import Derived.Test.YtcbckkenifmchaaGreatDoorCodeAll
namespace Go.Proofs.YtcbckkenifmchaaGreatDoor
open Go.RowKit
set_option linter.unusedSimpArgs false
set_option linter.unusedVariables false

/-- What a term that ends writes: of each open bracket how many of its terms are not yet whole, the innermost first. -/
def closes : List Nat → List UInt8 × List Nat
  | [] => ([], [])
  | n :: r => if 1 < n then ([44], (n - 1) :: r) else (41 :: (closes r).1, (closes r).2)
/-- How the program writes an atom. -/
def atomC : List Sym → List Nat → List UInt8
  | [], _ => []
  | s :: r, miss => if 0 < s.args then symC s ++ 40 :: atomC r (s.args :: miss) else symC s ++ ((closes miss).1 ++ atomC r (closes miss).2)

theorem cat_len {a b c : List UInt8} (h : a ++ b = c) : a.length + b.length = c.length := by rw [← h]; simp

set_option maxRecDepth 10000 in
set_option maxHeartbeats 2000000 in
theorem atomText_any (w : World) (B : Nat) (v : Value) (l : List Sym) (ho : w.ownsRow B 168 3 v l.length (symsCells l)) (hl : l.length ≤ 4000) (hn : ∀ s ∈ l, s.num < 2600 ∧ s.args ≤ 4096) (hL : (atomC l []).length ≤ 100000000) :
    Calls Tryz.prog 81 #[v] w fun e w' => e = .returned (.string ⟨(atomC l []).toArray⟩) ∧ Below w.heap.size w w' := by
  obtain ⟨F, hF⟩ : ∃ F, F = atomC l [] := ⟨_, rfl⟩
  rw [← hF] at hL ⊢
  obtain ⟨va, vcap, rfl⟩ := owns_slice ho
  have Ho := hide' ho
  have HF := hide' hF
  have Hn := hide' hn
  clear ho hF hn
  go_enter Tryz.func81, Tryz.ntmps81
  go_wp2
  go_loopg [3, 4, 10] (l.length + 1) (fun gk tx mv i wr => ∃ (k : Nat) (acc : List UInt8) (miss : List Nat), i = .int .i64 k ∧ k ≤ l.length ∧ l.length - k < gk ∧ tx = .string ⟨acc.toArray⟩ ∧ acc ++ atomC (l.drop k) miss = F ∧
      wr.ownsRow w.heap.size 3 1 mv miss.length (ints miss.reverse) ∧ Below w.heap.size w wr ∧ miss.length ≤ k ∧ ∀ m ∈ miss, 1 ≤ m ∧ m ≤ 4096)
  case atStart => exact ⟨0, [], [], rfl, Nat.zero_le _, by omega, rfl, by rw [HF.out]; rfl, World.ownsRow_nil _ _ _ _, Below.refl _ _, Nat.zero_le _, by simp⟩
  case round =>
    obtain ⟨k, acc, miss, rfl, hk, hgk, rfl, hacc, hmo, hbw, hmk, hmm⟩ := hrel
    obtain ⟨ma, mcap, rfl⟩ := owns_slice hmo
    have hsz := hbw.size
    by_cases hlt : k < l.length
    · obtain ⟨s, hs⟩ : ∃ s, l[k]? = some s := ⟨_, List.getElem?_eq_getElem hlt⟩
      have hd : l.drop k = s :: l.drop (k + 1) := by
        rw [List.drop_eq_getElem_cons hlt]
        rw [List.getElem?_eq_getElem hlt] at hs
        simp at hs
        rw [hs]
      rw [hd, atomC] at hacc
      obtain ⟨hsn, hsa⟩ := Hn.out s (List.mem_of_getElem? hs)
      have ho := (Kept.untouched hbw).owns Ho.out (fun _ _ h => h)
      obtain ⟨g, cap', cur, he, hBg, hg, hcp⟩ := owns_some ho (by omega)
      simp only [Value.slice.injEq] at he
      obtain ⟨rfl, _, rfl⟩ := he
      have hgl : g < w.heap.size := (Ho.out.lt g rfl).2
      have e0 : wr.cell? ⟨g, k * 3, none⟩ = some (.string ⟨s.name.toArray⟩) := owns_cell ho _ _ (by have := symsCells_at l k s hs 0 (by omega); rw [Nat.add_zero] at this; rw [this]; rfl)
      have e1 : wr.cell? ⟨g, k * 3 + 1, none⟩ = some (.int .i64 s.num) := owns_cell ho _ _ (by rw [symsCells_at l k s hs 1 (by omega)]; rfl)
      have e2 : wr.cell? ⟨g, k * 3 + 2, none⟩ = some (.int .i64 s.args) := owns_cell ho _ _ (by rw [symsCells_at l k s hs 2 (by omega)]; rfl)
      have Hacc := hide' hacc
      have Hmo := hide' hmo
      have Hbw := hide' hbw
      have Hmm := hide' hmm
      have Hd := hide' hd
      clear hacc hmo hbw hmm hd hs ho hg
      go_wp2_with fail
      refine (symbolText_any s _ hsn).mono ?_
      rintro e w1 ⟨rfl, hb1⟩
      have hk1 : Kept noBlock wr w1 := ((Kept.refl _ wr).alloc _).trans (Kept.untouched hb1)
      have hbox : w1.heap[wr.heap.size]? = some (.cells #[.string ⟨s.name.toArray⟩, .int .i64 s.num, .int .i64 s.args] 168 (0, 0)) := (hb1.block _ (by simp)).trans (heap_alloc_new wr _)
      have b2 : w1.cell? ⟨wr.heap.size, 2, none⟩ = some (.int .i64 s.args) := cell_of_block hbox 2 _ rfl
      have bl := lt_of_block hbox
      have Hmo1 := hide' (hk1.owns Hmo.out (fun _ _ h => h))
      have Hbw1 := hide' (Hbw.out.trans (hk1.below hsz (fun _ h => h.elim)))
      have hlen := cat_len Hacc.out
      clear hk1 hbox hb1 e0 e1 e2
      by_cases ha : 0 < s.args
      · have Hacc2 : Hid (acc ++ symC s ++ [40] ++ atomC (l.drop (k + 1)) (s.args :: miss) = F) := by show _ = _; rw [← Hacc.out, if_pos ha]; simp
        rw [if_pos ha] at hlen
        simp only [List.length_append, List.length_cons] at hlen
        go_wp2_with (at_builtin; refine wpList_append1 _ rfl (.tmp 23) (.tmp 26) 28 rfl w.heap.size 3 Tryz.infoInt Tryz.underlying28 rfl (by decide) _ miss.length (ints miss.reverse) rfl Hmo1.out _ rfl (by simp) rfl (int_one _) ?_ ?_ ?_)
        · omega
        · omega
        intro v' w2 hap
        have Hap := hide' hap
        clear hap
        go_wp2
        go_roundg (l.length - k)
        case measure => omega
        case rel =>
          have hrow := Hap.out.owns
          refine ⟨k + 1, acc ++ symC s ++ [40], s.args :: miss, by go_num, by omega, by omega, ?_, Hacc2.out, ?_, ?_, by simp; omega, ?_⟩
          · show Value.string (_ ++ _ ++ (⟨[40].toArray⟩ : ByteArray)) = _
            rw [str_cat, str_cat]
          · simpa [ints] using hrow
          · refine Hbw1.out.trans (Hap.out.kept.below (by omega) (fun k hk => (Hmo1.out.lt k hk).1))
          · intro m hm
            simp only [List.mem_cons] at hm
            rcases hm with rfl | hm
            · exact ⟨ha, hsa⟩
            · exact Hmm.out m hm
      · have Hacc2 : Hid (acc ++ symC s ++ ((closes miss).1 ++ atomC (l.drop (k + 1)) (closes miss).2) = F) := by show _ = _; rw [← Hacc.out, if_neg ha]; simp
        rw [if_neg ha] at hlen
        simp only [List.length_append] at hlen
        go_wp2
        go_loopg [3, 4] (miss.length + 1) (fun gj ty mw wi => ∃ (acc' : List UInt8) (miss' : List Nat), miss'.length < gj ∧ ty = .string ⟨acc'.toArray⟩ ∧ acc' ++ ((closes miss').1 ++ atomC (l.drop (k + 1)) (closes miss').2) = F ∧
          wi.ownsRow w.heap.size 3 1 mw miss'.length (ints miss'.reverse) ∧ Below w.heap.size w wi ∧ miss'.length ≤ k ∧ ∀ m ∈ miss', 1 ≤ m ∧ m ≤ 4096)
        case atStart =>
          exact ⟨acc ++ symC s, miss, by omega, congrArg Value.string (str_cat _ _), Hacc2.out, Hmo1.out, Hbw1.out, hmk, Hmm.out⟩
        case round =>
          obtain ⟨acc', miss', hgj, rfl, hacc', hmo', hbw', hmk', hmm'⟩ := hrel
          obtain ⟨ma', mcap', rfl⟩ := owns_slice hmo'
          have hszi := hbw'.size
          have hlen' := cat_len hacc'
          simp only [List.length_append] at hlen'
          cases hm : miss' with
          | nil =>
            have Hacc' := hide' hacc'
            have Hmo' := hide' hmo'
            have Hbw' := hide' hbw'
            have Hm := hide' hm
            have hml : miss'.length = 0 := by rw [hm]; rfl
            clear hacc' hmo' hbw' hm
            go_wp2
            go_roundg (l.length - k)
            case measure => omega
            case rel =>
              refine ⟨k + 1, acc', [], by go_num, by omega, by omega, rfl, ?_, ?_, Hbw'.out, by simp, by simp⟩
              · have h := Hacc'.out
                rw [Hm.out] at h
                simpa [closes] using h
              · have h := Hmo'.out
                rw [Hm.out] at h
                exact h
          | cons n r =>
            subst hm
            obtain ⟨hn1, hn2⟩ := hmm' n (by simp)
            obtain ⟨g', gcap', gcur', he', hBg', hg', hcap'⟩ := owns_some hmo' (by simp)
            simp only [Value.slice.injEq] at he'
            obtain ⟨rfl, _, rfl⟩ := he'
            simp only [List.length_cons] at hcap' hmo' hgj hmk'
            have cg : wr.cell? ⟨g', r.length, none⟩ = some (.int .i64 n) := owns_cell hmo' r.length _ (by simp [ints])
            have fg := thawed_of_block hg' r.length
            have hgl' := lt_of_block hg'
            have Hset := hide' (owns_setg hmo' r.length (.int .i64 ((n : Int) - 1)))
            have Hacc' := hide' hacc'
            have Hbw' := hide' hbw'
            have Hmm' := hide' hmm'
            have Hbs := hide' (hbw'.setCell (p := ⟨g', r.length, none⟩) hBg' (.int .i64 ((n : Int) - 1)))
            clear hacc' hbw' hmm' hmo' hg'
            by_cases h1 : 1 < n
            · have Hcl : Hid (acc' ++ [44] ++ atomC (l.drop (k + 1)) ((n - 1) :: r) = F) := by show _ = _; rw [← Hacc'.out]; simp [closes, h1]
              have hl1 : (closes (n :: r)).1.length = 1 := by simp [closes, h1]
              rw [hl1] at hlen'
              have hd0 : (0 : Int) < (n : Int) - 1 := by omega
              go_wp2
              go_roundg (l.length - k)
              case measure => omega
              case rel =>
                have hcast : (n : Int) - 1 = ((n - 1 : Nat) : Int) := by omega
                refine ⟨k + 1, acc' ++ [44], (n - 1) :: r, by go_num, by omega, by omega, ?_, Hcl.out, ?_, Hbs.out, by simp; omega, ?_⟩
                · show Value.string (_ ++ (⟨[44].toArray⟩ : ByteArray)) = _
                  rw [str_cat]
                · have h := Hset.out
                  rw [hcast] at h ⊢
                  simpa [ints] using h
                · intro m hm
                  simp only [List.mem_cons] at hm
                  rcases hm with rfl | hm
                  · omega
                  · exact Hmm'.out m (by simp [hm])
            · have Hcl : Hid (acc' ++ [41] ++ ((closes r).1 ++ atomC (l.drop (k + 1)) (closes r).2) = F) := by show _ = _; rw [← Hacc'.out]; simp [closes, h1]
              have hl1 : (closes (n :: r)).1.length = (closes r).1.length + 1 := by simp [closes, h1]
              rw [hl1] at hlen'
              have hd0 : ¬ (0 : Int) < (n : Int) - 1 := by omega
              have Hpop := hide' (owns_pop (n := r.length) Hset.out)
              go_wp2
              go_roundg (r.length + 1)
              case measure => omega
              case rel =>
                refine ⟨acc' ++ [41], r, by omega, ?_, Hcl.out, ?_, Hbs.out, by omega, fun m hm => Hmm'.out m (by simp [hm])⟩
                · show Value.string (_ ++ (⟨[41].toArray⟩ : ByteArray)) = _
                  rw [str_cat]
                · have h := Hpop.out
                  have e : ((ints (n :: r).reverse).set r.length (.int .i64 ((n : Int) - 1))).take r.length = ints r.reverse := by
                    simp [ints, List.take_set]
                  rw [e] at h
                  exact h
    · have hke : k = l.length := by omega
      have Hacc : Hid (acc = F) := by
        show _ = _
        rw [hke, List.drop_eq_nil_of_le (Nat.le_refl _)] at hacc
        simpa [atomC] using hacc
      have Hbw := hide' hbw
      clear hacc hbw hmo
      go_wp2
      go_ret
      rw [← Hacc.out]
      exact ⟨rfl, Hbw.out⟩

end Go.Proofs.YtcbckkenifmchaaGreatDoor
