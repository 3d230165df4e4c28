/-
  PROVED HERE: the reference's 'Tokens' gives, of a text of at most 4096 bytes, its tokens and an End behind them, in a row of its own; nothing that was there turns.
-/
import Derived.Test.YtcbckkenifmchaaGreatDoorRefLeaf
import Derived.Lib.Strings
namespace Go.Proofs.YtcbckkenifmchaaGreatDoor
open Go.RowKit

theorem Tryz.infoTok : (Tryz.prog.info? 121).map (fun i => (i.zero, i.size, i.bytes)) = some (some (.agg #[.int .i64 0, .string ⟨#[]⟩, .int .i64 0]), 3, 32) := by kernel_rfl

theorem hide' {p : Prop} (h : p) : Hid p := h
/-- A token's three cells. -/
def tokCells (t : Tok) : List Value := [.int .i64 t.kind, .string ⟨t.text.toArray⟩, .int .i64 t.pos]
def toksCells (l : List Tok) : List Value := l.flatMap tokCells

theorem tok_one (x z : Int) (y : ByteArray) : ∀ u ∈ (#[Value.int .i64 x, .string y, .int .i64 z] : Array Value).toList, u.oneCell' = true := by
  intro u hu
  simp at hu
  rcases hu with rfl | rfl | rfl <;> rfl

theorem blank_facts {c : UInt8} (h : blank c = true) : ((c.toNat : Int) == 32) = true ∨ (((c.toNat : Int) == 32) = false ∧ ((c.toNat : Int) == 10) = true) := by
  have := allBytes (p := fun c => !blank c || ((c.toNat : Int) == 32) || ((c.toNat : Int) == 10)) (by decide +kernel) c
  rw [h] at this
  cases h1 : ((c.toNat : Int) == 32) <;> simp_all
theorem not_blank {c : UInt8} (h : blank c = false) : ((c.toNat : Int) == 32) = false ∧ ((c.toNat : Int) == 10) = false := by
  have := allBytes (p := fun c => blank c || (!((c.toNat : Int) == 32) && !((c.toNat : Int) == 10))) (by decide +kernel) c
  rw [h] at this
  simpa using this

theorem sign_not_zero {c : UInt8} (h : inB c signs = true) : ((c.toNat : Int) == 0) = false := by
  have := allBytes (p := fun c => !inB c signs || !((c.toNat : Int) == 0)) (by decide +kernel) c
  rw [h] at this
  simpa using this
theorem next_is {s : ByteArray} {k : Nat} {c : UInt8} (h : (s.data.toList.drop k).head? = some c) : ∃ h : k < s.size, ((s[k].toNat : Int) == (c.toNat : Int)) = true := by
  by_cases hl : k < s.size
  · rw [drop_cons s k hl] at h
    simp at h
    exact ⟨hl, by rw [h]; simp⟩
  · rw [drop_none s k hl] at h; simp at h
theorem next_not {s : ByteArray} {k : Nat} {c : UInt8} (hl : k < s.size) (h : ¬ (s.data.toList.drop k).head? = some c) : ((s[k].toNat : Int) == (c.toNat : Int)) = false := by
  rw [drop_cons s k hl] at h
  simp at h
  rw [beq_eq_false_iff_ne]
  intro e
  exact h (UInt8.toNat_inj.1 (by omega))

/-- The walk's step: a token more. -/
theorem toks_step {s : ByteArray} {w wr : World} {k to kd : Nat} {done : List Tok} {v v' : Value} {w1 : World} {x : List Value} (hk : k < s.size) (hd : s.data.toList.drop k = s[k] :: s.data.toList.drop (k + 1)) (hb : blank s[k] = false)
    (hto : to = k + (headOf s[k] (s.data.toList.drop (k + 1))).2 + 1) (hkd : kd = (headOf s[k] (s.data.toList.drop (k + 1))).1) (hdk : done.length ≤ k)
    (hdone : done ++ toks (s.data.toList.drop k) k = toks s.data.toList 0) (hbel : Below w.heap.size w wr) (hown : wr.ownsRow w.heap.size 121 3 v done.length (toksCells done))
    (hA : Appended wr w.heap.size 121 3 v (done.length + 1) x v' w1) (hx : x = toksCells done ++ [.int .i64 kd, .string (s.extract k to), .int .i64 k]) :
    ∃ (j : Nat) (done' : List Tok), j ≤ s.size ∧ to = j ∧ done'.length ≤ j ∧ done' ++ toks (s.data.toList.drop j) j = toks s.data.toList 0 ∧ Below w.heap.size w w1 ∧
      w1.ownsRow w.heap.size 121 3 v' done'.length (toksCells done') := by
  have hle := headOf_le s[k] (s.data.toList.drop (k + 1))
  have hlen : (s.data.toList.drop (k + 1)).length = s.size - (k + 1) := by simp
  have hext : s.extract k to = ⟨((s[k] :: s.data.toList.drop (k + 1)).take ((headOf s[k] (s.data.toList.drop (k + 1))).2 + 1)).toArray⟩ := by
    rw [← hd]
    apply ByteArray.ext
    apply Array.ext'
    rw [Lib.extract_data]
    have : to - k = (headOf s[k] (s.data.toList.drop (k + 1))).2 + 1 := by omega
    rw [this]
  refine ⟨to, done ++ [⟨kd, (s[k] :: s.data.toList.drop (k + 1)).take ((headOf s[k] (s.data.toList.drop (k + 1))).2 + 1), k⟩], ?_, rfl, ?_, ?_, ?_, ?_⟩
  · omega
  · simp; omega
  · rw [hd, toks_cons _ _ _ hb] at hdone
    rw [← hdone, List.append_assoc, List.drop_drop]
    have h1 : k + 1 + (headOf s[k] (s.data.toList.drop (k + 1))).2 = to := by omega
    rw [h1, ← hto, ← hkd]
    rfl
  · exact hbel.trans ((hA.kept.below hbel.size (fun i hi => by
      rcases hown.lt i hi with ⟨h, _⟩; exact h)))
  · have := hA.owns
    rw [hx, hext] at this
    simpa [toksCells, tokCells] using this

set_option maxRecDepth 100000 in
set_option maxHeartbeats 1000000 in
theorem tokens_any (s : ByteArray) (w : World) (hs : s.size ≤ 4096) :
    Calls Tryz.prog 60 #[.string s] w fun e w' => ∃ v, e = .returned v ∧ Below w.heap.size w w' ∧
      w'.ownsRow w.heap.size 121 3 v ((toks s.data.toList 0).length + 1) (toksCells (toks s.data.toList 0 ++ [⟨4, [], s.size⟩])) := by
  have hm : s.size ≤ maxLen := by unfold maxLen; omega
  go_enter Tryz.func60, Tryz.ntmps60
  go_wp2
  go_loopw [3, 4] (fun v i wr => ∃ (k : Nat) (done : List Tok), k ≤ s.size ∧ i = .int .i64 k ∧ done.length ≤ k ∧ done ++ toks (s.data.toList.drop k) k = toks s.data.toList 0 ∧ Below w.heap.size w wr ∧
      wr.ownsRow w.heap.size 121 3 v done.length (toksCells done)) (fun _ i _ => s.size - (intOf i).toNat)
  case atStart => exact ⟨0, [], Nat.zero_le _, rfl, Nat.le_refl _, rfl, Below.refl _ _, World.ownsRow_nil _ _ _ _⟩
  case round =>
    obtain ⟨k, done, hk, rfl, hdk, hdone, hbel, hown⟩ := hrel
    have Hdone : Hid (done ++ toks (s.data.toList.drop k) k = toks s.data.toList 0) := hdone
    have Hown : Hid (wr.ownsRow w.heap.size 121 3 _ done.length (toksCells done)) := hown
    clear hdone hown
    by_cases hlt : k < s.size
    · have hd := drop_cons s k hlt
      have Hd : Hid _ := hd
      clear hd
      cases hbl : blank s[k]
      case true =>
        have hdone' : Hid (done ++ toks (s.data.toList.drop (k + 1)) (k + 1) = toks s.data.toList 0) := by
          have h := Hdone.out; rw [Hd.out, toks_blank _ _ _ hbl] at h; exact h
        rcases blank_facts hbl with h32 | ⟨h32, h10⟩
        all_goals
          go_wp2_with fail
          refine (in_any _ little _ (by decide)).mono ?_; rintro e w' ⟨rfl, rfl⟩
          go_wp2_with fail
          refine (in_any _ great _ (by decide)).mono ?_; rintro e w' ⟨rfl, rfl⟩
          go_wp2_with fail
          refine (in_any _ signs _ (by decide)).mono ?_; rintro e w' ⟨rfl, rfl⟩
          go_wp2_with fail
          go_roundw
          case rel => exact ⟨k + 1, done, by omega, by go_num, by omega, hdone'.out, hbel, Hown.out⟩
          case measure => simp [intOf]; omega
      case false =>
        obtain ⟨h32, h10⟩ := not_blank hbl
        have Hbl : Hid (blank s[k] = false) := hbl
        clear hbl
        cases hA : inB s[k] little
        case true =>
          have Hhead : Hid (headOf s[k] (s.data.toList.drop (k + 1)) = (1, wordLen (s.data.toList.drop (k + 1)))) := by show _ = _; unfold headOf; rw [if_pos hA]
          have Hw : Hid (wordLen (s.data.toList.drop k) = wordLen (s.data.toList.drop (k + 1)) + 1) := by show _ = _; rw [Hd.out]; exact wordLen_yes _ _ (alnum_of_little (by assumption))
          have hwl : k + wordLen (s.data.toList.drop k) ≤ s.size := by have := wordLen_le (s.data.toList.drop k); simp at this; omega
          have hw1 : 1 ≤ wordLen (s.data.toList.drop k) := by have := Hw.out; omega
          go_wp2_with fail
          refine (in_any _ little _ (by decide)).mono ?_; rintro e w' ⟨rfl, rfl⟩
          go_wp2_with fail
          refine (in_any _ great _ (by decide)).mono ?_; rintro e w' ⟨rfl, rfl⟩
          go_wp2_with fail
          refine (in_any _ signs _ (by decide)).mono ?_; rintro e w' ⟨rfl, rfl⟩
          go_wp2_with fail
          refine (word_any _ _ _ hm (by omega)).mono ?_; rintro e w' ⟨rfl, rfl⟩
          go_wp2_with (at_builtin; refine wpList_append1 _ rfl (.tmp 66) (.tmp 74) 116 rfl w.heap.size 121 Tryz.infoTok Tryz.underlying116 rfl (by decide) _ done.length (toksCells done) rfl Hown.out _ rfl rfl rfl (tok_one _ _ _) ?_ hbel.size ?_)
          · omega
          intro v' w1 hap
          have Hap := hide' hap
          clear hap
          go_wp2
          go_roundw
          case rel =>
            obtain ⟨j, done', h1, h2, h3, h4, h5, h6⟩ := toks_step hlt Hd.out Hbl.out (by rw [Hhead.out]; have := Hw.out; omega) (by simp [Hhead.out]) hdk Hdone.out hbel Hown.out Hap.out rfl
            exact ⟨j, done', h1, by rw [← h2]; go_num, h3, h4, h5, h6⟩
          case measure => simp [intOf]; omega
        case false =>
         cases hB : inB s[k] great
         case true =>
          have Hhead : Hid (headOf s[k] (s.data.toList.drop (k + 1)) = (2, wordLen (s.data.toList.drop (k + 1)))) := by show _ = _; unfold headOf; rw [if_neg (by simp [hA]), if_pos hB]
          have Hw : Hid (wordLen (s.data.toList.drop k) = wordLen (s.data.toList.drop (k + 1)) + 1) := by show _ = _; rw [Hd.out]; exact wordLen_yes _ _ (alnum_of_great (by assumption))
          have hwl : k + wordLen (s.data.toList.drop k) ≤ s.size := by have := wordLen_le (s.data.toList.drop k); simp at this; omega
          have hw1 : 1 ≤ wordLen (s.data.toList.drop k) := by have := Hw.out; omega
          go_wp2_with fail
          refine (in_any _ little _ (by decide)).mono ?_; rintro e w' ⟨rfl, rfl⟩
          go_wp2_with fail
          refine (in_any _ great _ (by decide)).mono ?_; rintro e w' ⟨rfl, rfl⟩
          go_wp2_with fail
          refine (in_any _ signs _ (by decide)).mono ?_; rintro e w' ⟨rfl, rfl⟩
          go_wp2_with fail
          refine (word_any _ _ _ hm (by omega)).mono ?_; rintro e w' ⟨rfl, rfl⟩
          go_wp2_with (at_builtin; refine wpList_append1 _ rfl (.tmp 66) (.tmp 74) 116 rfl w.heap.size 121 Tryz.infoTok Tryz.underlying116 rfl (by decide) _ done.length (toksCells done) rfl Hown.out _ rfl rfl rfl (tok_one _ _ _) ?_ hbel.size ?_)
          · omega
          intro v' w1 hap
          have Hap := hide' hap
          clear hap
          go_wp2
          go_roundw
          case rel =>
            obtain ⟨j, done', h1, h2, h3, h4, h5, h6⟩ := toks_step hlt Hd.out Hbl.out (by rw [Hhead.out]; have := Hw.out; omega) (by simp [Hhead.out]) hdk Hdone.out hbel Hown.out Hap.out rfl
            exact ⟨j, done', h1, by rw [← h2]; go_num, h3, h4, h5, h6⟩
          case measure => simp [intOf]; omega
         case false =>
          cases hC : inB s[k] signs
          case true =>
           have Hhead : Hid (headOf s[k] (s.data.toList.drop (k + 1)) = (s[k].toNat, 0)) := by show _ = _; unfold headOf; rw [if_neg (by simp [hA]), if_neg (by simp [hB]), if_pos hC]
           have hne0 : ((s[k].toNat : Int) == 0) = false := sign_not_zero hC
           have hby : (s[k].toNat : Int) < 256 := by have := s[k].toNat_lt; omega
           go_wp2_with fail
           refine (in_any _ little _ (by decide)).mono ?_; rintro e w' ⟨rfl, rfl⟩
           go_wp2_with fail
           refine (in_any _ great _ (by decide)).mono ?_; rintro e w' ⟨rfl, rfl⟩
           go_wp2_with fail
           refine (in_any _ signs _ (by decide)).mono ?_; rintro e w' ⟨rfl, rfl⟩
           go_wp2_with (at_builtin; refine wpList_append1 _ rfl (.tmp 66) (.tmp 74) 116 rfl w.heap.size 121 Tryz.infoTok Tryz.underlying116 rfl (by decide) _ done.length (toksCells done) rfl Hown.out _ rfl rfl rfl (tok_one _ _ _) ?_ hbel.size ?_)
           · omega
           intro v' w1 hap
           have Hap := hide' hap
           clear hap
           go_wp2
           go_roundw
           case rel =>
             obtain ⟨j, done', h1, h2, h3, h4, h5, h6⟩ := toks_step (to := k + 1) (kd := s[k].toNat) hlt Hd.out Hbl.out (by simp [Hhead.out]) (by simp [Hhead.out]) hdk Hdone.out hbel Hown.out Hap.out (by first | rfl | simp [wrap64_byte])
             exact ⟨j, done', h1, by rw [← h2]; go_num, h3, h4, h5, h6⟩
           case measure => simp [intOf]; omega
          case false =>
           by_cases hD : s[k] = 58 ∧ (s.data.toList.drop (k + 1)).head? = some 45
           · have Hhead : Hid (headOf s[k] (s.data.toList.drop (k + 1)) = (3, 1)) := by show _ = _; unfold headOf; rw [if_neg (by simp [hA]), if_neg (by simp [hB]), if_neg (by simp [hC]), if_pos hD]
             obtain ⟨hl2, h45'⟩ := next_is hD.2
             have h45 : ((s[k + 1].toNat : Int) == 45) = true := h45'
             clear h45'
             have h58 : ((s[k].toNat : Int) == 58) = true := by rw [hD.1]; rfl
             clear hD
             go_wp2_with fail
             refine (in_any _ little _ (by decide)).mono ?_; rintro e w' ⟨rfl, rfl⟩
             go_wp2_with fail
             refine (in_any _ great _ (by decide)).mono ?_; rintro e w' ⟨rfl, rfl⟩
             go_wp2_with fail
             refine (in_any _ signs _ (by decide)).mono ?_; rintro e w' ⟨rfl, rfl⟩
             go_wp2_with (at_builtin; refine wpList_append1 _ rfl (.tmp 66) (.tmp 74) 116 rfl w.heap.size 121 Tryz.infoTok Tryz.underlying116 rfl (by decide) _ done.length (toksCells done) rfl Hown.out _ rfl rfl rfl (tok_one _ _ _) ?_ hbel.size ?_)
             · omega
             intro v' w1 hap
             have Hap := hide' hap
             clear hap
             go_wp2
             go_roundw
             case rel =>
               obtain ⟨j, done', h1, h2, h3, h4, h5, h6⟩ := toks_step hlt Hd.out Hbl.out (by simp [Hhead.out]) (by simp [Hhead.out]) hdk Hdone.out hbel Hown.out Hap.out rfl
               exact ⟨j, done', h1, by rw [← h2]; go_num, h3, h4, h5, h6⟩
             case measure => simp [intOf]; omega
           · have Hhead : Hid (headOf s[k] (s.data.toList.drop (k + 1)) = (5, 0)) := by show _ = _; unfold headOf; rw [if_neg (by simp [hA]), if_neg (by simp [hB]), if_neg (by simp [hC]), if_neg hD]
             cases h58 : ((s[k].toNat : Int) == 58)
             · clear hD
               go_wp2_with fail
               refine (in_any _ little _ (by decide)).mono ?_; rintro e w' ⟨rfl, rfl⟩
               go_wp2_with fail
               refine (in_any _ great _ (by decide)).mono ?_; rintro e w' ⟨rfl, rfl⟩
               go_wp2_with fail
               refine (in_any _ signs _ (by decide)).mono ?_; rintro e w' ⟨rfl, rfl⟩
               go_wp2_with (at_builtin; refine wpList_append1 _ rfl (.tmp 66) (.tmp 74) 116 rfl w.heap.size 121 Tryz.infoTok Tryz.underlying116 rfl (by decide) _ done.length (toksCells done) rfl Hown.out _ rfl rfl rfl (tok_one _ _ _) ?_ hbel.size ?_)
               · omega
               intro v' w1 hap
               have Hap := hide' hap
               clear hap
               go_wp2
               go_roundw
               case rel =>
                 obtain ⟨j, done', h1, h2, h3, h4, h5, h6⟩ := toks_step hlt Hd.out Hbl.out (by simp [Hhead.out]) (by simp [Hhead.out]) hdk Hdone.out hbel Hown.out Hap.out rfl
                 exact ⟨j, done', h1, by rw [← h2]; go_num, h3, h4, h5, h6⟩
               case measure => simp [intOf]; omega
             · have hD' : ¬ (s.data.toList.drop (k + 1)).head? = some 45 := fun h => hD ⟨byte_eq (b := 58) h58, h⟩
               clear hD
               by_cases hl2 : k + 1 < s.size
               · have h45 : ((s[k + 1].toNat : Int) == 45) = false := next_not hl2 hD'
                 clear hD'
                 go_wp2_with fail
                 refine (in_any _ little _ (by decide)).mono ?_; rintro e w' ⟨rfl, rfl⟩
                 go_wp2_with fail
                 refine (in_any _ great _ (by decide)).mono ?_; rintro e w' ⟨rfl, rfl⟩
                 go_wp2_with fail
                 refine (in_any _ signs _ (by decide)).mono ?_; rintro e w' ⟨rfl, rfl⟩
                 go_wp2_with (at_builtin; refine wpList_append1 _ rfl (.tmp 66) (.tmp 74) 116 rfl w.heap.size 121 Tryz.infoTok Tryz.underlying116 rfl (by decide) _ done.length (toksCells done) rfl Hown.out _ rfl rfl rfl (tok_one _ _ _) ?_ hbel.size ?_)
                 · omega
                 intro v' w1 hap
                 have Hap := hide' hap
                 clear hap
                 go_wp2
                 go_roundw
                 case rel =>
                   obtain ⟨j, done', h1, h2, h3, h4, h5, h6⟩ := toks_step hlt Hd.out Hbl.out (by simp [Hhead.out]) (by simp [Hhead.out]) hdk Hdone.out hbel Hown.out Hap.out rfl
                   exact ⟨j, done', h1, by rw [← h2]; go_num, h3, h4, h5, h6⟩
                 case measure => simp [intOf]; omega
               · clear hD'
                 go_wp2_with fail
                 refine (in_any _ little _ (by decide)).mono ?_; rintro e w' ⟨rfl, rfl⟩
                 go_wp2_with fail
                 refine (in_any _ great _ (by decide)).mono ?_; rintro e w' ⟨rfl, rfl⟩
                 go_wp2_with fail
                 refine (in_any _ signs _ (by decide)).mono ?_; rintro e w' ⟨rfl, rfl⟩
                 go_wp2_with (at_builtin; refine wpList_append1 _ rfl (.tmp 66) (.tmp 74) 116 rfl w.heap.size 121 Tryz.infoTok Tryz.underlying116 rfl (by decide) _ done.length (toksCells done) rfl Hown.out _ rfl rfl rfl (tok_one _ _ _) ?_ hbel.size ?_)
                 · omega
                 intro v' w1 hap
                 have Hap := hide' hap
                 clear hap
                 go_wp2
                 go_roundw
                 case rel =>
                   obtain ⟨j, done', h1, h2, h3, h4, h5, h6⟩ := toks_step hlt Hd.out Hbl.out (by simp [Hhead.out]) (by simp [Hhead.out]) hdk Hdone.out hbel Hown.out Hap.out rfl
                   exact ⟨j, done', h1, by rw [← h2]; go_num, h3, h4, h5, h6⟩
                 case measure => simp [intOf]; omega
    · have Hfin : Hid (done = toks s.data.toList 0) := by
        have h := Hdone.out; rw [drop_none s k hlt] at h; show done = _; simpa [toks_nil] using h
      go_wp2_with (at_builtin; refine wpList_append1 _ rfl (.tmp 77) (.tmp 81) 116 rfl w.heap.size 121 Tryz.infoTok Tryz.underlying116 rfl (by decide) _ done.length (toksCells done) rfl Hown.out _ rfl rfl rfl (tok_one _ _ _) ?_ hbel.size ?_)
      · omega
      intro v' w1 hap
      have Hap := hide' hap
      clear hap
      go_wp2
      go_ret
      have ha := Hap.out
      rw [Hfin.out] at ha
      refine ⟨v', rfl, hbel.trans (ha.kept.below hbel.size (fun i hi => (Hown.out.lt i hi).1)), ?_⟩
      simpa [toksCells, tokCells] using ha.owns

end Go.Proofs.YtcbckkenifmchaaGreatDoor
