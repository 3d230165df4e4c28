/-
  PROVED HERE: what the functions of the program's package token answer (the conditions stand in each statement).
-/
import Derived.Test.YtlmjilpjmgjjcaaGreatDoorT1
import Derived.BigQuiet
import Derived.Deep.QuietTactic
import Derived.Deep.LoopGhost
set_option linter.unusedSimpArgs false
set_option linter.unusedVariables false
set_option maxRecDepth 10000
set_option maxHeartbeats 4000000
namespace Go.Proofs.YtlmjilpjmgjjcaaGreatDoor
open Go.RowKit
def Zbd (query:Bool):LookS:=⟨if query then 1 else 0,query,query,[],0,0,0,0⟩
theorem Zht (l:List Tok) (k:Nat) (t:Tok) (h:l[k]?=some t) (j:Nat) (hj:j<3):(Zbc l)[k * 3+j]?=(Zeh t)[j]?:=by
 induction l generalizing k with
 | nil=>simp at h
 | cons a l ih =>
  cases k with
  | zero =>
   simp at h; subst h
   show (Zeh a++Zbc l)[_]?=_
   rw [Qc (by simp [Zeh]; omega)]
   simp
  | succ k =>
   show (Zeh a++Zbc l)[_]?=_
   rw [Qd (by simp [Zeh]; omega)]
   rw [← ih k (by simpa using h)]
   congr 1
   simp [Zeh]
   omega
theorem Znw (ts:List Tok) (k:Nat) (t:Tok) (L:LookS) (h:ts[k]?=some t):Zcx (ts.drop k) L =
  if t.kind=4∧(L.want=5∨L.want=0) then (0,0)
  else if (Zat L t.kind t.text.length).err≠0 then ((Zat L t.kind t.text.length).err,t.pos)
  else Zcx (ts.drop (k+1)) (Zat L t.kind t.text.length):=by
 have hk:k<ts.length:=(Qa.1 h).1
 rw [List.drop_eq_getElem_cons hk]
 have:ts[k]=t:=(Qa.1 h).2
 rw [this]
 rfl
theorem Zcg {a b c d:Int} (h:a=c) (h':b=d):Ending.returned (.tuple #[.int .i64 a,.int .i64 b]) = .returned (.tuple #[.int .i64 c,.int .i64 d]):=by rw [h,h']
theorem Zcd {w wr w1:World} {ov:Value} {L:LookS} (hbel:Below w.heap.size w wr) (hl:IsLook wr w.heap.size w.heap.size L ov) (o:Obj) (h:Kept (Zdx w.heap.size ov) (wr.alloc o) w1):Below w.heap.size w w1 :=
 (hbel.alloc hbel.size o).trans (h.below (by have:=hbel.size; simp; omega) (fun k hk=>by
  rcases hk with rfl | hk
  ·exact Qe _
  ·exact (hl.opn.lt k hk).1))
theorem Zcr {wr w1:World} {b:Nat} {ov:Value} {L:LookS} {B:Nat} (hl:IsLook wr B b L ov) (cs:Array Value) (T:TypeId) (h:Kept (Zdx b ov) (wr.alloc (.cells cs T)) w1) (i:Nat) (v:Value) (hv:cs[i]?=some v) :
  w1.cell? ⟨wr.heap.size,i,none⟩=some v :=
 h.cell (Zcl wr cs T i v hv) (fun hk=>by
  rcases hk with hk | hk
  ·have:=Zac hl.blk
   have hk:wr.heap.size=b:=hk
   omega
  ·have:=(hl.opn.lt _ hk).2
   simp at this)
theorem Zwt (w:World) (Bt:Nat) (ts:List Tok) (v:Value) (hts:w.ownsRow Bt 243 3 v ts.length (Zbc ts)) (hn:ts.length≤3900) (htx:∀ t ∈ ts,t.text.length≤4096) :
  Calls Tryz.prog 142 #[v,.bool false] w fun e w' =>
   e = .returned (.tuple #[.int .i64 (Zcx ts (Zbd false)).1,.int .i64 (Zcx ts (Zbd false)).2])∧Below w.heap.size w w':=by
 obtain ⟨ta,tcap,rfl⟩:=Zad hts
 have Hts:=Zaa hts
 clear hts
 go_enter Tryz.func142,Tryz.ntmps142
 go_wp2
 go_loopw [7] (fun i wr=>∃ (k:Nat) (L:LookS) (ov:Value),k≤ts.length∧i = .int .i64 k∧Below w.heap.size w wr∧IsLook wr w.heap.size w.heap.size L ov∧LInv L k∧L.err=0 ∧
   Zcx (ts.drop k) L=Zcx ts (Zbd false)) (fun i _=>ts.length - (intOf i).toNat)
 case atStart=>exact ⟨0,Zbd false,.slice none 0 0,Qm _,rfl,(Below.refl _ _).alloc (Qe _) _,⟨heap_alloc_new w _,World.ownsRow_nil _ _ _ _⟩,⟨by simp [Zbd],fun e=>by simp [Zbd] at e,by simp [Zbd],by simp [Zbd],by simp [Zbd],by simp [Zbd],by simp [Zbd]⟩,rfl,rfl⟩
 case round =>
  obtain ⟨k,L,ov,hk,rfl,hbel,hlook,hinv,herr,hlov⟩:=hrel
  have Hlook:=Zaa hlook
  have Hinv:=Zaa hinv
  have Herr:=Zaa herr
  have Hlov:=Zaa hlov
  obtain ⟨hb,⟨c0,c1,c2,c3,c4,c5,c6,c7⟩,hf⟩:=hlook.facts
  rw [herr] at c7
  clear hlook hinv herr hlov
  by_cases hlt:k<ts.length
  ·obtain ⟨t,ht⟩:∃ t,ts[k]?=some t:=⟨_,Qb hlt⟩
   have hmem:t ∈ ts:=Qh ht
   have htt:ByteArray.size ⟨t.text.toArray⟩≤4096:=htx t hmem
   obtain ⟨g,tcap',tcur,he,hBg,hg,hcp⟩:=Zan Hts.out (by omega)
   simp only [Value.slice.injEq] at he
   obtain ⟨rfl,_,rfl⟩:=he
   have hgl:=Zac hg
   have tcell:∀ j v,j<3→(Zeh t)[j]?=some v→wr.cell? ⟨g,k * 3+j,none⟩=some v:=by
    intro j v hj hv
    exact (hbel.cell (p:=⟨g,k * 3+j,none⟩) hgl).trans (Zaf Hts.out (k * 3+j) v (by rw [Zht ts k t ht j hj]; exact hv))
   have tc0:wr.cell? ⟨g,k * 3,none⟩=some (.int .i64 t.kind):=tcell 0 _ (by omega) rfl
   have tc1:wr.cell? ⟨g,k * 3+1,none⟩=some (.string ⟨t.text.toArray⟩):=tcell 1 _ (by omega) rfl
   have tc2:wr.cell? ⟨g,k * 3+2,none⟩=some (.int .i64 t.pos):=tcell 2 _ (by omega) rfl
   have Hhere:=Zaa (Znw ts k t L ht)
   have hwant:=Hinv.out.want
   clear tcell ht hmem hg
   have hws:L.want=0∨L.want=1∨L.want=2∨L.want=3∨L.want=4∨L.want=5:=by omega
   clear hwant
   rcases hws with hw | hw | hw | hw | hw | hw
   ·rw [hw] at c0
    have Hw:=Zaa hw
    clear hw
    by_cases k4:t.kind=4
    ·have Hh:=Zaa (Hhere.out.trans (if_pos ⟨k4,by rw [Hw.out]; omega⟩))
     have k4':((t.kind:Int) == 4)=true:=by rw [beq_iff_eq]; omega
     clear k4
     go_wp2
     go_ret2
     refine ⟨Zcg ?_ ?_,?_⟩
     ·rw [← Hlov.out,Hh.out]; rfl
     ·rw [← Hlov.out,Hh.out]; rfl
     ·exact hbel.alloc hbel.size _
    ·have Hn4:Hid (¬ (t.kind=4∧(L.want=5∨L.want=0))):=by rw [Hw.out]; intro h; omega
     have k4':((t.kind:Int) == 4)=false:=by rw [Qu]; omega
     clear k4
     go_wp2_with fail
     refine (Zdn _ w.heap.size w.heap.size L ov t.kind _ ⟨t.text.toArray⟩ ?_ (Qe _) (Hinv.out.mono (by omega)) (by rw [Hw.out]; omega) htt).mono ?_
     ·exact Hlook.out.later (S:=Zbf) ((Qx _ _).alloc _) (fun h=>h) (fun _ _ h=>h)
     rintro e w1 ⟨rfl,ov',hkp,hlk⟩
     have hbel1:=Zcd hbel Hlook.out _ hkp
     have hbox2:w1.cell? ⟨wr.heap.size,2,none⟩=some (.int .i64 t.pos):=Zcr Hlook.out _ _ hkp 2 _ rfl
     have hstep:Zau L t.kind (ByteArray.size ⟨t.text.toArray⟩)=Zat L t.kind t.text.length:=by simp [Zat,Hw.out,ByteArray.size]
     rw [hstep] at hlk
     have Hlk:=Zaa hlk
     have d7:=hlk.facts.2.1.2.2.2.2.2.2.2
     have hb1:=hlk.facts.1
     have df:=hlk.facts.2.2
     have Hst:=Zaa hstep
     have Hkp:=Zaa hkp
     clear hstep hkp hlk c0 c1 c2 c3 c4 c5 c6 c7 hf tc0 tc1 tc2
     by_cases he:(Zat L t.kind t.text.length).err=0
     ·rw [he] at d7
      have He:=Zaa he
      clear he
      go_wp2_with fail
      go_roundw
      case rel =>
       refine ⟨k+1,Zat L t.kind t.text.length,ov',by omega,by go_num,hbel1,Hlk.out,Zcc Hinv.out _ _,He.out,?_⟩
       rw [← Hlov.out,Hhere.out,if_neg Hn4.out,if_neg (by simp [He.out])]
      case measure=>simp [intOf]; omega
     ·have hne:(((Zat L t.kind t.text.length).err:Int) != 0)=true:=by rw [bne_iff_ne]; omega
      have He:=Zaa he
      clear he
      go_wp2_with fail
      go_quiet (fail)
      go_wp2_with fail
      go_ret2
      refine ⟨Zcg ?_ ?_,?_⟩
      ·rw [← Hlov.out,Hhere.out,if_neg Hn4.out,if_pos He.out]
      ·rw [← Hlov.out,Hhere.out,if_neg Hn4.out,if_pos He.out]
      ·exact hbel1.trans ⟨rfl,rfl,rfl,Qe _,fun _ _=>rfl⟩
   ·rw [hw] at c0
    have Hw:=Zaa hw
    clear hw
    by_cases k4:t.kind=4
    ·have Hn4:Hid (¬ (t.kind=4∧(L.want=5∨L.want=0))):=by rw [Hw.out]; intro h; omega
     have k4':((t.kind:Int) == 4)=true:=by rw [beq_iff_eq]; omega
     clear k4
     go_wp2_with fail
     refine (Zdn _ w.heap.size w.heap.size L ov t.kind _ ⟨t.text.toArray⟩ ?_ (Qe _) (Hinv.out.mono (by omega)) (by rw [Hw.out]; omega) htt).mono ?_
     ·exact Hlook.out.later (S:=Zbf) ((Qx _ _).alloc _) (fun h=>h) (fun _ _ h=>h)
     rintro e w1 ⟨rfl,ov',hkp,hlk⟩
     have hbel1:=Zcd hbel Hlook.out _ hkp
     have hbox2:w1.cell? ⟨wr.heap.size,2,none⟩=some (.int .i64 t.pos):=Zcr Hlook.out _ _ hkp 2 _ rfl
     have hstep:Zau L t.kind (ByteArray.size ⟨t.text.toArray⟩)=Zat L t.kind t.text.length:=by simp [Zat,Hw.out,ByteArray.size]
     rw [hstep] at hlk
     have Hlk:=Zaa hlk
     have d7:=hlk.facts.2.1.2.2.2.2.2.2.2
     have hb1:=hlk.facts.1
     have df:=hlk.facts.2.2
     have Hst:=Zaa hstep
     have Hkp:=Zaa hkp
     clear hstep hkp hlk c0 c1 c2 c3 c4 c5 c6 c7 hf tc0 tc1 tc2
     by_cases he:(Zat L t.kind t.text.length).err=0
     ·rw [he] at d7
      have He:=Zaa he
      clear he
      go_wp2_with fail
      go_roundw
      case rel =>
       refine ⟨k+1,Zat L t.kind t.text.length,ov',by omega,by go_num,hbel1,Hlk.out,Zcc Hinv.out _ _,He.out,?_⟩
       rw [← Hlov.out,Hhere.out,if_neg Hn4.out,if_neg (by simp [He.out])]
      case measure=>simp [intOf]; omega
     ·have hne:(((Zat L t.kind t.text.length).err:Int) != 0)=true:=by rw [bne_iff_ne]; omega
      have He:=Zaa he
      clear he
      go_wp2_with fail
      go_quiet (fail)
      go_wp2_with fail
      go_ret2
      refine ⟨Zcg ?_ ?_,?_⟩
      ·rw [← Hlov.out,Hhere.out,if_neg Hn4.out,if_pos He.out]
      ·rw [← Hlov.out,Hhere.out,if_neg Hn4.out,if_pos He.out]
      ·exact hbel1.trans ⟨rfl,rfl,rfl,Qe _,fun _ _=>rfl⟩
    ·have Hn4:Hid (¬ (t.kind=4∧(L.want=5∨L.want=0))):=by rw [Hw.out]; intro h; omega
     have k4':((t.kind:Int) == 4)=false:=by rw [Qu]; omega
     clear k4
     go_wp2_with fail
     refine (Zdn _ w.heap.size w.heap.size L ov t.kind _ ⟨t.text.toArray⟩ ?_ (Qe _) (Hinv.out.mono (by omega)) (by rw [Hw.out]; omega) htt).mono ?_
     ·exact Hlook.out.later (S:=Zbf) ((Qx _ _).alloc _) (fun h=>h) (fun _ _ h=>h)
     rintro e w1 ⟨rfl,ov',hkp,hlk⟩
     have hbel1:=Zcd hbel Hlook.out _ hkp
     have hbox2:w1.cell? ⟨wr.heap.size,2,none⟩=some (.int .i64 t.pos):=Zcr Hlook.out _ _ hkp 2 _ rfl
     have hstep:Zau L t.kind (ByteArray.size ⟨t.text.toArray⟩)=Zat L t.kind t.text.length:=by simp [Zat,Hw.out,ByteArray.size]
     rw [hstep] at hlk
     have Hlk:=Zaa hlk
     have d7:=hlk.facts.2.1.2.2.2.2.2.2.2
     have hb1:=hlk.facts.1
     have df:=hlk.facts.2.2
     have Hst:=Zaa hstep
     have Hkp:=Zaa hkp
     clear hstep hkp hlk c0 c1 c2 c3 c4 c5 c6 c7 hf tc0 tc1 tc2
     by_cases he:(Zat L t.kind t.text.length).err=0
     ·rw [he] at d7
      have He:=Zaa he
      clear he
      go_wp2_with fail
      go_roundw
      case rel =>
       refine ⟨k+1,Zat L t.kind t.text.length,ov',by omega,by go_num,hbel1,Hlk.out,Zcc Hinv.out _ _,He.out,?_⟩
       rw [← Hlov.out,Hhere.out,if_neg Hn4.out,if_neg (by simp [He.out])]
      case measure=>simp [intOf]; omega
     ·have hne:(((Zat L t.kind t.text.length).err:Int) != 0)=true:=by rw [bne_iff_ne]; omega
      have He:=Zaa he
      clear he
      go_wp2_with fail
      go_quiet (fail)
      go_wp2_with fail
      go_ret2
      refine ⟨Zcg ?_ ?_,?_⟩
      ·rw [← Hlov.out,Hhere.out,if_neg Hn4.out,if_pos He.out]
      ·rw [← Hlov.out,Hhere.out,if_neg Hn4.out,if_pos He.out]
      ·exact hbel1.trans ⟨rfl,rfl,rfl,Qe _,fun _ _=>rfl⟩
   ·rw [hw] at c0
    have Hw:=Zaa hw
    clear hw
    by_cases k4:t.kind=4
    ·have Hn4:Hid (¬ (t.kind=4∧(L.want=5∨L.want=0))):=by rw [Hw.out]; intro h; omega
     have k4':((t.kind:Int) == 4)=true:=by rw [beq_iff_eq]; omega
     clear k4
     go_wp2_with fail
     refine (Zdn _ w.heap.size w.heap.size L ov t.kind _ ⟨t.text.toArray⟩ ?_ (Qe _) (Hinv.out.mono (by omega)) (by rw [Hw.out]; omega) htt).mono ?_
     ·exact Hlook.out.later (S:=Zbf) ((Qx _ _).alloc _) (fun h=>h) (fun _ _ h=>h)
     rintro e w1 ⟨rfl,ov',hkp,hlk⟩
     have hbel1:=Zcd hbel Hlook.out _ hkp
     have hbox2:w1.cell? ⟨wr.heap.size,2,none⟩=some (.int .i64 t.pos):=Zcr Hlook.out _ _ hkp 2 _ rfl
     have hstep:Zau L t.kind (ByteArray.size ⟨t.text.toArray⟩)=Zat L t.kind t.text.length:=by simp [Zat,Hw.out,ByteArray.size]
     rw [hstep] at hlk
     have Hlk:=Zaa hlk
     have d7:=hlk.facts.2.1.2.2.2.2.2.2.2
     have hb1:=hlk.facts.1
     have df:=hlk.facts.2.2
     have Hst:=Zaa hstep
     have Hkp:=Zaa hkp
     clear hstep hkp hlk c0 c1 c2 c3 c4 c5 c6 c7 hf tc0 tc1 tc2
     by_cases he:(Zat L t.kind t.text.length).err=0
     ·rw [he] at d7
      have He:=Zaa he
      clear he
      go_wp2_with fail
      go_roundw
      case rel =>
       refine ⟨k+1,Zat L t.kind t.text.length,ov',by omega,by go_num,hbel1,Hlk.out,Zcc Hinv.out _ _,He.out,?_⟩
       rw [← Hlov.out,Hhere.out,if_neg Hn4.out,if_neg (by simp [He.out])]
      case measure=>simp [intOf]; omega
     ·have hne:(((Zat L t.kind t.text.length).err:Int) != 0)=true:=by rw [bne_iff_ne]; omega
      have He:=Zaa he
      clear he
      go_wp2_with fail
      go_quiet (fail)
      go_wp2_with fail
      go_ret2
      refine ⟨Zcg ?_ ?_,?_⟩
      ·rw [← Hlov.out,Hhere.out,if_neg Hn4.out,if_pos He.out]
      ·rw [← Hlov.out,Hhere.out,if_neg Hn4.out,if_pos He.out]
      ·exact hbel1.trans ⟨rfl,rfl,rfl,Qe _,fun _ _=>rfl⟩
    ·have Hn4:Hid (¬ (t.kind=4∧(L.want=5∨L.want=0))):=by rw [Hw.out]; intro h; omega
     have k4':((t.kind:Int) == 4)=false:=by rw [Qu]; omega
     clear k4
     go_wp2_with fail
     refine (Zdn _ w.heap.size w.heap.size L ov t.kind _ ⟨t.text.toArray⟩ ?_ (Qe _) (Hinv.out.mono (by omega)) (by rw [Hw.out]; omega) htt).mono ?_
     ·exact Hlook.out.later (S:=Zbf) ((Qx _ _).alloc _) (fun h=>h) (fun _ _ h=>h)
     rintro e w1 ⟨rfl,ov',hkp,hlk⟩
     have hbel1:=Zcd hbel Hlook.out _ hkp
     have hbox2:w1.cell? ⟨wr.heap.size,2,none⟩=some (.int .i64 t.pos):=Zcr Hlook.out _ _ hkp 2 _ rfl
     have hstep:Zau L t.kind (ByteArray.size ⟨t.text.toArray⟩)=Zat L t.kind t.text.length:=by simp [Zat,Hw.out,ByteArray.size]
     rw [hstep] at hlk
     have Hlk:=Zaa hlk
     have d7:=hlk.facts.2.1.2.2.2.2.2.2.2
     have hb1:=hlk.facts.1
     have df:=hlk.facts.2.2
     have Hst:=Zaa hstep
     have Hkp:=Zaa hkp
     clear hstep hkp hlk c0 c1 c2 c3 c4 c5 c6 c7 hf tc0 tc1 tc2
     by_cases he:(Zat L t.kind t.text.length).err=0
     ·rw [he] at d7
      have He:=Zaa he
      clear he
      go_wp2_with fail
      go_roundw
      case rel =>
       refine ⟨k+1,Zat L t.kind t.text.length,ov',by omega,by go_num,hbel1,Hlk.out,Zcc Hinv.out _ _,He.out,?_⟩
       rw [← Hlov.out,Hhere.out,if_neg Hn4.out,if_neg (by simp [He.out])]
      case measure=>simp [intOf]; omega
     ·have hne:(((Zat L t.kind t.text.length).err:Int) != 0)=true:=by rw [bne_iff_ne]; omega
      have He:=Zaa he
      clear he
      go_wp2_with fail
      go_quiet (fail)
      go_wp2_with fail
      go_ret2
      refine ⟨Zcg ?_ ?_,?_⟩
      ·rw [← Hlov.out,Hhere.out,if_neg Hn4.out,if_pos He.out]
      ·rw [← Hlov.out,Hhere.out,if_neg Hn4.out,if_pos He.out]
      ·exact hbel1.trans ⟨rfl,rfl,rfl,Qe _,fun _ _=>rfl⟩
   ·rw [hw] at c0
    have Hw:=Zaa hw
    clear hw
    by_cases k4:t.kind=4
    ·have Hn4:Hid (¬ (t.kind=4∧(L.want=5∨L.want=0))):=by rw [Hw.out]; intro h; omega
     have k4':((t.kind:Int) == 4)=true:=by rw [beq_iff_eq]; omega
     clear k4
     go_wp2_with fail
     refine (Zds _ w.heap.size w.heap.size L ov t.kind _ ⟨t.text.toArray⟩ ?_ (Qe _) (Hinv.out.mono (by omega))).mono ?_
     ·exact Hlook.out.later (S:=Zbf) ((Qx _ _).alloc _) (fun h=>h) (fun _ _ h=>h)
     rintro e w1 ⟨rfl,ov',hkp,hlk⟩
     have hbel1:=Zcd hbel Hlook.out _ hkp
     have hbox2:w1.cell? ⟨wr.heap.size,2,none⟩=some (.int .i64 t.pos):=Zcr Hlook.out _ _ hkp 2 _ rfl
     have hstep:Zaj L t.kind=Zat L t.kind t.text.length:=by simp [Zat,Hw.out,ByteArray.size]
     rw [hstep] at hlk
     have Hlk:=Zaa hlk
     have d7:=hlk.facts.2.1.2.2.2.2.2.2.2
     have hb1:=hlk.facts.1
     have df:=hlk.facts.2.2
     have Hst:=Zaa hstep
     have Hkp:=Zaa hkp
     clear hstep hkp hlk c0 c1 c2 c3 c4 c5 c6 c7 hf tc0 tc1 tc2
     by_cases he:(Zat L t.kind t.text.length).err=0
     ·rw [he] at d7
      have He:=Zaa he
      clear he
      go_wp2_with fail
      go_roundw
      case rel =>
       refine ⟨k+1,Zat L t.kind t.text.length,ov',by omega,by go_num,hbel1,Hlk.out,Zcc Hinv.out _ _,He.out,?_⟩
       rw [← Hlov.out,Hhere.out,if_neg Hn4.out,if_neg (by simp [He.out])]
      case measure=>simp [intOf]; omega
     ·have hne:(((Zat L t.kind t.text.length).err:Int) != 0)=true:=by rw [bne_iff_ne]; omega
      have He:=Zaa he
      clear he
      go_wp2_with fail
      go_quiet (fail)
      go_wp2_with fail
      go_ret2
      refine ⟨Zcg ?_ ?_,?_⟩
      ·rw [← Hlov.out,Hhere.out,if_neg Hn4.out,if_pos He.out]
      ·rw [← Hlov.out,Hhere.out,if_neg Hn4.out,if_pos He.out]
      ·exact hbel1.trans ⟨rfl,rfl,rfl,Qe _,fun _ _=>rfl⟩
    ·have Hn4:Hid (¬ (t.kind=4∧(L.want=5∨L.want=0))):=by rw [Hw.out]; intro h; omega
     have k4':((t.kind:Int) == 4)=false:=by rw [Qu]; omega
     clear k4
     go_wp2_with fail
     refine (Zds _ w.heap.size w.heap.size L ov t.kind _ ⟨t.text.toArray⟩ ?_ (Qe _) (Hinv.out.mono (by omega))).mono ?_
     ·exact Hlook.out.later (S:=Zbf) ((Qx _ _).alloc _) (fun h=>h) (fun _ _ h=>h)
     rintro e w1 ⟨rfl,ov',hkp,hlk⟩
     have hbel1:=Zcd hbel Hlook.out _ hkp
     have hbox2:w1.cell? ⟨wr.heap.size,2,none⟩=some (.int .i64 t.pos):=Zcr Hlook.out _ _ hkp 2 _ rfl
     have hstep:Zaj L t.kind=Zat L t.kind t.text.length:=by simp [Zat,Hw.out,ByteArray.size]
     rw [hstep] at hlk
     have Hlk:=Zaa hlk
     have d7:=hlk.facts.2.1.2.2.2.2.2.2.2
     have hb1:=hlk.facts.1
     have df:=hlk.facts.2.2
     have Hst:=Zaa hstep
     have Hkp:=Zaa hkp
     clear hstep hkp hlk c0 c1 c2 c3 c4 c5 c6 c7 hf tc0 tc1 tc2
     by_cases he:(Zat L t.kind t.text.length).err=0
     ·rw [he] at d7
      have He:=Zaa he
      clear he
      go_wp2_with fail
      go_roundw
      case rel =>
       refine ⟨k+1,Zat L t.kind t.text.length,ov',by omega,by go_num,hbel1,Hlk.out,Zcc Hinv.out _ _,He.out,?_⟩
       rw [← Hlov.out,Hhere.out,if_neg Hn4.out,if_neg (by simp [He.out])]
      case measure=>simp [intOf]; omega
     ·have hne:(((Zat L t.kind t.text.length).err:Int) != 0)=true:=by rw [bne_iff_ne]; omega
      have He:=Zaa he
      clear he
      go_wp2_with fail
      go_quiet (fail)
      go_wp2_with fail
      go_ret2
      refine ⟨Zcg ?_ ?_,?_⟩
      ·rw [← Hlov.out,Hhere.out,if_neg Hn4.out,if_pos He.out]
      ·rw [← Hlov.out,Hhere.out,if_neg Hn4.out,if_pos He.out]
      ·exact hbel1.trans ⟨rfl,rfl,rfl,Qe _,fun _ _=>rfl⟩
   ·rw [hw] at c0
    have Hw:=Zaa hw
    clear hw
    by_cases k4:t.kind=4
    ·have Hn4:Hid (¬ (t.kind=4∧(L.want=5∨L.want=0))):=by rw [Hw.out]; intro h; omega
     have k4':((t.kind:Int) == 4)=true:=by rw [beq_iff_eq]; omega
     clear k4
     go_wp2_with fail
     refine (Zds _ w.heap.size w.heap.size L ov t.kind _ ⟨t.text.toArray⟩ ?_ (Qe _) (Hinv.out.mono (by omega))).mono ?_
     ·exact Hlook.out.later (S:=Zbf) ((Qx _ _).alloc _) (fun h=>h) (fun _ _ h=>h)
     rintro e w1 ⟨rfl,ov',hkp,hlk⟩
     have hbel1:=Zcd hbel Hlook.out _ hkp
     have hbox2:w1.cell? ⟨wr.heap.size,2,none⟩=some (.int .i64 t.pos):=Zcr Hlook.out _ _ hkp 2 _ rfl
     have hstep:Zaj L t.kind=Zat L t.kind t.text.length:=by simp [Zat,Hw.out,ByteArray.size]
     rw [hstep] at hlk
     have Hlk:=Zaa hlk
     have d7:=hlk.facts.2.1.2.2.2.2.2.2.2
     have hb1:=hlk.facts.1
     have df:=hlk.facts.2.2
     have Hst:=Zaa hstep
     have Hkp:=Zaa hkp
     clear hstep hkp hlk c0 c1 c2 c3 c4 c5 c6 c7 hf tc0 tc1 tc2
     by_cases he:(Zat L t.kind t.text.length).err=0
     ·rw [he] at d7
      have He:=Zaa he
      clear he
      go_wp2_with fail
      go_roundw
      case rel =>
       refine ⟨k+1,Zat L t.kind t.text.length,ov',by omega,by go_num,hbel1,Hlk.out,Zcc Hinv.out _ _,He.out,?_⟩
       rw [← Hlov.out,Hhere.out,if_neg Hn4.out,if_neg (by simp [He.out])]
      case measure=>simp [intOf]; omega
     ·have hne:(((Zat L t.kind t.text.length).err:Int) != 0)=true:=by rw [bne_iff_ne]; omega
      have He:=Zaa he
      clear he
      go_wp2_with fail
      go_quiet (fail)
      go_wp2_with fail
      go_ret2
      refine ⟨Zcg ?_ ?_,?_⟩
      ·rw [← Hlov.out,Hhere.out,if_neg Hn4.out,if_pos He.out]
      ·rw [← Hlov.out,Hhere.out,if_neg Hn4.out,if_pos He.out]
      ·exact hbel1.trans ⟨rfl,rfl,rfl,Qe _,fun _ _=>rfl⟩
    ·have Hn4:Hid (¬ (t.kind=4∧(L.want=5∨L.want=0))):=by rw [Hw.out]; intro h; omega
     have k4':((t.kind:Int) == 4)=false:=by rw [Qu]; omega
     clear k4
     go_wp2_with fail
     refine (Zds _ w.heap.size w.heap.size L ov t.kind _ ⟨t.text.toArray⟩ ?_ (Qe _) (Hinv.out.mono (by omega))).mono ?_
     ·exact Hlook.out.later (S:=Zbf) ((Qx _ _).alloc _) (fun h=>h) (fun _ _ h=>h)
     rintro e w1 ⟨rfl,ov',hkp,hlk⟩
     have hbel1:=Zcd hbel Hlook.out _ hkp
     have hbox2:w1.cell? ⟨wr.heap.size,2,none⟩=some (.int .i64 t.pos):=Zcr Hlook.out _ _ hkp 2 _ rfl
     have hstep:Zaj L t.kind=Zat L t.kind t.text.length:=by simp [Zat,Hw.out,ByteArray.size]
     rw [hstep] at hlk
     have Hlk:=Zaa hlk
     have d7:=hlk.facts.2.1.2.2.2.2.2.2.2
     have hb1:=hlk.facts.1
     have df:=hlk.facts.2.2
     have Hst:=Zaa hstep
     have Hkp:=Zaa hkp
     clear hstep hkp hlk c0 c1 c2 c3 c4 c5 c6 c7 hf tc0 tc1 tc2
     by_cases he:(Zat L t.kind t.text.length).err=0
     ·rw [he] at d7
      have He:=Zaa he
      clear he
      go_wp2_with fail
      go_roundw
      case rel =>
       refine ⟨k+1,Zat L t.kind t.text.length,ov',by omega,by go_num,hbel1,Hlk.out,Zcc Hinv.out _ _,He.out,?_⟩
       rw [← Hlov.out,Hhere.out,if_neg Hn4.out,if_neg (by simp [He.out])]
      case measure=>simp [intOf]; omega
     ·have hne:(((Zat L t.kind t.text.length).err:Int) != 0)=true:=by rw [bne_iff_ne]; omega
      have He:=Zaa he
      clear he
      go_wp2_with fail
      go_quiet (fail)
      go_wp2_with fail
      go_ret2
      refine ⟨Zcg ?_ ?_,?_⟩
      ·rw [← Hlov.out,Hhere.out,if_neg Hn4.out,if_pos He.out]
      ·rw [← Hlov.out,Hhere.out,if_neg Hn4.out,if_pos He.out]
      ·exact hbel1.trans ⟨rfl,rfl,rfl,Qe _,fun _ _=>rfl⟩
   ·rw [hw] at c0
    have Hw:=Zaa hw
    clear hw
    by_cases k4:t.kind=4
    ·have Hh:=Zaa (Hhere.out.trans (if_pos ⟨k4,by rw [Hw.out]; omega⟩))
     have k4':((t.kind:Int) == 4)=true:=by rw [beq_iff_eq]; omega
     clear k4
     go_wp2
     go_ret2
     refine ⟨Zcg ?_ ?_,?_⟩
     ·rw [← Hlov.out,Hh.out]; rfl
     ·rw [← Hlov.out,Hh.out]; rfl
     ·exact hbel.alloc hbel.size _
    ·have Hn4:Hid (¬ (t.kind=4∧(L.want=5∨L.want=0))):=by rw [Hw.out]; intro h; omega
     have k4':((t.kind:Int) == 4)=false:=by rw [Qu]; omega
     clear k4
     have He2:Hid ((Zat L t.kind t.text.length).err=2):=by show _=2; simp [Zat,Hw.out]
     go_wp2_with fail
     go_quiet (fail)
     go_wp2_with fail
     go_ret2
     refine ⟨Zcg ?_ ?_,?_⟩
     ·rw [← Hlov.out,Hhere.out,if_neg Hn4.out,if_pos (by rw [He2.out]; omega),He2.out]; rfl
     ·rw [← Hlov.out,Hhere.out,if_neg Hn4.out,if_pos (by rw [He2.out]; omega)]
     ·exact (((hbel.setCell (Qe _) _).alloc (by have:=hbel.size; simp; omega) _)).trans ⟨rfl,rfl,rfl,Qe _,fun _ _=>rfl⟩
  ·have Hend:Hid (Zcx (ts.drop k) L=(0,0)):=by show _=_; rw [List.drop_eq_nil_of_le (by omega)]; rfl
   go_wp2
   go_ret2
   refine ⟨Zcg ?_ ?_,hbel⟩
   ·rw [← Hlov.out,Hend.out]; rfl
   ·rw [← Hlov.out,Hend.out]; rfl
theorem Tryz.infoTerm:(Tryz.prog.info? 183).map (fun i=>(i.zero,i.size,i.bytes))=some (some (.agg #[.string ⟨#[]⟩,.int .i64 0,.slice none 0 0]),3,48):=by kernel_rfl
def Zvc (f:Nat):Prop:=∀ (w:World) (ts:List Tok) (k:Nat) (tv:Value) (Bt B:Nat) (names:Names) (nv:Value) (r:List Sym × List Tok × Names),
 Zda f (ts.drop k) names=some r→w.ownsRow Bt 243 3 tv ts.length (Zbc ts)→w.ownsRow B 9 1 nv names.length (strs names)→B≤w.heap.size →
 ts.length≤1000→names.length+(ts.length - k)≤1000→(∀ t ∈ ts,t.text.length≤4096)→(∀ i t,ts[i]?=some t→i+1<ts.length→t.text≠[]) →
 Calls Tryz.prog 143 #[tv,.int .i64 k,nv] w fun e w'=>∃ a b c nv' j,e = .returned (.tuple #[.agg #[a,b,c],.int .i64 (j:Nat),nv'])∧r.2.1=ts.drop j∧k<j∧j≤ts.length ∧
  RepT f w' w.heap.size w'.heap.size a b c r.1∧Appended w B 9 1 nv r.2.2.length (strs r.2.2) nv' w'
theorem Appended.around {w0 w w1 w2:World} {S:Nat→Prop} {B:Nat} {e:TypeId} {size n:Nat} {v v':Value} {xs:List Value} (h:Appended w B e size v n xs v' w1) (h0:Kept (Zap v) w0 w)
  (hv:∀ k,v.ownBlock=some k→k<w0.heap.size) (h2:Kept S w1 w2) (hS:∀ k,S k→w0.heap.size≤k) (hSv:∀ k,v'.ownBlock=some k→¬ S k):Appended w0 B e size v n xs v' w2 :=
 ⟨h2.owns h.owns hSv,(h0.then h.kept (fun _ _ e=>e)).then h2 (fun i hi hs=>by have:=hS i hs; omega),by
  rcases h.where_ with h | ⟨g,h,hg⟩
  ·exact Or.inl h
  ·exact Or.inr ⟨g,h,Qq h0.size hg⟩⟩
theorem Zjr {w:World} {Bt k:Nat} {ts:List Tok} {tv:Value} {t:Tok} (h:w.ownsRow Bt 243 3 tv ts.length (Zbc ts)) (ht:ts[k]?=some t) :
  ∃ g cap,tv = .slice (some ⟨g,0,none⟩) ts.length cap∧g<w.heap.size∧w.cell? ⟨g,k * 3,none⟩=some (.int .i64 t.kind)∧w.cell? ⟨g,k * 3+1,none⟩=some (.string ⟨t.text.toArray⟩)∧w.cell? ⟨g,k * 3+2,none⟩=some (.int .i64 t.pos):=by
 have hk:k<ts.length:=(Qa.1 ht).1
 obtain ⟨g,cap,cur,rfl,hBg,hg,hcp⟩:=Zan h (by omega)
 have tcell:∀ j v,j<3→(Zeh t)[j]?=some v→w.cell? ⟨g,k * 3+j,none⟩=some v:=fun j v hj hv=>Zaf h (k * 3+j) v (by rw [Zht ts k t ht j hj]; exact hv)
 exact ⟨g,cap,rfl,Zac hg,tcell 0 _ (by omega) rfl,tcell 1 _ (by omega) rfl,tcell 2 _ (by omega) rfl⟩
theorem Zfr {ts:List Tok} {k:Nat} {t:Tok} {r:List Tok} (h:ts.drop k=t::r):ts[k]?=some t∧ts.drop (k+1)=r∧k<ts.length:=by
 have hk:k<ts.length:=by
  rcases Nat.lt_or_ge k ts.length with hl | hl
  ·exact hl
  ·rw [List.drop_eq_nil_of_le hl] at h; cases h
 rw [List.drop_eq_getElem_cons hk] at h
 injection h with h1 h2
 exact ⟨by rw [Qb hk,h1],h2,hk⟩
theorem Ydc (f:Nat) (w:World) (ts:List Tok) (k:Nat) (tv:Value) (Bt B:Nat) (names:Names) (nv:Value) (t:Tok) (r:List Tok)
  (hd:ts.drop k=t::r) (hkd:t.kind=2) (hts:w.ownsRow Bt 243 3 tv ts.length (Zbc ts)) (hnv:w.ownsRow B 9 1 nv names.length (strs names)) (hB:B≤w.heap.size)
  (hl:ts.length≤1000) (hn:names.length+(ts.length - k)≤1000) (htx:∀ t ∈ ts,t.text.length≤4096) :
  Calls Tryz.prog 143 #[tv,.int .i64 k,nv] w fun e w'=>∃ a b c nv' j,e = .returned (.tuple #[.agg #[a,b,c],.int .i64 (j:Nat),nv'])∧r=ts.drop j∧k<j∧j≤ts.length ∧
   RepT (f+1) w' w.heap.size w'.heap.size a b c [⟨[],(Zbl names t.text).2,0⟩]∧Appended w B 9 1 nv (Zbl names t.text).1.length (strs (Zbl names t.text).1) nv' w':=by
 obtain ⟨ht,hr,hk⟩:=Zfr hd
 obtain ⟨g,tcap,rfl,hg,t0,t1,t2⟩:=Zjr hts ht
 have hlen:=htx t (Qh ht)
 rw [hkd] at t0
 have Hr:=Zaa hr
 have Hnv:=Zaa hnv
 have Hts:=Zaa hts
 obtain ⟨na,ncap,rfl⟩:=Zad hnv
 clear hd hts hnv ht hr
 go_enter Tryz.func143,Tryz.ntmps143
 go_wp2_with fail
 refine (Zwo _ B names t.text _ (Hnv.out.alloc _) (by simp; omega) (by omega) hlen).mono ?_
 rintro e w1 ⟨v',rfl,hap⟩
 obtain ⟨va,vcap,rfl⟩:=Zad hap.owns
 have hN:¬ Zap (.slice na names.length ncap) w.heap.size:=fun e=>by have:=(Hnv.out.lt _ e).2; omega
 have hblk:=(hap.kept.block w.heap.size (by simp) hN).trans (heap_alloc_new w _)
 have z0:w1.cell? ⟨w.heap.size,0,none⟩=some (.string ⟨#[]⟩):=Zab hblk 0 _ rfl
 have z1:w1.cell? ⟨w.heap.size,1,none⟩=some (.int .i64 0):=Zab hblk 1 _ rfl
 have z2:w1.cell? ⟨w.heap.size,2,none⟩=some (.slice none 0 0):=Zab hblk 2 _ rfl
 have zf:=fun i=>Zae hblk i
 have hsz:=Zac hblk
 have Hap:=Zaa hap
 have Hblk:=Zaa hblk
 clear hap hblk
 go_wp2
 refine bodyPost_ret (v := .tuple #[.agg #[.string ⟨#[]⟩,.int .i64 (Zbl names t.text).2,.slice none 0 0],.int .i64 ((k+1:Nat):Int),.slice va (Zbl names t.text).1.length vcap]) (by simp [results,Tryz.results143,go_sem,z0,z1,z2,zf,hsz]) rfl ?_
 refine ⟨_,_,_,_,k+1,rfl,Hr.out.symm,by omega,by omega,Or.inl ⟨_,rfl,rfl,rfl,rfl⟩,?_⟩
 refine Hap.out.around ((Qx _ w).alloc _) (fun k e=>(Hnv.out.lt k e).2) ((((Qx (only w.heap.size) w1).put 0 _).put 1 _).put 2 _) (fun k e=>Nat.le_of_eq (Eq.symm e)) ?_
 rintro k hk (rfl:k=w.heap.size)
 rcases Hap.out.where_ with h | ⟨g,h,hg⟩
 ·exact hN (h.symm.trans hk)
 ·rw [hk] at h
  simp at h hg
  omega
theorem Zzl (f:Nat) (w:World) (ts:List Tok) (k:Nat) (tv:Value) (Bt B:Nat) (names:Names) (nv:Value) (t u:Tok) (r:List Tok)
  (hd:ts.drop k=t::u::r) (hkd:t.kind≠2) (hku:u.kind≠40) (hts:w.ownsRow Bt 243 3 tv ts.length (Zbc ts)) (hnv:w.ownsRow B 9 1 nv names.length (strs names)) (hB:B≤w.heap.size)
  (hl:ts.length≤1000) (hne:t.text≠[]) :
  Calls Tryz.prog 143 #[tv,.int .i64 k,nv] w fun e w'=>∃ a b c nv' j,e = .returned (.tuple #[.agg #[a,b,c],.int .i64 (j:Nat),nv'])∧u::r=ts.drop j∧k<j∧j≤ts.length ∧
   RepT (f+1) w' w.heap.size w'.heap.size a b c [⟨t.text,0,0⟩]∧Appended w B 9 1 nv names.length (strs names) nv' w':=by
 obtain ⟨ht,hr,hk⟩:=Zfr hd
 obtain ⟨hu,hr',hk'⟩:=Zfr hr
 obtain ⟨g,tcap,rfl,hg,t0,t1,t2⟩:=Zjr hts ht
 obtain ⟨g',tcap',he,hg',u0,u1,u2⟩:=Zjr hts hu
 simp only [Value.slice.injEq,Qo,Addr.mk.injEq] at he
 obtain ⟨⟨rfl,_⟩,_,rfl⟩:=he
 have k2:((t.kind:Int) == 2)=false:=by rw [Qu]; omega
 have k40:((u.kind:Int) != 40)=true:=by rw [bne_iff_ne]; omega
 have Hr:=Zaa hr
 have Hnv:=Zaa hnv
 obtain ⟨na,ncap,rfl⟩:=Zad hnv
 clear hd hts hnv ht hr hu hr'
 go_enter Tryz.func143,Tryz.ntmps143
 go_wp2
 refine bodyPost_ret (v := .tuple #[.agg #[.string ⟨t.text.toArray⟩,.int .i64 0,.slice none 0 0],.int .i64 ((k+1:Nat):Int),.slice na names.length ncap]) (by simp [results,Tryz.results143,go_sem]) rfl ?_
 refine ⟨_,_,_,_,k+1,rfl,Hr.out.symm,by omega,by omega,Or.inr ⟨t.text,[],[],hne,rfl,rfl,rfl,World.ownsRow_nil _ _ _ _,fun k e=>by simp [Value.ownBlock] at e,fun i l' h=>by simp at h⟩,?_⟩
 exact ⟨(Hnv.out.alloc _).alloc _,((Qx _ w).alloc _).alloc _,Or.inl rfl⟩
theorem RepT.shape {f:Nat} {w:World} {lo hi:Nat} {a b c:Value} {l:List Sym} (h:RepT f w lo hi a b c l):∃ s n ca cl cc,a = .string s∧b = .int .i64 n∧c = .slice ca cl cc:=by
 cases f with
 | zero=>exact h.elim
 | succ f =>
  rcases h with ⟨n,rfl,rfl,rfl,_⟩ | ⟨nm,ls,xs,_,rfl,rfl,_,h5,_⟩
  ·exact ⟨_,_,_,_,_,rfl,rfl,rfl⟩
  ·obtain ⟨a,cap,rfl⟩:=Zad h5
   exact ⟨_,_,_,_,_,rfl,rfl,rfl⟩
structure Kids (f:Nat) (w:World) (lo:Nat) (cv:Value) (acc:List (List Sym)) (xs:List Value):Prop where
 owns:w.ownsRow lo 183 3 cv acc.length xs
 all:∀ (i:Nat) (l':List Sym),acc[i]?=some l'→∃ a b c l h,xs[i * 3]?=some a∧xs[i * 3+1]?=some b∧xs[i * 3+2]?=some c∧lo≤l∧h≤w.heap.size ∧
  (∀ k,cv.ownBlock=some k→¬ (l≤k∧k<h))∧RepT f w l h a b c l'
theorem Kids.nil (f:Nat) (w:World) (lo:Nat):Kids f w lo (.slice none 0 0) [] []:=⟨World.ownsRow_nil _ _ _ _,fun i l' h=>by simp at h⟩
theorem Appended.trans {w w1 w2:World} {B:Nat} {e:TypeId} {size n n':Nat} {v v1 v2:Value} {xs xs':List Value} (h:Appended w B e size v n xs v1 w1) (h':Appended w1 B e size v1 n' xs' v2 w2):Appended w B e size v n' xs' v2 w2 :=
 ⟨h'.owns,h.kept.then h'.kept (fun i hi ho=>by
   rcases h.where_ with hw | ⟨g,hw,hg⟩
   ·exact hw.symm.trans ho
   ·have:some g=some i:=hw.symm.trans ho
    simp at this; omega),by
  rcases h'.where_ with hw' | ⟨g,hw',hg⟩
  ·rcases h.where_ with hw | ⟨g,hw,hg⟩
   ·exact Or.inl (hw'.trans hw)
   ·exact Or.inr ⟨g,hw'.trans hw,hg⟩
  ·exact Or.inr ⟨g,hw',Qq h.kept.size hg⟩⟩
theorem Zig {s:ByteArray} {n:Int} {ca:Option Addr} {cl cc:Nat}:∀ u ∈ (#[Value.string s,.int .i64 n,.slice ca cl cc]:Array Value).toList,u.oneCell'=true:=by
 intro u hu
 simp at hu
 rcases hu with rfl | rfl | rfl <;> rfl
theorem Kids.step {f:Nat} {wr w1 w3:World} {N lo:Nat} {nvj nv' cv cv':Value} {B nn nn':Nat} {ns ns':List Value} {acc:List (List Sym)} {xs:List Value} {s:ByteArray} {n:Int} {ca:Option Addr} {cl cc:Nat} {l:List Sym} {o:Obj}
  (hk:Kids f wr lo cv acc xs) (hlo:N<lo) (hlo':lo≤wr.heap.size) (hnv:wr.ownsRow B 9 1 nvj nn ns) (hap:Appended wr B 9 1 nvj nn' ns' nv' w1)
  (hr:RepT f w1 wr.heap.size w1.heap.size (.string s) (.int .i64 n) (.slice ca cl cc) l) (ha:Appended (w1.alloc o) lo 183 3 cv (acc.length+1) (xs++[.string s,.int .i64 n,.slice ca cl cc]) cv' w3) (u:Value) :
  Kids f (w3.setCell ⟨N,2,none⟩ u) lo cv' (acc++[l]) (xs++[.string s,.int .i64 n,.slice ca cl cc])∧Kept (fun k=>Zap cv k∨k=N) w1 (w3.setCell ⟨N,2,none⟩ u):=by
 have hcvlt:∀ k,cv.ownBlock=some k→lo≤k∧k<wr.heap.size:=hk.owns.lt
 have k13:Kept (Zap cv) w1 w3:=((Qx _ w1).alloc o).then ha.kept (fun _ _ e=>e)
 have k14:Kept (fun k=>Zap cv k∨k=N) w1 (w3.setCell ⟨N,2,none⟩ u):=Qy (S:=fun k=>Zap cv k∨k=N) (k13.mono (fun _ _ e=>Or.inl e)) (p:=⟨N,2,none⟩) (fun _=>Or.inr rfl) u
 have hcv':∀ k,cv'.ownBlock=some k→(lo≤k∧k<wr.heap.size∧cv.ownBlock=some k)∨w1.heap.size<k:=by
  intro k hk
  rcases ha.where_ with h | ⟨g,h,hg⟩
  ·rw [hk] at h
   exact Or.inl ⟨(hcvlt k h.symm).1,(hcvlt k h.symm).2,h.symm⟩
  ·rw [hk] at h
   simp at h hg
   exact Or.inr (by omega)
 have hxl:xs.length=acc.length * 3:=hk.owns.1
 have hw14:w1.heap.size≤(w3.setCell ⟨N,2,none⟩ u).heap.size:=k14.size
 have hwr1:=hap.kept.size
 refine ⟨⟨?_,?_⟩,k14⟩
 ·have:=((Qx (only N) w3).put 2 u).owns ha.owns (fun k hk e=>by
   have e:k=N:=e
   rcases hcv' k hk with h | h <;> omega)
  simpa using this
 ·intro i l' hl
  rcases Nat.lt_or_ge i acc.length with hi | hi
  ·rw [Qc hi] at hl
   obtain ⟨a',b',c',l1,h1,x1,x2,x3,g1,g2,g3,g4⟩:=hk.all i l' hl
   refine ⟨a',b',c',l1,h1,?_,?_,?_,g1,by omega,?_,?_⟩
   ·rw [Qc (by omega)]; exact x1
   ·rw [Qc (by omega)]; exact x2
   ·rw [Qc (by omega)]; exact x3
   ·intro k hk' hin
    rcases hcv' k hk' with h | h
    ·exact g3 k h.2.2 hin
    ·omega
   ·refine g4.later (w:=wr) _ (fun k hk1 hk2 ht => ?_)
    obtain ⟨cur,hcur⟩:=ht
    have e1:w1.heap[k]?=wr.heap[k]?:=hap.kept.block k (by omega) (Zah hnv (by decide) hcur)
    have e2:=k14.block k (by omega) (fun h=>by
     rcases h with h | h
     ·exact g3 k h ⟨hk1,hk2⟩
     ·omega)
    exact e2.trans e1
  ·have hi':i=acc.length:=by
    have:i<(acc++[l]).length:=(Qa.1 hl).1
    simp at this; omega
   subst hi'
   simp at hl
   subst hl
   refine ⟨.string s,.int .i64 n,.slice ca cl cc,wr.heap.size,w1.heap.size,?_,?_,?_,hlo',by omega,?_,?_⟩
   ·rw [Qd (by omega),hxl]; simp
   ·rw [Qd (by omega),hxl]; simp
   ·rw [Qd (by omega),hxl]; simp
   ·intro k hk' hin
    rcases hcv' k hk' with h | h <;> omega
   ·refine hr.later _ (fun k hk1 hk2 _=>k14.block k hk2 (fun h => ?_))
    rcases h with h | h
    ·have:=(hcvlt k h).2; omega
    ·omega
theorem Kept.drewN {S:Nat→Prop} {a w:World} (h:Kept S a w) (n:Nat):Kept S a (w.drewN n):=⟨h.os,h.tape,h.output,h.size,h.block⟩
def Zlx (f:Nat):Prop:=∀ (w:World) (lo hi:Nat) (a b c:Value) (l:List Sym) (B:Nat) (seen:List Nat) (sv:Value),
 RepT f w lo hi a b c l→w.ownsRow B 3 1 sv seen.length (ints seen)→B≤w.heap.size→(∀ s ∈ l,s.name.length≤4096)→seen.length+l.length≤4000 →
 Calls Tryz.prog 107 #[.agg #[a,b,c],sv] w fun e w'=>∃ sv',e = .returned (.tuple #[.string ⟨(Zbs f l seen).1.toArray⟩,sv'])∧Appended w B 3 1 sv (Zbs f l seen).2.1.length (ints (Zbs f l seen).2.1) sv' w'
theorem Ydd {seen:List Nat} {n k:Nat} (hk:k<seen.length) (h:seen[k]=n) (hn:n ∉ seen.take k):wvar n seen=(Zdr k,seen):=by
 have hm:n ∈ seen:=by rw [← h]; exact List.getElem_mem _
 unfold wvar
 rw [if_pos hm]
 congr 2
 have h1:seen.idxOf n≤k:=by
  rcases Nat.lt_or_ge k (seen.idxOf n) with hl | hl
  ·have:=List.not_of_lt_findIdx (p:=(· == n)) (xs:=seen) hl
   simp [h] at this
  ·exact hl
 rcases Nat.lt_or_ge (seen.idxOf n) k with hl | hl
 ·exfalso
  apply hn
  have hlt:seen.idxOf n<seen.length:=List.idxOf_lt_length_of_mem hm
  have:seen[seen.idxOf n]=n:=List.getElem_idxOf hlt
  rw [← this]
  rw [List.mem_take_iff_getElem]
  exact ⟨seen.idxOf n,by omega,rfl⟩
 ·omega
theorem Zzm {seen:List Nat} {n k:Nat} (hk:¬ k<seen.length) (hn:n ∉ seen.take k):wvar n seen=(Zdr seen.length,seen++[n]):=by
 rw [List.take_of_length_le (by omega)] at hn
 unfold wvar
 rw [if_neg hn]
theorem Ygm {seen:List Nat} {n k:Nat} (hk:k<seen.length) (h:¬ seen[k]=n) (hn:n ∉ seen.take k):n ∉ seen.take (k+1):=by
 rw [List.take_succ_eq_append_getElem hk]
 simp only [Qk,List.mem_singleton,not_or]
 exact ⟨hn,fun e=>h e.symm⟩
theorem Ztc (w:World) (n:Nat) (B:Nat) (seen:List Nat) (sv:Value) (hsv:w.ownsRow B 3 1 sv seen.length (ints seen)) (hB:B≤w.heap.size) (hs:seen.length≤3999) :
  Calls Tryz.prog 107 #[.agg #[.string ⟨#[]⟩,.int .i64 n,.slice none 0 0],sv] w fun e w'=>∃ sv',e = .returned (.tuple #[.string ⟨(wvar n seen).1.toArray⟩,sv'])∧Appended w B 3 1 sv (wvar n seen).2.length (ints (wvar n seen).2) sv' w':=by
 obtain ⟨sa,scap,rfl⟩:=Zad hsv
 have Hsv:=Zaa hsv
 clear hsv
 go_enter Tryz.func107,Tryz.ntmps107
 go_wp2
 go_loopw [6] (fun i wr=>∃ k:Nat,k≤seen.length∧i = .int .i64 k∧n ∉ seen.take k∧Kept Zbf w wr∧wr.heap[w.heap.size]?=some (.cells #[.string ⟨#[]⟩,.int .i64 n,.slice none 0 0] 183 (0,0))) (fun i _=>seen.length - (intOf i).toNat)
 case atStart=>exact ⟨0,Qm _,rfl,by simp,(Qx _ w).alloc _,heap_alloc_new w _⟩
 case round =>
  obtain ⟨k,hk,rfl,hnot,hkept,hbox⟩:=hrel
  have Hnot:=Zaa hnot
  have Hkept:=Zaa hkept
  have Hbox:=Zaa hbox
  have Hsvr:=Zaa (hkept.owns Hsv.out (fun _ _ h=>h))
  have b1:wr.cell? ⟨w.heap.size,1,none⟩=some (.int .i64 n):=Zab hbox 1 _ rfl
  have hsz:=hkept.size
  clear hnot hkept hbox
  by_cases hlt:k<seen.length
  ·obtain ⟨g,cap',cur,he,hBg,hg,hcp⟩:=Zan Hsvr.out (by omega)
   simp only [Value.slice.injEq] at he
   obtain ⟨rfl,_,rfl⟩:=he
   obtain ⟨m,hm⟩:∃ m,m=seen[k]:=⟨_,rfl⟩
   have hc:wr.cell? ⟨g,k,none⟩=some (.int .i64 m):=Zaf Hsvr.out k _ (by simp [ints,hlt,hm])
   have Hm:=Zaa hm
   clear hg hm
   cases hmn:((m:Int) == (n:Int))
   ·have hq:¬ m=n:=by
     have:=Qu.1 hmn
     omega
    go_wp2_with fail
    go_quiet (fail)
    go_wp2_with fail
    go_roundw
    case rel=>exact ⟨k+1,by omega,by go_num,Ygm hlt (fun h=>hq (Hm.out.trans h)) Hnot.out,⟨Hkept.out.os,Hkept.out.tape,Hkept.out.output,Hkept.out.size,Hkept.out.block⟩,Hbox.out⟩
    case measure=>simp [intOf]; omega
   ·have hq:m=n:=by
     have:=eq_of_beq hmn
     omega
    have Hw:=Zaa (Ydd hlt (Hm.out.symm.trans hq) Hnot.out)
    clear hq
    go_wp2_with fail
    go_quiet (fail)
    go_wp2_with fail
    refine (Znt k _ (by omega)).mono ?_
    rintro e w' ⟨rfl,rfl⟩
    go_wp2_with fail
    go_ret2
    rw [Hw.out]
    exact ⟨_,rfl,⟨Hsvr.out,(Hkept.out.drewN _).mono (fun _ _ h=>h.elim),Or.inl rfl⟩⟩
  ·have Hw:=Zaa (Zzm hlt Hnot.out)
   go_wp2_with fail
   refine (Znt seen.length _ (by omega)).mono ?_
   rintro e w' ⟨rfl,rfl⟩
   go_wp2_with (at_builtin; refine Zal _ rfl (.tmp 36) (.tmp 39) 25 rfl B 3 Tryz.infoInt Tryz.underlying25 rfl (by decide) _ seen.length (ints seen) rfl Hsvr.out _ rfl rfl rfl (Ziv _) ?_ ?_ ?_)
   ·omega
   ·omega
   intro v' w1 hap
   have Hap:=Zaa hap
   clear hap
   go_wp2
   go_ret2
   rw [Hw.out]
   refine ⟨v',rfl,?_⟩
   have h:=Hap.out.around (S:=Zbf) (Hkept.out.mono (fun _ _ h=>h.elim)) (fun k e=>(Hsv.out.lt k e).2) (Qx _ _) (fun _ h=>h.elim) (fun _ _ h=>h)
   simpa [ints] using h
theorem Zrb (w:World) (nm:List UInt8) (hnm:nm≠[]) (c:Value) (B:Nat) (seen:List Nat) (sv:Value) (lo:Nat) (xs:List Value) (hc:w.ownsRow lo 183 3 c 0 xs) (hsv:w.ownsRow B 3 1 sv seen.length (ints seen)) :
  Calls Tryz.prog 107 #[.agg #[.string ⟨nm.toArray⟩,.int .i64 0,c],sv] w fun e w'=>∃ sv',e = .returned (.tuple #[.string ⟨nm.toArray⟩,sv'])∧Appended w B 3 1 sv seen.length (ints seen) sv' w':=by
 obtain ⟨sa,scap,rfl⟩:=Zad hsv
 obtain ⟨ca,ccap,rfl⟩:=Zad hc
 have Hsv:=Zaa hsv
 clear hsv hc
 have he:nm.isEmpty=false:=by simpa using hnm
 go_enter Tryz.func107,Tryz.ntmps107
 go_wp2
 go_ret2
 exact ⟨_,rfl,⟨Hsv.out.alloc _,(Qx _ w).alloc _,Or.inl rfl⟩⟩
theorem Zrc (f:Nat) (IH:Zlx f) (w:World) (nm:List UInt8) (hnm:nm≠[]) (c:Value) (B:Nat) (seen:List Nat) (sv:Value) (lo hi:Nat) (xs:List Value) (ls:List (List Sym)) (hls:ls≠[])
  (hc:w.ownsRow lo 183 3 c ls.length xs) (hk:∀ (i:Nat) (l':List Sym),ls[i]?=some l'→∃ a' b' c',xs[i * 3]?=some a'∧xs[i * 3+1]?=some b'∧xs[i * 3+2]?=some c'∧RepT f w lo hi a' b' c' l')
  (hsv:w.ownsRow B 3 1 sv seen.length (ints seen)) (hB:B≤w.heap.size) (hn:nm.length≤4096) (hsn:∀ s ∈ ls.flatten,s.name.length≤4096) (hsl:seen.length+ls.flatten.length≤3999) :
  Calls Tryz.prog 107 #[.agg #[.string ⟨nm.toArray⟩,.int .i64 0,c],sv] w fun e w'=>∃ sv',e = .returned (.tuple #[.string ⟨(nm++(Zcv f 40 ls seen).1++[41]).toArray⟩,sv']) ∧
   Appended w B 3 1 sv (Zcv f 40 ls seen).2.length (ints (Zcv f 40 ls seen).2) sv' w':=by
 obtain ⟨sa,scap,rfl⟩:=Zad hsv
 obtain ⟨g,ccap,ccur,rfl,hgl,hgb,hgc⟩:=Zan hc (by cases ls with | nil=>exact absurd rfl hls | cons _ _=>simp)
 have Hsv:=Zaa hsv
 have Hc:=Zaa hc
 have Hk:=Zaa hk
 have Hih:=Zaa IH
 have he:nm.isEmpty=false:=by simpa using hnm
 have hl0:(((ls.length:Nat):Int) == 0)=false:=by
  rw [Qu]
  cases ls with
  | nil=>exact absurd rfl hls
  | cons _ _=>simp; omega
 have Hisf:Hid (∀ l' ∈ ls,IsT f l'):=fun l' hl=>by
  obtain ⟨i,hi,rfl⟩:=List.getElem_of_mem hl
  obtain ⟨a',b',c',_,_,_,g⟩:=hk i _ (Qb hi)
  exact g.isT f
 have hfl:=Zlo f ls Hisf.out
 have Hlen:=Zaa (Zqy f (Zjq f) ls Hisf.out hsn 40 seen (by omega))
 clear hsv hc hk IH hgb
 go_enter Tryz.func107,Tryz.ntmps107
 go_wp2
 go_loopw [1,9,10] (fun sl tx i wr=>∃ (k:Nat) (sk:List Nat) (dt:List UInt8),k≤ls.length∧i = .int .i64 k∧tx = .string ⟨(nm++dt).toArray⟩ ∧
   dt++(Zcv f (if k=0 then 40 else 44) (ls.drop k) sk).1=(Zcv f 40 ls seen).1∧(Zcv f (if k=0 then 40 else 44) (ls.drop k) sk).2=(Zcv f 40 ls seen).2 ∧
   sk.length+(ls.drop k).flatten.length≤3999∧Appended w B 3 1 (.slice sa seen.length scap) sk.length (ints sk) sl wr ∧
   wr.heap[w.heap.size]?=some (.cells #[.string ⟨nm.toArray⟩,.int .i64 0,.slice (some ⟨g,0,none⟩) ls.length ccap] 183 (0,0))) (fun _ _ i _=>ls.length - (intOf i).toNat)
 case atStart=>exact ⟨0,seen,[],Qm _,rfl,by simp,by simp,by simp,by simpa using hsl,⟨Hsv.out.alloc _,(Qx _ w).alloc _,Or.inl rfl⟩,heap_alloc_new w _⟩
 case round =>
  obtain ⟨k,sk,dt,hk,rfl,rfl,hdt,hsd,hsk,hap,hbox⟩:=hrel
  obtain ⟨ska,skcap,rfl⟩:=Zad hap.owns
  have b0:wr.cell? ⟨w.heap.size,0,none⟩=some (.string ⟨nm.toArray⟩):=Zab hbox 0 _ rfl
  have b2:wr.cell? ⟨w.heap.size,2,none⟩=some (.slice (some ⟨g,0,none⟩) ls.length ccap):=Zab hbox 2 _ rfl
  have hdl:dt.length≤50000000:=by
   have h1:=congrArg List.length hdt
   have h2:=Hlen.out
   simp only [Qg] at h1
   omega
  have Hap:=Zaa hap
  have Hbox:=Zaa hbox
  have Hdt:=Zaa hdt
  have Hsd:=Zaa hsd
  have hszr:=hap.kept.size
  clear hap hbox hdt hsd
  by_cases hlt:k<ls.length
  ·obtain ⟨l',hl'⟩:∃ l',ls[k]?=some l':=⟨_,Qb hlt⟩
   have hdk:ls.drop k=l'::ls.drop (k+1):=by
    rw [List.drop_eq_getElem_cons hlt]
    rw [(Qa.1 hl').2]
   obtain ⟨a',b',c',x0,x1,x2,hrep⟩:=Hk.out k l' hl'
   obtain ⟨s0,n0,c0a,c0l,c0c,rfl,rfl,rfl⟩:=hrep.shape
   have hkeep:∀ (k:Nat),Zeo w k→wr.heap[k]?=w.heap[k]?:=fun k ht=>by
    obtain ⟨cur,hcur⟩:=ht
    exact Hap.out.kept.block k (Zac hcur) (Zah Hsv.out (by decide) hcur)
   have hcr:wr.ownsRow lo 183 3 (.slice (some ⟨g,0,none⟩) ls.length ccap) ls.length xs:=Zak Hc.out (fun k e=>hkeep k (Zar Hc.out k e))
   have hrepr:RepT f wr lo hi _ _ _ l':=hrep.later f (fun k _ _ ht=>hkeep k ht)
   have y0:wr.cell? ⟨g,k * 3,none⟩=some (.string s0):=Zaf hcr _ _ x0
   have y1:wr.cell? ⟨g,k * 3+1,none⟩=some (.int .i64 n0):=Zaf hcr _ _ x1
   have y2:wr.cell? ⟨g,k * 3+2,none⟩=some (.slice c0a c0l c0c):=Zaf hcr _ _ x2
   have hsub:∀ s ∈ l',s.name.length≤4096:=fun s hs=>hsn s (List.mem_flatten.2 ⟨l',Qh hl',hs⟩)
   have hsl2:sk.length+l'.length+(ls.drop (k+1)).flatten.length≤3999:=by
    rw [hdk] at hsk
    simp only [List.flatten_cons,Qg] at hsk
    omega
   have hwl:=Zjq f l' (hrep.isT f) hsub sk (by omega)
   have hwl1:(Zbs f l' sk).1.length≤50000000:=by omega
   have HI:=Zaa (Hih.out wr lo hi _ _ _ l' B sk _ hrepr Hap.out.owns (by omega) hsub (by omega))
   have Hdk:=Zaa hdk
   have Hwl:=Zaa hwl
   clear x0 x1 x2 hrep hkeep hcr hrepr hdk hwl hl'
   go_wp2_with fail
   refine HI.out.mono ?_
   rintro e w1 ⟨sv',rfl,hap1⟩
   obtain ⟨s1a,s1cap,rfl⟩:=Zad hap1.owns
   have Hap1:=Zaa hap1
   have hbox1:=(hap1.kept.block w.heap.size (Zac Hbox.out) (Zah Hap.out.owns (by decide) Hbox.out)).trans Hbox.out
   have Hbox1:=Zaa hbox1
   clear hap1 hbox1 y0 y1 y2 b0 b2
   have Hstr:Hid (∀ sep:UInt8,(⟨(nm++dt).toArray⟩:ByteArray)++⟨[sep].toArray⟩++⟨(Zbs f l' sk).1.toArray⟩=⟨(nm++(dt++sep::(Zbs f l' sk).1)).toArray⟩):=fun sep=>by
    rw [Zcf,Zcf]; simp
   by_cases h0:k=0
   ·have hk0:((k:Int) == 0)=true:=by rw [beq_iff_eq]; omega
    have Hd0:Hid ((dt++40::(Zbs f l' sk).1)++(Zcv f 44 (ls.drop (k+1)) (Zbs f l' sk).2.1).1=(Zcv f 40 ls seen).1∧(Zcv f 44 (ls.drop (k+1)) (Zbs f l' sk).2.1).2=(Zcv f 40 ls seen).2):=by
     have h1:=Hdt.out
     have h2:=Hsd.out
     rw [Hdk.out,if_pos h0] at h1 h2
     simp only [Zcv] at h1 h2
     exact ⟨by rw [← h1]; simp,h2⟩
    have H0:=Zaa h0
    clear h0
    go_wp2
    go_roundw
    case rel=>exact ⟨k+1,(Zbs f l' sk).2.1,dt++40::(Zbs f l' sk).1,by omega,by go_num,by rw [← Hstr.out 40],by simpa using Hd0.out.1,by simpa using Hd0.out.2,by have:=Hwl.out; omega,Hap.out.trans Hap1.out,Hbox1.out⟩
    case measure=>simp [intOf]; omega
   ·have hk0:((k:Int) == 0)=false:=by rw [Qu]; omega
    have Hd0:Hid ((dt++44::(Zbs f l' sk).1)++(Zcv f 44 (ls.drop (k+1)) (Zbs f l' sk).2.1).1=(Zcv f 40 ls seen).1∧(Zcv f 44 (ls.drop (k+1)) (Zbs f l' sk).2.1).2=(Zcv f 40 ls seen).2):=by
     have h1:=Hdt.out
     have h2:=Hsd.out
     rw [Hdk.out,if_neg h0] at h1 h2
     simp only [Zcv] at h1 h2
     exact ⟨by rw [← h1]; simp,h2⟩
    go_wp2
    go_roundw
    case rel=>exact ⟨k+1,(Zbs f l' sk).2.1,dt++44::(Zbs f l' sk).1,by omega,by go_num,by rw [← Hstr.out 44],by simpa using Hd0.out.1,by simpa using Hd0.out.2,by have:=Hwl.out; omega,Hap.out.trans Hap1.out,Hbox1.out⟩
    case measure=>simp [intOf]; omega
  ·have Hend:Hid ((Zcv f 40 ls seen)=(dt,sk)):=by
    have h1:=Hdt.out
    have h2:=Hsd.out
    rw [List.drop_eq_nil_of_le (by omega)] at h1 h2
    simp only [Zcv,Qs] at h1 h2
    show _=_
    rw [h1,h2]
   go_wp2
   go_ret2
   rw [Hend.out]
   refine ⟨_,?_,Hap.out⟩
   show Ending.returned (.tuple #[.string ((⟨(nm++dt).toArray⟩:ByteArray)++⟨[41].toArray⟩),.slice ska sk.length skcap])=_
   rw [Zcf]
theorem Ztd:∀ f,Zlx f:=by
 intro f
 induction f with
 | zero=>intro w lo hi a b c l B seen sv h; exact h.elim
 | succ f ih =>
  intro w lo hi a b c l B seen sv h hsv hB hn hs
  have hT:=h.isT
  rcases h with ⟨n,rfl,rfl,rfl,rfl⟩ | ⟨nm,ls,xs,h1,rfl,rfl,rfl,h5,h6,h7⟩
  ·have hw:Zbs (f+1) [⟨[],n,0⟩] seen=((wvar n seen).1,(wvar n seen).2,[]):=by simp [Zbs]
   rw [hw]
   exact Ztc w n B seen sv hsv hB (by simp at hs; omega)
  ·by_cases hl:ls=[]
   ·subst hl
    have hw:Zbs (f+1) (⟨nm,0,([]:List (List Sym)).length⟩::([]:List (List Sym)).flatten) seen=(nm,seen,[]):=by simp [Zbs,h1]
    rw [hw]
    exact Zrb w nm h1 c B seen sv lo xs h5 hsv
   ·have hT2:∀ l' ∈ ls,IsT f l':=fun l' hl=>by
     obtain ⟨i,hi,rfl⟩:=List.getElem_of_mem hl
     obtain ⟨a',b',c',_,_,_,g⟩:=h7 i _ (Qb hi)
     exact g.isT f
    rw [Zif f nm ls h1 hT2 hl]
    exact Zrc f ih w nm h1 c B seen sv lo hi xs ls hl h5 h7 hsv hB (hn _ (List.mem_cons_self ..)) (fun s hs=>hn s (List.mem_cons_of_mem _ hs)) (by simp at hs ⊢; omega)
def Ziw (f:Nat):List UInt8→List (List Sym)→List Nat→List UInt8
 | _,[],_=>[]
 | sep,l::ls,seen=>sep++(Zbs f l seen).1++Ziw f [44,32] ls (Zbs f l seen).2.1
theorem Zte (f:Nat):∀ (ls:List (List Sym)),(∀ l' ∈ ls,IsT f l')→(∀ s ∈ ls.flatten,s.name.length≤4096)→∀ sep seen,sep.length≤2→seen.length+ls.flatten.length≤4000→(Ziw f sep ls seen).length≤4101 * ls.flatten.length:=by
 intro ls
 induction ls with
 | nil=>intro _ _ sep seen _ _; simp [Ziw]
 | cons l ls ih =>
  intro h hn sep seen hsep hs
  simp only [List.flatten_cons,Qg] at hs
  have h1:=Zjq f l (h l (by simp)) (fun s hs=>hn s (by simp [hs])) seen (by omega)
  have h2:=ih (fun l' hl=>h l' (by simp [hl])) (fun s hs=>hn s (by simp only [List.flatten_cons,Qk]; exact Or.inr hs)) [44,32] (Zbs f l seen).2.1 (by simp) (by omega)
  have h3:=Zzk f l (h l (by simp))
  simp only [Ziw,Qg,List.flatten_cons]
  omega
theorem Zzn (f:Nat) (IH:Zvc f) (w:World) (ts:List Tok) (k:Nat) (tv:Value) (Bt B:Nat) (names:Names) (nv:Value) (t u:Tok) (r:List Tok) (q:List (List Sym) × List Tok × Names)
  (hd:ts.drop k=t::u::r) (hkd:t.kind≠2) (hku:u.kind=40) (hq:Zer (Zda f) (r.length+1) (u::r) names []=some q) (hts:w.ownsRow Bt 243 3 tv ts.length (Zbc ts))
  (hnv:w.ownsRow B 9 1 nv names.length (strs names)) (hB:B≤w.heap.size) (hl:ts.length≤1000) (hn:names.length+(ts.length - k)≤1000) (htx:∀ t ∈ ts,t.text.length≤4096)
  (hne:t.text≠[]) (htn:∀ i t,ts[i]?=some t→i+1<ts.length→t.text≠[]) :
  Calls Tryz.prog 143 #[tv,.int .i64 k,nv] w fun e w'=>∃ a b c nv' j,e = .returned (.tuple #[.agg #[a,b,c],.int .i64 (j:Nat),nv'])∧q.2.1=ts.drop j∧k<j∧j≤ts.length ∧
   RepT (f+1) w' w.heap.size w'.heap.size a b c (⟨t.text,0,q.1.length⟩::q.1.flatten)∧Appended w B 9 1 nv q.2.2.length (strs q.2.2) nv' w':=by
 obtain ⟨ht,hr,hk⟩:=Zfr hd
 obtain ⟨hu,hr',hk'⟩:=Zfr hr
 obtain ⟨g,tcap,rfl,hg,t0,t1,t2⟩:=Zjr hts ht
 obtain ⟨g',tcap',he,hg',u0,u1,u2⟩:=Zjr hts hu
 simp only [Value.slice.injEq,Qo,Addr.mk.injEq] at he
 obtain ⟨⟨rfl,_⟩,_,rfl⟩:=he
 have k2:((t.kind:Int) == 2)=false:=by rw [Qu]; omega
 rw [hku] at u0
 have Hq:Hid (Zer (Zda f) (r.length+1) (ts.drop (k+1)) names []=some q):=by show _=_; rw [hr]; exact hq
 have Hnv:=Zaa hnv
 have Hts:=Zaa hts
 have Hih:=Zaa IH
 have Hap0:Hid (∀ o o',Appended w B 9 1 nv names.length (strs names) nv ((w.alloc o).alloc o')):=fun o o'=>⟨(hnv.alloc _).alloc _,((Qx _ w).alloc _).alloc _,Or.inl rfl⟩
 obtain ⟨na,ncap,rfl⟩:=Zad hnv
 clear hd hts hnv ht hr hu hr' hq IH u1 u2
 go_enter Tryz.func143,Tryz.ntmps143
 go_wp2
 go_loopg [1,2] (r.length+1) (fun gk i nm wr=>∃ (j:Nat) (nms:Names) (acc:List (List Sym)) (cv:Value) (xs:List Value),i = .int .i64 (j:Nat)∧k<j∧j≤ts.length∧acc.length≤j∧nms.length+(ts.length - j)≤1000 ∧
   Zer (Zda f) gk (ts.drop j) nms acc=some q∧wr.heap[w.heap.size]?=some (.cells #[.string ⟨#[]⟩,.int .i64 0,.slice none 0 0] 183 (0,0)) ∧
   wr.heap[w.heap.size+1]?=some (.cells #[.string ⟨t.text.toArray⟩,.int .i64 0,cv] 183 (0,0))∧Kids f wr (w.heap.size+2) cv acc xs∧w.heap.size+2≤wr.heap.size ∧
   Appended w B 9 1 (.slice na names.length ncap) nms.length (strs nms) nm wr)
 case atStart =>
  exact ⟨k+1,names,[],.slice none 0 0,[],by go_num,by omega,by omega,by simp,by omega,Hq.out,Zag (heap_alloc_new w _) _,by simpa using heap_alloc_new (w.alloc _) _,Kids.nil _ _ _,by simp,Hap0.out _ _⟩
 case round =>
  obtain ⟨j,nms,acc,cv,xs,rfl,hkj,hjl,haj,hnm,hpa,hN0,hN1,hkids,hsz,hap⟩:=hrel
  have hnvr:=hap.owns
  obtain ⟨nja,njcap,rfl⟩:=Zad hnvr
  have htsr:wr.ownsRow Bt 243 3 (.slice (some ⟨g,0,none⟩) ts.length tcap) ts.length (Zbc ts):=hap.kept.owns Hts.out (fun k hk=>by
   obtain ⟨cur,hc⟩:=Zar Hts.out k hk
   exact Zah Hnv.out (by decide) hc)
  cases hdj:ts.drop j with
  | nil=>rw [hdj] at hpa; cases gk <;> simp [Zer] at hpa
  | cons x xr =>
   obtain ⟨hx,hxr,hxl⟩:=Zfr hdj
   obtain ⟨g',tcap',he,hg2,x0,_,_⟩:=Zjr htsr hx
   simp only [Value.slice.injEq,Qo,Addr.mk.injEq] at he
   obtain ⟨⟨rfl,_⟩,_,rfl⟩:=he
   obtain ⟨cva,cvcap,rfl⟩:=Zad hkids.owns
   have n10:wr.cell? ⟨w.heap.size+1,0,none⟩=some (.string ⟨t.text.toArray⟩):=Zab hN1 0 _ rfl
   have n11:wr.cell? ⟨w.heap.size+1,1,none⟩=some (.int .i64 0):=Zab hN1 1 _ rfl
   have n12:wr.cell? ⟨w.heap.size+1,2,none⟩=some (.slice cva acc.length cvcap):=Zab hN1 2 _ rfl
   cases gk with
   | zero=>simp [Zer] at hpa
   | succ gk =>
    rw [hdj,Zer] at hpa
    by_cases h41:x.kind=41
    ·rw [if_pos h41] at hpa
     simp only [Qo] at hpa
     have n00:wr.cell? ⟨w.heap.size,0,none⟩=some (.string ⟨#[]⟩):=Zab hN0 0 _ rfl
     have n01:wr.cell? ⟨w.heap.size,1,none⟩=some (.int .i64 0):=Zab hN0 1 _ rfl
     have n02:wr.cell? ⟨w.heap.size,2,none⟩=some (.slice none 0 0):=Zab hN0 2 _ rfl
     have z0:=fun i=>Zae hN0 i
     have k41:((x.kind:Int) != 41)=false:=by rw [h41]; rfl
     have Hkids:=Zaa hkids
     have Hap:=Zaa hap
     have Hx:=Zaa hxr
     have Hpa:=Zaa hpa
     have HN0:=Zaa hN0
     clear hkids hap hxr hpa hdj hx hN0 hN1 hnvr htsr
     go_wp2
     refine bodyPost_ret (v := .tuple #[.agg #[.string ⟨t.text.toArray⟩,.int .i64 0,.slice cva acc.length cvcap],.int .i64 ((j+1:Nat):Int),.slice nja nms.length njcap]) (by simp [results,Tryz.results143,go_sem,n00,n01,n02,z0]) rfl ?_
     have hk5:=(((Qx (only w.heap.size) wr).put 0 (.string ⟨t.text.toArray⟩)).put 1 (.int .i64 0)).put 2 (.slice cva acc.length cvcap)
     have hs5:=hk5.size
     rw [← Hpa.out]
     refine ⟨_,_,_,_,j+1,rfl,Hx.out.symm,by omega,by omega,Or.inr ⟨t.text,acc,xs,hne,rfl,rfl,rfl,?_,?_,?_⟩,?_⟩
     ·refine Zbb (hk5.owns Hkids.out.owns (fun k hk e => ?_)) (by omega)
      have e:k=w.heap.size:=e
      have:=(Hkids.out.owns.lt k hk).1
      omega
     ·intro k hk
      have:=(Hkids.out.owns.lt k hk).2
      omega
     ·intro i l' hl'
      obtain ⟨a',b',c',l1,h1,y1,y2,y3,g1,g2,g3,g4⟩:=Hkids.out.all i l' hl'
      refine ⟨a',b',c',y1,y2,y3,(RepT.later f g4 (fun k hk1 hk2 _=>hk5.block k (by omega) (fun e => ?_))).wide f (by omega) (by omega)⟩
      have e:k=w.heap.size:=e
      omega
     ·refine Hap.out.around (Qx _ w) (fun k e=>(Hnv.out.lt k e).2) hk5 (fun k e=>Nat.le_of_eq (Eq.symm e)) ?_
      intro k hk e
      have e:k=w.heap.size:=e
      subst e
      exact Zah Hap.out.owns (by decide) HN0.out hk
    ·rw [if_neg h41] at hpa
     cases hpt:Zda f xr nms with
     | none=>rw [hpt] at hpa; simp at hpa
     | some r' =>
      rw [hpt] at hpa
      simp only at hpa
      obtain ⟨nb,hb1,hb2,hb3,hb4⟩:=Zdq f xr nms r' hpt
      have hI:=Hih.out wr ts (j+1) (.slice (some ⟨g,0,none⟩) ts.length tcap) Bt B nms (.slice nja nms.length njcap) r' (by rw [hxr]; exact hpt) htsr hnvr (by omega) hl (by omega) htx htn
      rw [show ((j+1:Nat):Int)=(j:Int)+1 from by omega] at hI
      have k41:((x.kind:Int) != 41)=true:=by rw [bne_iff_ne]; omega
      have HI:=Zaa hI
      have Hkids:=Zaa hkids
      have Hap:=Zaa hap
      have Hpa:=Zaa hpa
      have HN0:=Zaa hN0
      have HN1:=Zaa hN1
      have Hnvr:=Zaa hnvr
      have hxrl:xr.length=ts.length - (j+1):=by rw [← hxr]; simp
      have Hb3:=Zaa hb3
      clear hkids hap hpa hdj hx hN0 hN1 hnvr htsr hI hpt hxr hb3
      go_wp2_with fail
      refine HI.out.mono ?_
      rintro e w1 ⟨a,b,c,nv',j',rfl,hrest,hj1,hj2,hrep,hap1⟩
      obtain ⟨sa,bn,ca,cl,cc,rfl,rfl,rfl⟩:=hrep.shape
      obtain ⟨nva,nvcap,rfl⟩:=Zad hap1.owns
      have hN1':w1.heap[w.heap.size+1]?=some (.cells #[.string ⟨t.text.toArray⟩,.int .i64 0,.slice cva acc.length cvcap] 183 (0,0)):=(hap1.kept.block _ (by omega) (Zah Hnvr.out (by decide) HN1.out)).trans HN1.out
      have hN0':=(hap1.kept.block _ (by omega) (Zah Hnvr.out (by decide) HN0.out)).trans HN0.out
      have hcvown:w1.ownsRow (w.heap.size+2) 183 3 (.slice cva acc.length cvcap) acc.length xs:=hap1.kept.owns Hkids.out.owns (fun k hk=>by
       obtain ⟨cur,hc⟩:=Zar Hkids.out.owns k hk
       exact Zah Hnvr.out (by decide) hc)
      have m12:w1.cell? ⟨w.heap.size+1,2,none⟩=some (.slice cva acc.length cvcap):=Zab hN1' 2 _ rfl
      have hsz1:=hap1.kept.size
      have hlt1:w.heap.size+1<w1.heap.size:=Zac hN1'
      have Hcv:=Zaa hcvown
      have HN1':=Zaa hN1'
      have HN0':=Zaa hN0'
      have Hrep:=Zaa hrep
      have Hap1:=Zaa hap1
      have Hrest:=Zaa hrest
      clear hcvown hN1' hN0' hrep hap1 hrest n10 n11 n12 x0 t0 t1 t2 u0
      go_wp2_with (at_builtin; refine Zal _ rfl (.tmp 69) (.tmp 71) 146 rfl (w.heap.size+2) 183 Tryz.infoTerm Tryz.underlying146 rfl (by decide) _ acc.length xs rfl (Hcv.out.alloc _) _ rfl (by simp) rfl Zig ?_ ?_ ?_)
      ·omega
      ·simp; omega
      intro cv' w3 hap3
      obtain ⟨c3a,c3cap,rfl⟩:=Zad hap3.owns
      have hnot:¬ Zap (.slice cva acc.length cvcap) (w.heap.size+1):=fun e=>by have:=(Hkids.out.owns.lt _ e).1; omega
      have hnot0:¬ Zap (.slice cva acc.length cvcap) w.heap.size:=fun e=>by have:=(Hkids.out.owns.lt _ e).1; omega
      have hblk3:w3.heap[w.heap.size+1]?=some (.cells #[.string ⟨t.text.toArray⟩,.int .i64 0,.slice cva acc.length cvcap] 183 (0,0)):=(hap3.kept.block _ (by simp; omega) hnot).trans (Zag HN1'.out _)
      have p2:w3.cell? ⟨w.heap.size+1,2,none⟩=some (.slice cva acc.length cvcap):=Zab hblk3 2 _ rfl
      have pf:=fun i=>Zae hblk3 i
      have Hblk3:=Zaa hblk3
      have Hap3:=Zaa hap3
      clear hblk3 hap3 m12
      go_wp2
      go_roundg gk
      case measure=>omega
      case rel =>
       obtain ⟨hkids',hk14⟩:=Hkids.out.step (N:=w.heap.size+1) (by omega) (by omega) Hnvr.out Hap1.out Hrep.out Hap3.out (.slice c3a (acc.length+1) c3cap)
       have hs14:=hk14.size
       have hj3:j'=j+1+nb:=by
        have h1:=congrArg List.length Hrest.out
        rw [Hb3.out] at h1
        simp only [List.length_drop] at h1
        omega
       refine ⟨j',r'.2.2,acc++[r'.1],.slice c3a (acc.length+1) c3cap,_,rfl,by omega,by omega,by simp; omega,by omega,by rw [← Hrest.out]; exact Hpa.out,?_,?_,hkids',by omega,?_⟩
       ·refine (hk14.block _ (by omega) (fun h => ?_)).trans HN0'.out
        rcases h with h | h
        ·exact hnot0 h
        ·omega
       ·exact Zai Hblk3.out 2 _
       ·refine (Hap.out.trans Hap1.out).around (Qx _ w) (fun k e=>(Hnv.out.lt k e).2) hk14 (fun k h => ?_) (fun k hk h => ?_)
        ·rcases h with h | h
         ·have:=(Hkids.out.owns.lt k h).1; omega
         ·omega
        ·rcases h with h | h
         ·obtain ⟨cur,hc⟩:=Zar Hcv.out k h
          exact Zah Hap1.out.owns (by decide) hc hk
         ·subst h
          exact Zah Hap1.out.owns (by decide) HN1'.out hk
theorem Zvd:∀ f,Zvc f:=by
 intro f
 induction f with
 | zero=>intro w ts k tv Bt B names nv r h; simp [Zda] at h
 | succ f ih =>
  intro w ts k tv Bt B names nv r h hts hnv hB hl hn htx htn
  cases hd:ts.drop k with
  | nil=>rw [hd] at h; simp [Zda] at h
  | cons t tr =>
   rw [hd,Zda] at h
   by_cases h2:t.kind=2
   ·rw [if_pos h2] at h
    simp only [Qo] at h
    subst h
    exact Ydc f w ts k tv Bt B names nv t tr hd h2 hts hnv hB hl hn htx
   ·rw [if_neg h2] at h
    cases tr with
    | nil=>simp [Zlk] at h
    | cons u us =>
     obtain ⟨ht,hr,hk⟩:=Zfr hd
     obtain ⟨_,_,hk'⟩:=Zfr hr
     have hne:=htn k t ht (by omega)
     rw [Zlk] at h
     by_cases h40:u.kind=40
     ·rw [if_neg (by simp [h40])] at h
      rw [Option.map_eq_some_iff] at h
      obtain ⟨q,hq,rfl⟩:=h
      exact Zzn f ih w ts k tv Bt B names nv t u us q hd h2 h40 hq hts hnv hB hl hn htx hne htn
     ·rw [if_pos h40] at h
      simp only [Qo] at h
      subst h
      exact Zzl f w ts k tv Bt B names nv t u us hd h2 h40 hts hnv hB hl hne
theorem Kids.step0 {f:Nat} {wr w1 w3:World} {lo:Nat} {nvj nv' cv cv':Value} {B nn nn':Nat} {ns ns':List Value} {acc:List (List Sym)} {xs:List Value} {s:ByteArray} {n:Int} {ca:Option Addr} {cl cc:Nat} {l:List Sym} {o:Obj}
  (hk:Kids f wr lo cv acc xs) (hlo':lo≤wr.heap.size) (hnv:wr.ownsRow B 9 1 nvj nn ns) (hap:Appended wr B 9 1 nvj nn' ns' nv' w1)
  (hr:RepT f w1 wr.heap.size w1.heap.size (.string s) (.int .i64 n) (.slice ca cl cc) l) (ha:Appended (w1.alloc o) lo 183 3 cv (acc.length+1) (xs++[.string s,.int .i64 n,.slice ca cl cc]) cv' w3) :
  Kids f w3 lo cv' (acc++[l]) (xs++[.string s,.int .i64 n,.slice ca cl cc])∧Kept (Zap cv) w1 w3:=by
 have hcvlt:∀ k,cv.ownBlock=some k→lo≤k∧k<wr.heap.size:=hk.owns.lt
 have k13:Kept (Zap cv) w1 w3:=((Qx _ w1).alloc o).then ha.kept (fun _ _ e=>e)
 have k14:=k13
 have hcv':∀ k,cv'.ownBlock=some k→(lo≤k∧k<wr.heap.size∧cv.ownBlock=some k)∨w1.heap.size<k:=by
  intro k hk
  rcases ha.where_ with h | ⟨g,h,hg⟩
  ·rw [hk] at h
   exact Or.inl ⟨(hcvlt k h.symm).1,(hcvlt k h.symm).2,h.symm⟩
  ·rw [hk] at h
   simp at h hg
   exact Or.inr (by omega)
 have hxl:xs.length=acc.length * 3:=hk.owns.1
 have hw14:w1.heap.size≤w3.heap.size:=k14.size
 have hwr1:=hap.kept.size
 refine ⟨⟨?_,?_⟩,k14⟩
 ·have:=ha.owns
  simpa using this
 ·intro i l' hl
  rcases Nat.lt_or_ge i acc.length with hi | hi
  ·rw [Qc hi] at hl
   obtain ⟨a',b',c',l1,h1,x1,x2,x3,g1,g2,g3,g4⟩:=hk.all i l' hl
   refine ⟨a',b',c',l1,h1,?_,?_,?_,g1,by omega,?_,?_⟩
   ·rw [Qc (by omega)]; exact x1
   ·rw [Qc (by omega)]; exact x2
   ·rw [Qc (by omega)]; exact x3
   ·intro k hk' hin
    rcases hcv' k hk' with h | h
    ·exact g3 k h.2.2 hin
    ·omega
   ·refine g4.later (w:=wr) _ (fun k hk1 hk2 ht => ?_)
    obtain ⟨cur,hcur⟩:=ht
    have e1:w1.heap[k]?=wr.heap[k]?:=hap.kept.block k (by omega) (Zah hnv (by decide) hcur)
    have e2:=k14.block k (by omega) (fun h=>g3 k h ⟨hk1,hk2⟩)
    exact e2.trans e1
  ·have hi':i=acc.length:=by
    have:i<(acc++[l]).length:=(Qa.1 hl).1
    simp at this; omega
   subst hi'
   simp at hl
   subst hl
   refine ⟨.string s,.int .i64 n,.slice ca cl cc,wr.heap.size,w1.heap.size,?_,?_,?_,hlo',by omega,?_,?_⟩
   ·rw [Qd (by omega),hxl]; simp
   ·rw [Qd (by omega),hxl]; simp
   ·rw [Qd (by omega),hxl]; simp
   ·intro k hk' hin
    rcases hcv' k hk' with h | h <;> omega
   ·refine hr.later _ (fun k hk1 hk2 _=>k14.block k hk2 (fun h => ?_))
    have:=(hcvlt k h).2
    omega
def Zdc (f:Nat):Nat→List Tok→Names→List (List Sym)→Option (List (List Sym) × List Tok × Names)
 | 0,_,_,_=>none
 | g+1,ts,names,acc =>
  match Zda f ts names with
  | none=>none
  | some r =>
   match r.2.1 with
   | []=>none
   | x::rest=>if x.kind=46 then some (acc++[r.1],rest,r.2.2) else Zdc f g rest r.2.2 (acc++[r.1])
theorem Zrd (f gn:Nat) (w:World) (ts:List Tok) (k:Nat) (tv:Value) (Bt B:Nat) (names:Names) (nv:Value) (q:List (List Sym) × List Tok × Names)
  (hq:Zdc f gn (ts.drop k) names []=some q) (hts:w.ownsRow Bt 243 3 tv ts.length (Zbc ts)) (hnv:w.ownsRow B 9 1 nv names.length (strs names)) (hB:B≤w.heap.size)
  (hl:ts.length≤1000) (hn:names.length+(ts.length - k)≤1000) (htx:∀ t ∈ ts,t.text.length≤4096) (htn:∀ i t,ts[i]?=some t→i+1<ts.length→t.text≠[]) :
  Calls Tryz.prog 144 #[tv,.int .i64 k,nv] w fun e w'=>∃ lv nv' j xs,e = .returned (.tuple #[lv,.int .i64 (j:Nat),nv'])∧q.2.1=ts.drop j∧k<j∧j≤ts.length ∧
   Kids f w' w.heap.size lv q.1 xs∧Appended w B 9 1 nv q.2.2.length (strs q.2.2) nv' w':=by
 have Hq:=Zaa hq
 have Hnv:=Zaa hnv
 have Hts:=Zaa hts
 have Hih:=Zaa (Zvd f)
 have Hap0:Hid (Appended w B 9 1 nv names.length (strs names) nv w):=⟨hnv,Qx _ w,Or.inl rfl⟩
 obtain ⟨na,ncap,rfl⟩:=Zad hnv
 obtain ⟨tva,tcap,rfl⟩:=Zad hts
 clear hts hnv hq
 go_enter Tryz.func144,Tryz.ntmps144
 go_wp2
 go_loopg [1,2,9] gn (fun gk i nm lv wr=>∃ (j:Nat) (nms:Names) (acc:List (List Sym)) (xs:List Value),i = .int .i64 (j:Nat)∧k≤j∧j≤ts.length∧acc.length≤j∧nms.length+(ts.length - j)≤1000 ∧
   Zdc f gk (ts.drop j) nms acc=some q∧Kids f wr w.heap.size lv acc xs∧w.heap.size≤wr.heap.size ∧
   Appended w B 9 1 (.slice na names.length ncap) nms.length (strs nms) nm wr)
 case atStart =>
  rcases Nat.lt_or_ge ts.length k with hk | hk
  ·exfalso
   have h:=Hq.out
   rw [List.drop_eq_nil_of_le (by omega)] at h
   cases gn <;> cases f <;> simp [Zdc,Zda] at h
  ·exact ⟨k,names,[],[],rfl,by omega,by omega,by simp,by omega,Hq.out,Kids.nil _ _ _,by omega,Hap0.out⟩
 case round =>
  obtain ⟨j,nms,acc,xs,rfl,hkj,hjl,haj,hnm,hpa,hkids,hsz,hap⟩:=hrel
  have hnvr:=hap.owns
  obtain ⟨nja,njcap,rfl⟩:=Zad hnvr
  obtain ⟨cva,cvcap,rfl⟩:=Zad hkids.owns
  have htsr:wr.ownsRow Bt 243 3 (.slice tva ts.length tcap) ts.length (Zbc ts):=hap.kept.owns Hts.out (fun k hk=>by
   obtain ⟨cur,hc⟩:=Zar Hts.out k hk
   exact Zah Hnv.out (by decide) hc)
  cases gk with
  | zero=>simp [Zdc] at hpa
  | succ gk =>
   rw [Zdc] at hpa
   cases hpt:Zda f (ts.drop j) nms with
   | none=>rw [hpt] at hpa; simp at hpa
   | some r' =>
    rw [hpt] at hpa
    simp only at hpa
    obtain ⟨nb,hb1,hb2,hb3,hb4⟩:=Zdq f _ nms r' hpt
    simp only [List.length_drop] at hb2
    have HI:=Zaa (Hih.out wr ts j (.slice tva ts.length tcap) Bt B nms (.slice nja nms.length njcap) r' hpt htsr hnvr (by omega) hl (by omega) htx htn)
    have Hkids:=Zaa hkids
    have Hap:=Zaa hap
    have Hpa:=Zaa hpa
    have Hnvr:=Zaa hnvr
    have Htsr:=Zaa htsr
    have Hb3:=Zaa hb3
    clear hkids hap hpa hnvr htsr hpt hb3
    go_wp2_with fail
    refine HI.out.mono ?_
    rintro e w1 ⟨a,b,c,nv',j',rfl,hrest,hj1,hj2,hrep,hap1⟩
    obtain ⟨sa,bn,ca,cl,cc,rfl,rfl,rfl⟩:=hrep.shape
    obtain ⟨nva,nvcap,rfl⟩:=Zad hap1.owns
    have hcvown:w1.ownsRow w.heap.size 183 3 (.slice cva acc.length cvcap) acc.length xs:=hap1.kept.owns Hkids.out.owns (fun k hk=>by
     obtain ⟨cur,hc⟩:=Zar Hkids.out.owns k hk
     exact Zah Hnvr.out (by decide) hc)
    have hts1:w1.ownsRow Bt 243 3 (.slice tva ts.length tcap) ts.length (Zbc ts):=hap1.kept.owns Htsr.out (fun k hk=>by
     obtain ⟨cur,hc⟩:=Zar Htsr.out k hk
     exact Zah Hnvr.out (by decide) hc)
    have hsz1:=hap1.kept.size
    have hj3:j'=j+nb:=by
     have h1:=congrArg List.length hrest
     rw [Hb3.out] at h1
     simp only [List.length_drop] at h1
     omega
    have Hcv:=Zaa hcvown
    have Hts1:=Zaa hts1
    have Hrep:=Zaa hrep
    have Hap1:=Zaa hap1
    have Hrest:=Zaa hrest
    have Hj3:=Zaa hj3
    clear hcvown hrep hap1 hrest hts1 hj3
    go_wp2_with (at_builtin; refine Zal _ rfl (.tmp 21) (.tmp 23) 146 rfl w.heap.size 183 Tryz.infoTerm Tryz.underlying146 rfl (by decide) _ acc.length xs rfl (Hcv.out.alloc _) _ rfl (by simp) rfl Zig ?_ ?_ ?_)
    ·omega
    ·simp; omega
    intro cv' w3 hap3
    obtain ⟨c3a,c3cap,rfl⟩:=Zad hap3.owns
    have hstep:=Hkids.out.step0 (by omega) Hnvr.out Hap1.out Hrep.out hap3
    have happ:Appended w B 9 1 (.slice na names.length ncap) r'.2.2.length (strs r'.2.2) (.slice nva r'.2.2.length nvcap) w3:=by
     refine (Hap.out.trans Hap1.out).around (Qx _ w) (fun k e=>(Hnv.out.lt k e).2) hstep.2 (fun k h=>(Hkids.out.owns.lt k h).1) (fun k hk h => ?_)
     obtain ⟨cur,hc⟩:=Zar Hcv.out k h
     exact Zah Hap1.out.owns (by decide) hc hk
    have hts3:w3.ownsRow Bt 243 3 (.slice tva ts.length tcap) ts.length (Zbc ts):=hstep.2.owns Hts1.out (fun k hk=>by
     obtain ⟨cur,hc⟩:=Zar Hts1.out k hk
     exact Zah Hcv.out (by decide) hc)
    have Hpa':=Hpa.out
    rw [Hrest.out] at Hpa'
    have hs3:=hstep.2.size
    have hj3:=Hj3.out
    cases hdj:ts.drop j' with
    | nil=>rw [hdj] at Hpa'; simp at Hpa'
    | cons x xr =>
     rw [hdj] at Hpa'
     simp only at Hpa'
     obtain ⟨hx,hxr,hxl⟩:=Zfr hdj
     obtain ⟨g',tcap',he,hg2,x0,_,_⟩:=Zjr hts3 hx
     simp only [Value.slice.injEq] at he
     obtain ⟨rfl,_,rfl⟩:=he
     have Hstep:=Zaa hstep
     have Happ:=Zaa happ
     have Hxr:=Zaa hxr
     have hn3:r'.2.2.length+(ts.length - (j'+1))≤1000:=by omega
     clear hap3 hstep happ hts3 hdj hx hxr hj3
     by_cases h46:x.kind=46
     ·have HP:Hid ((acc++[r'.1],xr,r'.2.2)=q):=by rw [if_pos h46] at Hpa'; show _=_; simpa using Hpa'
      clear Hpa'
      rw [h46] at x0
      go_wp2
      go_ret3
      rw [← HP.out]
      exact ⟨_,_,j'+1,_,by go_num,Hxr.out.symm,by omega,by omega,Hstep.out.1,Happ.out⟩
     ·have HP:Hid (Zdc f gk xr r'.2.2 (acc++[r'.1])=some q):=by rw [if_neg h46] at Hpa'; exact Hpa'
      have k46:((x.kind:Int) == 46)=false:=by rw [Qu]; omega
      clear Hpa'
      go_wp2
      go_roundg gk
      case measure=>omega
      case rel=>exact ⟨j'+1,r'.2.2,acc++[r'.1],_,by go_num,by omega,by omega,by simp; omega,hn3,by rw [Hxr.out]; exact HP.out,Hstep.out.1,by omega,Happ.out⟩
theorem Zzo (w:World) (Bt:Nat) (ts:List Tok) (v:Value) (hts:w.ownsRow Bt 243 3 v ts.length (Zbc ts)) (hn:ts.length≤3900) (htx:∀ t ∈ ts,t.text.length≤4096) :
  Calls Tryz.prog 142 #[v,.bool true] w fun e w' =>
   e = .returned (.tuple #[.int .i64 (Zcx ts (Zbd true)).1,.int .i64 (Zcx ts (Zbd true)).2])∧Below w.heap.size w w':=by
 obtain ⟨ta,tcap,rfl⟩:=Zad hts
 have Hts:=Zaa hts
 clear hts
 go_enter Tryz.func142,Tryz.ntmps142
 go_wp2
 go_loopw [7] (fun i wr=>∃ (k:Nat) (L:LookS) (ov:Value),k≤ts.length∧i = .int .i64 k∧Below w.heap.size w wr∧IsLook wr w.heap.size w.heap.size L ov∧LInv L k∧L.err=0 ∧
   Zcx (ts.drop k) L=Zcx ts (Zbd true)) (fun i _=>ts.length - (intOf i).toNat)
 case atStart=>exact ⟨0,Zbd true,.slice none 0 0,Qm _,rfl,(Below.refl _ _).alloc (Qe _) _,⟨heap_alloc_new w _,World.ownsRow_nil _ _ _ _⟩,⟨by simp [Zbd],fun e=>by simp [Zbd] at e,by simp [Zbd],by simp [Zbd],by simp [Zbd],by simp [Zbd],by simp [Zbd]⟩,rfl,rfl⟩
 case round =>
  obtain ⟨k,L,ov,hk,rfl,hbel,hlook,hinv,herr,hlov⟩:=hrel
  have Hlook:=Zaa hlook
  have Hinv:=Zaa hinv
  have Herr:=Zaa herr
  have Hlov:=Zaa hlov
  obtain ⟨hb,⟨c0,c1,c2,c3,c4,c5,c6,c7⟩,hf⟩:=hlook.facts
  rw [herr] at c7
  clear hlook hinv herr hlov
  by_cases hlt:k<ts.length
  ·obtain ⟨t,ht⟩:∃ t,ts[k]?=some t:=⟨_,Qb hlt⟩
   have hmem:t ∈ ts:=Qh ht
   have htt:ByteArray.size ⟨t.text.toArray⟩≤4096:=htx t hmem
   obtain ⟨g,tcap',tcur,he,hBg,hg,hcp⟩:=Zan Hts.out (by omega)
   simp only [Value.slice.injEq] at he
   obtain ⟨rfl,_,rfl⟩:=he
   have hgl:=Zac hg
   have tcell:∀ j v,j<3→(Zeh t)[j]?=some v→wr.cell? ⟨g,k * 3+j,none⟩=some v:=by
    intro j v hj hv
    exact (hbel.cell (p:=⟨g,k * 3+j,none⟩) hgl).trans (Zaf Hts.out (k * 3+j) v (by rw [Zht ts k t ht j hj]; exact hv))
   have tc0:wr.cell? ⟨g,k * 3,none⟩=some (.int .i64 t.kind):=tcell 0 _ (by omega) rfl
   have tc1:wr.cell? ⟨g,k * 3+1,none⟩=some (.string ⟨t.text.toArray⟩):=tcell 1 _ (by omega) rfl
   have tc2:wr.cell? ⟨g,k * 3+2,none⟩=some (.int .i64 t.pos):=tcell 2 _ (by omega) rfl
   have Hhere:=Zaa (Znw ts k t L ht)
   have hwant:=Hinv.out.want
   clear tcell ht hmem hg
   have hws:L.want=0∨L.want=1∨L.want=2∨L.want=3∨L.want=4∨L.want=5:=by omega
   clear hwant
   rcases hws with hw | hw | hw | hw | hw | hw
   ·rw [hw] at c0
    have Hw:=Zaa hw
    clear hw
    by_cases k4:t.kind=4
    ·have Hh:=Zaa (Hhere.out.trans (if_pos ⟨k4,by rw [Hw.out]; omega⟩))
     have k4':((t.kind:Int) == 4)=true:=by rw [beq_iff_eq]; omega
     clear k4
     go_wp2
     go_ret2
     refine ⟨Zcg ?_ ?_,?_⟩
     ·rw [← Hlov.out,Hh.out]; rfl
     ·rw [← Hlov.out,Hh.out]; rfl
     ·exact hbel.alloc hbel.size _
    ·have Hn4:Hid (¬ (t.kind=4∧(L.want=5∨L.want=0))):=by rw [Hw.out]; intro h; omega
     have k4':((t.kind:Int) == 4)=false:=by rw [Qu]; omega
     clear k4
     go_wp2_with fail
     refine (Zdn _ w.heap.size w.heap.size L ov t.kind _ ⟨t.text.toArray⟩ ?_ (Qe _) (Hinv.out.mono (by omega)) (by rw [Hw.out]; omega) htt).mono ?_
     ·exact Hlook.out.later (S:=Zbf) ((Qx _ _).alloc _) (fun h=>h) (fun _ _ h=>h)
     rintro e w1 ⟨rfl,ov',hkp,hlk⟩
     have hbel1:=Zcd hbel Hlook.out _ hkp
     have hbox2:w1.cell? ⟨wr.heap.size,2,none⟩=some (.int .i64 t.pos):=Zcr Hlook.out _ _ hkp 2 _ rfl
     have hstep:Zau L t.kind (ByteArray.size ⟨t.text.toArray⟩)=Zat L t.kind t.text.length:=by simp [Zat,Hw.out,ByteArray.size]
     rw [hstep] at hlk
     have Hlk:=Zaa hlk
     have d7:=hlk.facts.2.1.2.2.2.2.2.2.2
     have hb1:=hlk.facts.1
     have df:=hlk.facts.2.2
     have Hst:=Zaa hstep
     have Hkp:=Zaa hkp
     clear hstep hkp hlk c0 c1 c2 c3 c4 c5 c6 c7 hf tc0 tc1 tc2
     by_cases he:(Zat L t.kind t.text.length).err=0
     ·rw [he] at d7
      have He:=Zaa he
      clear he
      go_wp2_with fail
      go_roundw
      case rel =>
       refine ⟨k+1,Zat L t.kind t.text.length,ov',by omega,by go_num,hbel1,Hlk.out,Zcc Hinv.out _ _,He.out,?_⟩
       rw [← Hlov.out,Hhere.out,if_neg Hn4.out,if_neg (by simp [He.out])]
      case measure=>simp [intOf]; omega
     ·have hne:(((Zat L t.kind t.text.length).err:Int) != 0)=true:=by rw [bne_iff_ne]; omega
      have He:=Zaa he
      clear he
      go_wp2_with fail
      go_quiet (fail)
      go_wp2_with fail
      go_ret2
      refine ⟨Zcg ?_ ?_,?_⟩
      ·rw [← Hlov.out,Hhere.out,if_neg Hn4.out,if_pos He.out]
      ·rw [← Hlov.out,Hhere.out,if_neg Hn4.out,if_pos He.out]
      ·exact hbel1.trans ⟨rfl,rfl,rfl,Qe _,fun _ _=>rfl⟩
   ·rw [hw] at c0
    have Hw:=Zaa hw
    clear hw
    by_cases k4:t.kind=4
    ·have Hn4:Hid (¬ (t.kind=4∧(L.want=5∨L.want=0))):=by rw [Hw.out]; intro h; omega
     have k4':((t.kind:Int) == 4)=true:=by rw [beq_iff_eq]; omega
     clear k4
     go_wp2_with fail
     refine (Zdn _ w.heap.size w.heap.size L ov t.kind _ ⟨t.text.toArray⟩ ?_ (Qe _) (Hinv.out.mono (by omega)) (by rw [Hw.out]; omega) htt).mono ?_
     ·exact Hlook.out.later (S:=Zbf) ((Qx _ _).alloc _) (fun h=>h) (fun _ _ h=>h)
     rintro e w1 ⟨rfl,ov',hkp,hlk⟩
     have hbel1:=Zcd hbel Hlook.out _ hkp
     have hbox2:w1.cell? ⟨wr.heap.size,2,none⟩=some (.int .i64 t.pos):=Zcr Hlook.out _ _ hkp 2 _ rfl
     have hstep:Zau L t.kind (ByteArray.size ⟨t.text.toArray⟩)=Zat L t.kind t.text.length:=by simp [Zat,Hw.out,ByteArray.size]
     rw [hstep] at hlk
     have Hlk:=Zaa hlk
     have d7:=hlk.facts.2.1.2.2.2.2.2.2.2
     have hb1:=hlk.facts.1
     have df:=hlk.facts.2.2
     have Hst:=Zaa hstep
     have Hkp:=Zaa hkp
     clear hstep hkp hlk c0 c1 c2 c3 c4 c5 c6 c7 hf tc0 tc1 tc2
     by_cases he:(Zat L t.kind t.text.length).err=0
     ·rw [he] at d7
      have He:=Zaa he
      clear he
      go_wp2_with fail
      go_roundw
      case rel =>
       refine ⟨k+1,Zat L t.kind t.text.length,ov',by omega,by go_num,hbel1,Hlk.out,Zcc Hinv.out _ _,He.out,?_⟩
       rw [← Hlov.out,Hhere.out,if_neg Hn4.out,if_neg (by simp [He.out])]
      case measure=>simp [intOf]; omega
     ·have hne:(((Zat L t.kind t.text.length).err:Int) != 0)=true:=by rw [bne_iff_ne]; omega
      have He:=Zaa he
      clear he
      go_wp2_with fail
      go_quiet (fail)
      go_wp2_with fail
      go_ret2
      refine ⟨Zcg ?_ ?_,?_⟩
      ·rw [← Hlov.out,Hhere.out,if_neg Hn4.out,if_pos He.out]
      ·rw [← Hlov.out,Hhere.out,if_neg Hn4.out,if_pos He.out]
      ·exact hbel1.trans ⟨rfl,rfl,rfl,Qe _,fun _ _=>rfl⟩
    ·have Hn4:Hid (¬ (t.kind=4∧(L.want=5∨L.want=0))):=by rw [Hw.out]; intro h; omega
     have k4':((t.kind:Int) == 4)=false:=by rw [Qu]; omega
     clear k4
     go_wp2_with fail
     refine (Zdn _ w.heap.size w.heap.size L ov t.kind _ ⟨t.text.toArray⟩ ?_ (Qe _) (Hinv.out.mono (by omega)) (by rw [Hw.out]; omega) htt).mono ?_
     ·exact Hlook.out.later (S:=Zbf) ((Qx _ _).alloc _) (fun h=>h) (fun _ _ h=>h)
     rintro e w1 ⟨rfl,ov',hkp,hlk⟩
     have hbel1:=Zcd hbel Hlook.out _ hkp
     have hbox2:w1.cell? ⟨wr.heap.size,2,none⟩=some (.int .i64 t.pos):=Zcr Hlook.out _ _ hkp 2 _ rfl
     have hstep:Zau L t.kind (ByteArray.size ⟨t.text.toArray⟩)=Zat L t.kind t.text.length:=by simp [Zat,Hw.out,ByteArray.size]
     rw [hstep] at hlk
     have Hlk:=Zaa hlk
     have d7:=hlk.facts.2.1.2.2.2.2.2.2.2
     have hb1:=hlk.facts.1
     have df:=hlk.facts.2.2
     have Hst:=Zaa hstep
     have Hkp:=Zaa hkp
     clear hstep hkp hlk c0 c1 c2 c3 c4 c5 c6 c7 hf tc0 tc1 tc2
     by_cases he:(Zat L t.kind t.text.length).err=0
     ·rw [he] at d7
      have He:=Zaa he
      clear he
      go_wp2_with fail
      go_roundw
      case rel =>
       refine ⟨k+1,Zat L t.kind t.text.length,ov',by omega,by go_num,hbel1,Hlk.out,Zcc Hinv.out _ _,He.out,?_⟩
       rw [← Hlov.out,Hhere.out,if_neg Hn4.out,if_neg (by simp [He.out])]
      case measure=>simp [intOf]; omega
     ·have hne:(((Zat L t.kind t.text.length).err:Int) != 0)=true:=by rw [bne_iff_ne]; omega
      have He:=Zaa he
      clear he
      go_wp2_with fail
      go_quiet (fail)
      go_wp2_with fail
      go_ret2
      refine ⟨Zcg ?_ ?_,?_⟩
      ·rw [← Hlov.out,Hhere.out,if_neg Hn4.out,if_pos He.out]
      ·rw [← Hlov.out,Hhere.out,if_neg Hn4.out,if_pos He.out]
      ·exact hbel1.trans ⟨rfl,rfl,rfl,Qe _,fun _ _=>rfl⟩
   ·rw [hw] at c0
    have Hw:=Zaa hw
    clear hw
    by_cases k4:t.kind=4
    ·have Hn4:Hid (¬ (t.kind=4∧(L.want=5∨L.want=0))):=by rw [Hw.out]; intro h; omega
     have k4':((t.kind:Int) == 4)=true:=by rw [beq_iff_eq]; omega
     clear k4
     go_wp2_with fail
     refine (Zdn _ w.heap.size w.heap.size L ov t.kind _ ⟨t.text.toArray⟩ ?_ (Qe _) (Hinv.out.mono (by omega)) (by rw [Hw.out]; omega) htt).mono ?_
     ·exact Hlook.out.later (S:=Zbf) ((Qx _ _).alloc _) (fun h=>h) (fun _ _ h=>h)
     rintro e w1 ⟨rfl,ov',hkp,hlk⟩
     have hbel1:=Zcd hbel Hlook.out _ hkp
     have hbox2:w1.cell? ⟨wr.heap.size,2,none⟩=some (.int .i64 t.pos):=Zcr Hlook.out _ _ hkp 2 _ rfl
     have hstep:Zau L t.kind (ByteArray.size ⟨t.text.toArray⟩)=Zat L t.kind t.text.length:=by simp [Zat,Hw.out,ByteArray.size]
     rw [hstep] at hlk
     have Hlk:=Zaa hlk
     have d7:=hlk.facts.2.1.2.2.2.2.2.2.2
     have hb1:=hlk.facts.1
     have df:=hlk.facts.2.2
     have Hst:=Zaa hstep
     have Hkp:=Zaa hkp
     clear hstep hkp hlk c0 c1 c2 c3 c4 c5 c6 c7 hf tc0 tc1 tc2
     by_cases he:(Zat L t.kind t.text.length).err=0
     ·rw [he] at d7
      have He:=Zaa he
      clear he
      go_wp2_with fail
      go_roundw
      case rel =>
       refine ⟨k+1,Zat L t.kind t.text.length,ov',by omega,by go_num,hbel1,Hlk.out,Zcc Hinv.out _ _,He.out,?_⟩
       rw [← Hlov.out,Hhere.out,if_neg Hn4.out,if_neg (by simp [He.out])]
      case measure=>simp [intOf]; omega
     ·have hne:(((Zat L t.kind t.text.length).err:Int) != 0)=true:=by rw [bne_iff_ne]; omega
      have He:=Zaa he
      clear he
      go_wp2_with fail
      go_quiet (fail)
      go_wp2_with fail
      go_ret2
      refine ⟨Zcg ?_ ?_,?_⟩
      ·rw [← Hlov.out,Hhere.out,if_neg Hn4.out,if_pos He.out]
      ·rw [← Hlov.out,Hhere.out,if_neg Hn4.out,if_pos He.out]
      ·exact hbel1.trans ⟨rfl,rfl,rfl,Qe _,fun _ _=>rfl⟩
    ·have Hn4:Hid (¬ (t.kind=4∧(L.want=5∨L.want=0))):=by rw [Hw.out]; intro h; omega
     have k4':((t.kind:Int) == 4)=false:=by rw [Qu]; omega
     clear k4
     go_wp2_with fail
     refine (Zdn _ w.heap.size w.heap.size L ov t.kind _ ⟨t.text.toArray⟩ ?_ (Qe _) (Hinv.out.mono (by omega)) (by rw [Hw.out]; omega) htt).mono ?_
     ·exact Hlook.out.later (S:=Zbf) ((Qx _ _).alloc _) (fun h=>h) (fun _ _ h=>h)
     rintro e w1 ⟨rfl,ov',hkp,hlk⟩
     have hbel1:=Zcd hbel Hlook.out _ hkp
     have hbox2:w1.cell? ⟨wr.heap.size,2,none⟩=some (.int .i64 t.pos):=Zcr Hlook.out _ _ hkp 2 _ rfl
     have hstep:Zau L t.kind (ByteArray.size ⟨t.text.toArray⟩)=Zat L t.kind t.text.length:=by simp [Zat,Hw.out,ByteArray.size]
     rw [hstep] at hlk
     have Hlk:=Zaa hlk
     have d7:=hlk.facts.2.1.2.2.2.2.2.2.2
     have hb1:=hlk.facts.1
     have df:=hlk.facts.2.2
     have Hst:=Zaa hstep
     have Hkp:=Zaa hkp
     clear hstep hkp hlk c0 c1 c2 c3 c4 c5 c6 c7 hf tc0 tc1 tc2
     by_cases he:(Zat L t.kind t.text.length).err=0
     ·rw [he] at d7
      have He:=Zaa he
      clear he
      go_wp2_with fail
      go_roundw
      case rel =>
       refine ⟨k+1,Zat L t.kind t.text.length,ov',by omega,by go_num,hbel1,Hlk.out,Zcc Hinv.out _ _,He.out,?_⟩
       rw [← Hlov.out,Hhere.out,if_neg Hn4.out,if_neg (by simp [He.out])]
      case measure=>simp [intOf]; omega
     ·have hne:(((Zat L t.kind t.text.length).err:Int) != 0)=true:=by rw [bne_iff_ne]; omega
      have He:=Zaa he
      clear he
      go_wp2_with fail
      go_quiet (fail)
      go_wp2_with fail
      go_ret2
      refine ⟨Zcg ?_ ?_,?_⟩
      ·rw [← Hlov.out,Hhere.out,if_neg Hn4.out,if_pos He.out]
      ·rw [← Hlov.out,Hhere.out,if_neg Hn4.out,if_pos He.out]
      ·exact hbel1.trans ⟨rfl,rfl,rfl,Qe _,fun _ _=>rfl⟩
   ·rw [hw] at c0
    have Hw:=Zaa hw
    clear hw
    by_cases k4:t.kind=4
    ·have Hn4:Hid (¬ (t.kind=4∧(L.want=5∨L.want=0))):=by rw [Hw.out]; intro h; omega
     have k4':((t.kind:Int) == 4)=true:=by rw [beq_iff_eq]; omega
     clear k4
     go_wp2_with fail
     refine (Zds _ w.heap.size w.heap.size L ov t.kind _ ⟨t.text.toArray⟩ ?_ (Qe _) (Hinv.out.mono (by omega))).mono ?_
     ·exact Hlook.out.later (S:=Zbf) ((Qx _ _).alloc _) (fun h=>h) (fun _ _ h=>h)
     rintro e w1 ⟨rfl,ov',hkp,hlk⟩
     have hbel1:=Zcd hbel Hlook.out _ hkp
     have hbox2:w1.cell? ⟨wr.heap.size,2,none⟩=some (.int .i64 t.pos):=Zcr Hlook.out _ _ hkp 2 _ rfl
     have hstep:Zaj L t.kind=Zat L t.kind t.text.length:=by simp [Zat,Hw.out,ByteArray.size]
     rw [hstep] at hlk
     have Hlk:=Zaa hlk
     have d7:=hlk.facts.2.1.2.2.2.2.2.2.2
     have hb1:=hlk.facts.1
     have df:=hlk.facts.2.2
     have Hst:=Zaa hstep
     have Hkp:=Zaa hkp
     clear hstep hkp hlk c0 c1 c2 c3 c4 c5 c6 c7 hf tc0 tc1 tc2
     by_cases he:(Zat L t.kind t.text.length).err=0
     ·rw [he] at d7
      have He:=Zaa he
      clear he
      go_wp2_with fail
      go_roundw
      case rel =>
       refine ⟨k+1,Zat L t.kind t.text.length,ov',by omega,by go_num,hbel1,Hlk.out,Zcc Hinv.out _ _,He.out,?_⟩
       rw [← Hlov.out,Hhere.out,if_neg Hn4.out,if_neg (by simp [He.out])]
      case measure=>simp [intOf]; omega
     ·have hne:(((Zat L t.kind t.text.length).err:Int) != 0)=true:=by rw [bne_iff_ne]; omega
      have He:=Zaa he
      clear he
      go_wp2_with fail
      go_quiet (fail)
      go_wp2_with fail
      go_ret2
      refine ⟨Zcg ?_ ?_,?_⟩
      ·rw [← Hlov.out,Hhere.out,if_neg Hn4.out,if_pos He.out]
      ·rw [← Hlov.out,Hhere.out,if_neg Hn4.out,if_pos He.out]
      ·exact hbel1.trans ⟨rfl,rfl,rfl,Qe _,fun _ _=>rfl⟩
    ·have Hn4:Hid (¬ (t.kind=4∧(L.want=5∨L.want=0))):=by rw [Hw.out]; intro h; omega
     have k4':((t.kind:Int) == 4)=false:=by rw [Qu]; omega
     clear k4
     go_wp2_with fail
     refine (Zds _ w.heap.size w.heap.size L ov t.kind _ ⟨t.text.toArray⟩ ?_ (Qe _) (Hinv.out.mono (by omega))).mono ?_
     ·exact Hlook.out.later (S:=Zbf) ((Qx _ _).alloc _) (fun h=>h) (fun _ _ h=>h)
     rintro e w1 ⟨rfl,ov',hkp,hlk⟩
     have hbel1:=Zcd hbel Hlook.out _ hkp
     have hbox2:w1.cell? ⟨wr.heap.size,2,none⟩=some (.int .i64 t.pos):=Zcr Hlook.out _ _ hkp 2 _ rfl
     have hstep:Zaj L t.kind=Zat L t.kind t.text.length:=by simp [Zat,Hw.out,ByteArray.size]
     rw [hstep] at hlk
     have Hlk:=Zaa hlk
     have d7:=hlk.facts.2.1.2.2.2.2.2.2.2
     have hb1:=hlk.facts.1
     have df:=hlk.facts.2.2
     have Hst:=Zaa hstep
     have Hkp:=Zaa hkp
     clear hstep hkp hlk c0 c1 c2 c3 c4 c5 c6 c7 hf tc0 tc1 tc2
     by_cases he:(Zat L t.kind t.text.length).err=0
     ·rw [he] at d7
      have He:=Zaa he
      clear he
      go_wp2_with fail
      go_roundw
      case rel =>
       refine ⟨k+1,Zat L t.kind t.text.length,ov',by omega,by go_num,hbel1,Hlk.out,Zcc Hinv.out _ _,He.out,?_⟩
       rw [← Hlov.out,Hhere.out,if_neg Hn4.out,if_neg (by simp [He.out])]
      case measure=>simp [intOf]; omega
     ·have hne:(((Zat L t.kind t.text.length).err:Int) != 0)=true:=by rw [bne_iff_ne]; omega
      have He:=Zaa he
      clear he
      go_wp2_with fail
      go_quiet (fail)
      go_wp2_with fail
      go_ret2
      refine ⟨Zcg ?_ ?_,?_⟩
      ·rw [← Hlov.out,Hhere.out,if_neg Hn4.out,if_pos He.out]
      ·rw [← Hlov.out,Hhere.out,if_neg Hn4.out,if_pos He.out]
      ·exact hbel1.trans ⟨rfl,rfl,rfl,Qe _,fun _ _=>rfl⟩
   ·rw [hw] at c0
    have Hw:=Zaa hw
    clear hw
    by_cases k4:t.kind=4
    ·have Hn4:Hid (¬ (t.kind=4∧(L.want=5∨L.want=0))):=by rw [Hw.out]; intro h; omega
     have k4':((t.kind:Int) == 4)=true:=by rw [beq_iff_eq]; omega
     clear k4
     go_wp2_with fail
     refine (Zds _ w.heap.size w.heap.size L ov t.kind _ ⟨t.text.toArray⟩ ?_ (Qe _) (Hinv.out.mono (by omega))).mono ?_
     ·exact Hlook.out.later (S:=Zbf) ((Qx _ _).alloc _) (fun h=>h) (fun _ _ h=>h)
     rintro e w1 ⟨rfl,ov',hkp,hlk⟩
     have hbel1:=Zcd hbel Hlook.out _ hkp
     have hbox2:w1.cell? ⟨wr.heap.size,2,none⟩=some (.int .i64 t.pos):=Zcr Hlook.out _ _ hkp 2 _ rfl
     have hstep:Zaj L t.kind=Zat L t.kind t.text.length:=by simp [Zat,Hw.out,ByteArray.size]
     rw [hstep] at hlk
     have Hlk:=Zaa hlk
     have d7:=hlk.facts.2.1.2.2.2.2.2.2.2
     have hb1:=hlk.facts.1
     have df:=hlk.facts.2.2
     have Hst:=Zaa hstep
     have Hkp:=Zaa hkp
     clear hstep hkp hlk c0 c1 c2 c3 c4 c5 c6 c7 hf tc0 tc1 tc2
     by_cases he:(Zat L t.kind t.text.length).err=0
     ·rw [he] at d7
      have He:=Zaa he
      clear he
      go_wp2_with fail
      go_roundw
      case rel =>
       refine ⟨k+1,Zat L t.kind t.text.length,ov',by omega,by go_num,hbel1,Hlk.out,Zcc Hinv.out _ _,He.out,?_⟩
       rw [← Hlov.out,Hhere.out,if_neg Hn4.out,if_neg (by simp [He.out])]
      case measure=>simp [intOf]; omega
     ·have hne:(((Zat L t.kind t.text.length).err:Int) != 0)=true:=by rw [bne_iff_ne]; omega
      have He:=Zaa he
      clear he
      go_wp2_with fail
      go_quiet (fail)
      go_wp2_with fail
      go_ret2
      refine ⟨Zcg ?_ ?_,?_⟩
      ·rw [← Hlov.out,Hhere.out,if_neg Hn4.out,if_pos He.out]
      ·rw [← Hlov.out,Hhere.out,if_neg Hn4.out,if_pos He.out]
      ·exact hbel1.trans ⟨rfl,rfl,rfl,Qe _,fun _ _=>rfl⟩
    ·have Hn4:Hid (¬ (t.kind=4∧(L.want=5∨L.want=0))):=by rw [Hw.out]; intro h; omega
     have k4':((t.kind:Int) == 4)=false:=by rw [Qu]; omega
     clear k4
     go_wp2_with fail
     refine (Zds _ w.heap.size w.heap.size L ov t.kind _ ⟨t.text.toArray⟩ ?_ (Qe _) (Hinv.out.mono (by omega))).mono ?_
     ·exact Hlook.out.later (S:=Zbf) ((Qx _ _).alloc _) (fun h=>h) (fun _ _ h=>h)
     rintro e w1 ⟨rfl,ov',hkp,hlk⟩
     have hbel1:=Zcd hbel Hlook.out _ hkp
     have hbox2:w1.cell? ⟨wr.heap.size,2,none⟩=some (.int .i64 t.pos):=Zcr Hlook.out _ _ hkp 2 _ rfl
     have hstep:Zaj L t.kind=Zat L t.kind t.text.length:=by simp [Zat,Hw.out,ByteArray.size]
     rw [hstep] at hlk
     have Hlk:=Zaa hlk
     have d7:=hlk.facts.2.1.2.2.2.2.2.2.2
     have hb1:=hlk.facts.1
     have df:=hlk.facts.2.2
     have Hst:=Zaa hstep
     have Hkp:=Zaa hkp
     clear hstep hkp hlk c0 c1 c2 c3 c4 c5 c6 c7 hf tc0 tc1 tc2
     by_cases he:(Zat L t.kind t.text.length).err=0
     ·rw [he] at d7
      have He:=Zaa he
      clear he
      go_wp2_with fail
      go_roundw
      case rel =>
       refine ⟨k+1,Zat L t.kind t.text.length,ov',by omega,by go_num,hbel1,Hlk.out,Zcc Hinv.out _ _,He.out,?_⟩
       rw [← Hlov.out,Hhere.out,if_neg Hn4.out,if_neg (by simp [He.out])]
      case measure=>simp [intOf]; omega
     ·have hne:(((Zat L t.kind t.text.length).err:Int) != 0)=true:=by rw [bne_iff_ne]; omega
      have He:=Zaa he
      clear he
      go_wp2_with fail
      go_quiet (fail)
      go_wp2_with fail
      go_ret2
      refine ⟨Zcg ?_ ?_,?_⟩
      ·rw [← Hlov.out,Hhere.out,if_neg Hn4.out,if_pos He.out]
      ·rw [← Hlov.out,Hhere.out,if_neg Hn4.out,if_pos He.out]
      ·exact hbel1.trans ⟨rfl,rfl,rfl,Qe _,fun _ _=>rfl⟩
   ·rw [hw] at c0
    have Hw:=Zaa hw
    clear hw
    by_cases k4:t.kind=4
    ·have Hh:=Zaa (Hhere.out.trans (if_pos ⟨k4,by rw [Hw.out]; omega⟩))
     have k4':((t.kind:Int) == 4)=true:=by rw [beq_iff_eq]; omega
     clear k4
     go_wp2
     go_ret2
     refine ⟨Zcg ?_ ?_,?_⟩
     ·rw [← Hlov.out,Hh.out]; rfl
     ·rw [← Hlov.out,Hh.out]; rfl
     ·exact hbel.alloc hbel.size _
    ·have Hn4:Hid (¬ (t.kind=4∧(L.want=5∨L.want=0))):=by rw [Hw.out]; intro h; omega
     have k4':((t.kind:Int) == 4)=false:=by rw [Qu]; omega
     clear k4
     have He2:Hid ((Zat L t.kind t.text.length).err=2):=by show _=2; simp [Zat,Hw.out]
     go_wp2_with fail
     go_quiet (fail)
     go_wp2_with fail
     go_ret2
     refine ⟨Zcg ?_ ?_,?_⟩
     ·rw [← Hlov.out,Hhere.out,if_neg Hn4.out,if_pos (by rw [He2.out]; omega),He2.out]; rfl
     ·rw [← Hlov.out,Hhere.out,if_neg Hn4.out,if_pos (by rw [He2.out]; omega)]
     ·exact (((hbel.setCell (Qe _) _).alloc (by have:=hbel.size; simp; omega) _)).trans ⟨rfl,rfl,rfl,Qe _,fun _ _=>rfl⟩
  ·have Hend:Hid (Zcx (ts.drop k) L=(0,0)):=by show _=_; rw [List.drop_eq_nil_of_le (by omega)]; rfl
   go_wp2
   go_ret2
   refine ⟨Zcg ?_ ?_,hbel⟩
   ·rw [← Hlov.out,Hend.out]; rfl
   ·rw [← Hlov.out,Hend.out]; rfl
theorem Znx (f:Nat):∀ (l:List UInt8) (p:Nat),(lexF f l p).length≤l.length∧∀ t ∈ lexF f l p,t.text≠[]∧t.text.length≤l.length:=by
 induction f with
 | zero=>intro l p; exact ⟨by simp [lexF],fun t ht=>by simp [lexF] at ht⟩
 | succ f ih =>
  intro l p
  cases l with
  | nil=>exact ⟨by simp [lexF],fun t ht=>by simp [lexF] at ht⟩
  | cons c r =>
   rw [lexF]
   split
   ·have h:=ih r (p+1)
    exact ⟨by simp; omega,fun t ht=>⟨(h.2 t ht).1,by have:=(h.2 t ht).2; simp; omega⟩⟩
   ·have h:=ih (r.drop (Zbq c r).2) (p+(Zbq c r).2+1)
    simp only [List.length_drop] at h
    refine ⟨by simp; omega,fun t ht => ?_⟩
    simp only [Qp] at ht
    rcases ht with rfl | ht
    ·exact ⟨by simp,by simp; omega⟩
    ·exact ⟨(h.2 t ht).1,by have:=(h.2 t ht).2; simp; omega⟩
theorem Yde (l:List UInt8) (p:Nat):(toks l p).length≤l.length:=(Znx _ l p).1
theorem Zre (l:List UInt8) (p:Nat):∀ t ∈ toks l p,t.text≠[]∧t.text.length≤l.length:=(Znx _ l p).2
def Zav (s:ByteArray):List Tok:=toks s.data.toList 0++[⟨4,[],s.size⟩]
theorem Zdt (s:ByteArray):(Zav s).length≤s.size+1:=by
 have:=Yde s.data.toList 0
 simp [Zav] at this ⊢
 exact this
theorem Zek (s:ByteArray):∀ t ∈ Zav s,t.text.length≤s.size:=by
 intro t ht
 simp only [Zav,Qk,List.mem_singleton] at ht
 rcases ht with ht | rfl
 ·have:=(Zre _ _ t ht).2
  simpa using this
 ·simp
theorem Zhu (s:ByteArray):∀ i t,(Zav s)[i]?=some t→i+1<(Zav s).length→t.text≠[]:=by
 intro i t ht hi
 simp only [Zav,Qg,Qn] at hi
 rw [Zav,Qc (by omega)] at ht
 exact (Zre _ _ t (Qh ht)).1
theorem Zih (s:ByteArray) (w:World) (hs:s.size≤800) :
  Calls Tryz.prog 141 #[.string s] w fun e w'=>∃ v,e = .returned v∧Below w.heap.size w w'∧w'.ownsRow w.heap.size 243 3 v (Zav s).length (Zbc (Zav s)):=by
 refine (Zwm s w (by omega)).mono ?_
 rintro e w' ⟨v,h1,h2,h3⟩
 refine ⟨v,h1,h2,?_⟩
 simpa [Zav] using h3
theorem Zny (w:World) (Bt:Nat) (s:ByteArray) (v:Value) (hs:s.size≤800) (hts:w.ownsRow Bt 243 3 v (Zav s).length (Zbc (Zav s))) :
  Calls Tryz.prog 142 #[v,.bool true] w fun e w' =>
   e = .returned (.tuple #[.int .i64 (Zcx (Zav s) (Zbd true)).1,.int .i64 (Zcx (Zav s) (Zbd true)).2])∧Below w.heap.size w w' :=
 Zzo w Bt _ v hts (by have:=Zdt s; omega) (fun t ht=>by have:=Zek s t ht; omega)
theorem Zlb (w:World) (Bt:Nat) (s:ByteArray) (v:Value) (hs:s.size≤800) (hts:w.ownsRow Bt 243 3 v (Zav s).length (Zbc (Zav s))) :
  Calls Tryz.prog 142 #[v,.bool false] w fun e w' =>
   e = .returned (.tuple #[.int .i64 (Zcx (Zav s) (Zbd false)).1,.int .i64 (Zcx (Zav s) (Zbd false)).2])∧Below w.heap.size w w' :=
 Zwt w Bt _ v hts (by have:=Zdt s; omega) (fun t ht=>by have:=Zek s t ht; omega)
theorem Znz {B:Nat} {w w':World} (h:Below B w w') {base:Nat} {e:TypeId} {size:Nat} {v:Value} {n:Nat} {xs:List Value} (ho:w.ownsRow base e size v n xs) (hB:w.heap.size≤B):w'.ownsRow base e size v n xs :=
 Zak ho (fun k hk=>h.block k (Nat.lt_of_lt_of_le (ho.lt k hk).2 hB))
theorem Znj (s:ByteArray) (w:World) (hm:s.size≤maxLen) (hs:120<s.size) :
  Calls Tryz.prog 110 #[.string s] w fun e w'=>e = .returned (.tuple #[.agg #[.slice none 0 0,.slice none 0 0],.int .i64 1,.int .i64 0])∧Below w.heap.size w w':=by
 unfold maxLen at hm
 go_enter Tryz.func110,Tryz.ntmps110
 go_wp2
 exact bodyPost_ret (v := .tuple #[.agg #[.slice none 0 0,.slice none 0 0],.int .i64 1,.int .i64 0]) (by simp [results,Tryz.results110,go_sem]) rfl ⟨rfl,(Below.refl _ _).alloc (Qe _) _⟩
theorem Zpi (s:ByteArray) (w:World) (hs:s.size≤120) (he:(Zcx (Zav s) (Zbd true)).1≠0) :
  Calls Tryz.prog 110 #[.string s] w fun e w'=>e = .returned (.tuple #[.agg #[.slice none 0 0,.slice none 0 0],.int .i64 (Zcx (Zav s) (Zbd true)).1,.int .i64 (Zcx (Zav s) (Zbd true)).2])∧Below w.heap.size w w':=by
 have he':(((Zcx (Zav s) (Zbd true)).1:Int) != 0)=true:=by rw [bne_iff_ne]; omega
 go_enter Tryz.func110,Tryz.ntmps110
 go_wp2_with fail
 refine (Zih s _ (by omega)).mono ?_
 rintro e w1 ⟨v,rfl,hb1,hts⟩
 have Hts:=Zaa hts
 have Hb1:=Zaa hb1
 clear hts hb1
 go_wp2_with fail
 refine (Zny w1 _ s v (by omega) Hts.out).mono ?_
 rintro e w2 ⟨rfl,hb2⟩
 have hsz1:w.heap.size+1≤w1.heap.size:=by have:=Hb1.out.size; simpa using this
 have hsz2:=hb2.size
 have hblk:w2.heap[w.heap.size]?=some (.cells #[.slice none 0 0,.slice none 0 0] 148 (0,0)) :=
  (hb2.block w.heap.size (by omega)).trans ((Hb1.out.block w.heap.size (by simp)).trans (heap_alloc_new w _))
 have z0:w2.cell? ⟨w.heap.size,0,none⟩=some (.slice none 0 0):=Zab hblk 0 _ rfl
 have z1:w2.cell? ⟨w.heap.size,1,none⟩=some (.slice none 0 0):=Zab hblk 1 _ rfl
 have zf:=fun i=>Zae hblk i
 have Hb2:=Zaa hb2
 clear hblk hb2
 go_wp2
 refine bodyPost_ret (v := .tuple #[.agg #[.slice none 0 0,.slice none 0 0],.int .i64 (Zcx (Zav s) (Zbd true)).1,.int .i64 (Zcx (Zav s) (Zbd true)).2]) (by simp [results,Tryz.results110,go_sem,z0,z1,zf]) rfl ⟨rfl,?_⟩
 refine Below.setCell (Below.setCell ?_ (p:=⟨w.heap.size,0,none⟩) (Qe _) _) (p:=⟨w.heap.size,1,none⟩) (Qe _) _
 exact (((Below.refl _ w).alloc (Qe _) _).trans (Hb1.out.mono (by simp))).trans (Hb2.out.mono (by omega))
theorem Zrf (s:ByteArray) (w:World) (q:List (List Sym) × List Tok × Names) (hs:s.size≤120) (he:(Zcx (Zav s) (Zbd true)).1=0) (hq:Zdc 1000 1000 (Zav s) [] []=some q) :
  Calls Tryz.prog 110 #[.string s] w fun e w'=>∃ lv nv lo xs,e = .returned (.tuple #[.agg #[lv,nv],.int .i64 0,.int .i64 0])∧w.heap.size<lo∧lo≤w'.heap.size∧Kids 1000 w' lo lv q.1 xs ∧
   w'.ownsRow lo 9 1 nv q.2.2.length (strs q.2.2)∧Below w.heap.size w w':=by
 have he':(((Zcx (Zav s) (Zbd true)).1:Int) != 0)=false:=by rw [he]; rfl
 have hal:=Zdt s
 go_enter Tryz.func110,Tryz.ntmps110
 go_wp2_with fail
 refine (Zih s _ (by omega)).mono ?_
 rintro e w1 ⟨v,rfl,hb1,hts⟩
 have Hts:=Zaa hts
 have Hb1:=Zaa hb1
 clear hts hb1
 go_wp2_with fail
 refine (Zny w1 _ s v (by omega) Hts.out).mono ?_
 rintro e w2 ⟨rfl,hb2⟩
 have hsz1:w.heap.size+1≤w1.heap.size:=by have:=Hb1.out.size; simpa using this
 have hsz2:=hb2.size
 have Hts2:=Zaa (Znz hb2 Hts.out (Qe _))
 have Hblk:Hid (w2.heap[w.heap.size]?=some (.cells #[.slice none 0 0,.slice none 0 0] 148 (0,0))) :=
  (hb2.block w.heap.size (by omega)).trans ((Hb1.out.block w.heap.size (by simp)).trans (heap_alloc_new w _))
 have Hb2:=Zaa hb2
 clear hb2
 go_wp2_with fail
 refine (Zrd 1000 1000 w2 (Zav s) 0 v _ w2.heap.size [] (.slice none 0 0) q hq Hts2.out (World.ownsRow_nil _ _ _ _) (Qe _) (by omega) (by simp; omega) (fun t ht=>by have:=Zek s t ht; omega) (Zhu s)).mono ?_
 rintro e w3 ⟨lv,nv,j,xs,rfl,hrest,hj1,hj2,hkids,hap⟩
 obtain ⟨la,lcap,rfl⟩:=Zad hkids.owns
 obtain ⟨na,ncap,rfl⟩:=Zad hap.owns
 have hsz3:=hap.kept.size
 have hblk3:=(hap.kept.block w.heap.size (by omega) (fun h=>by simp [Zap,Value.ownBlock] at h)).trans Hblk.out
 have z0:w3.cell? ⟨w.heap.size,0,none⟩=some (.slice none 0 0):=Zab hblk3 0 _ rfl
 have z1:w3.cell? ⟨w.heap.size,1,none⟩=some (.slice none 0 0):=Zab hblk3 1 _ rfl
 have zf:=fun i=>Zae hblk3 i
 have Hkids:=Zaa hkids
 have Hap:=Zaa hap
 clear hblk3 hkids hap hrest
 go_wp2
 refine bodyPost_ret (v := .tuple #[.agg #[.slice la q.1.length lcap,.slice na q.2.2.length ncap],.int .i64 0,.int .i64 0]) (by simp [results,Tryz.results110,go_sem,z0,z1,zf]) rfl ?_
 have hk5:=((Qx (only w.heap.size) w3).put 0 (.slice la q.1.length lcap)).put 1 (.slice na q.2.2.length ncap)
 have hs5:=hk5.size
 have hb3:Below w2.heap.size w2 w3:=Hap.out.kept.below (Qe _) (fun k h=>by simp [Zap,Value.ownBlock] at h)
 refine ⟨_,_,w2.heap.size,xs,rfl,by omega,by omega,?_,?_,?_⟩
 ·refine ⟨hk5.owns Hkids.out.owns (fun k hk e => ?_),fun i l' hl => ?_⟩
  ·have e:k=w.heap.size:=e
   have:=(Hkids.out.owns.lt k hk).1
   omega
  ·obtain ⟨a',b',c',l1,h1,y1,y2,y3,g1,g2,g3,g4⟩:=Hkids.out.all i l' hl
   refine ⟨a',b',c',l1,h1,y1,y2,y3,g1,by omega,g3,RepT.later 1000 g4 (fun k hk1 hk2 _=>hk5.block k (by omega) (fun e => ?_))⟩
   have e:k=w.heap.size:=e
   omega
 ·refine hk5.owns Hap.out.owns (fun k hk e => ?_)
  have e:k=w.heap.size:=e
  have:=(Hap.out.owns.lt k hk).1
  omega
 ·refine Below.setCell (Below.setCell ?_ (p:=⟨w.heap.size,0,none⟩) (Qe _) _) (p:=⟨w.heap.size,1,none⟩) (Qe _) _
  exact ((((Below.refl _ w).alloc (Qe _) _).trans (Hb1.out.mono (by simp))).trans (Hb2.out.mono (by omega))).trans (hb3.mono (by omega))
def Zrg:ByteArray:=⟨#[48,49,50,51,52,53,54,55,56,57]⟩
theorem Zwu (c:UInt8):inB c Zeb=decide (97≤c.toNat∧c.toNat≤122):=by
 have:=Zeg (p:=fun c=>inB c Zeb == decide (97≤c.toNat∧c.toNat≤122)) (by decide +kernel) c
 exact eq_of_beq this
theorem Zzp (c:UInt8):inB c Zfi=decide (65≤c.toNat∧c.toNat≤90):=by
 have:=Zeg (p:=fun c=>inB c Zfi == decide (65≤c.toNat∧c.toNat≤90)) (by decide +kernel) c
 exact eq_of_beq this
theorem Zwv (c:UInt8):inB c Zrg=decide (48≤c.toNat∧c.toNat≤57):=by
 have:=Zeg (p:=fun c=>inB c Zrg == decide (48≤c.toNat∧c.toNat≤57)) (by decide +kernel) c
 exact eq_of_beq this
theorem Zzq (c:UInt8):inB c Zhj=(inB c Zeb || inB c Zfi || inB c Zrg):=by
 have:=Zeg (p:=fun c=>inB c Zhj == (inB c Zeb || inB c Zfi || inB c Zrg)) (by decide +kernel) c
 exact eq_of_beq this
theorem Zly (c:UInt8) (w:World):Calls Tryz.prog 194 #[.int .u8 c.toNat] w fun e w'=>e = .returned (.bool (Zhk c))∧w'=w:=by
 cases hb:Zhk c
 ·obtain ⟨h1,h2⟩:=Zqt hb
  go_enter Tryz.func194,Tryz.ntmps194
  go_wp2
  go_ret
  exact ⟨rfl,rfl⟩
 ·rcases Zlv hb with h1 | ⟨h1,h2⟩
  all_goals
   go_enter Tryz.func194,Tryz.ntmps194
   go_wp2
   go_ret
   exact ⟨rfl,rfl⟩
theorem Zcj (c:UInt8) (w:World):Calls Tryz.prog 195 #[.int .u8 c.toNat] w fun e w'=>e = .returned (.bool (inB c Zeb))∧w'=w:=by
 rw [Zwu]
 by_cases h1:(97:Int)≤(c.toNat:Int)
 ·by_cases h2:(c.toNat:Int)≤122
  all_goals
   go_enter Tryz.func195,Tryz.ntmps195
   go_wp2
   go_ret
   exact ⟨Zem (by symm; simp; omega),rfl⟩
 ·go_enter Tryz.func195,Tryz.ntmps195
  go_wp2
  go_ret
  exact ⟨Zem (by symm; simp; omega),rfl⟩
theorem Zbt (c:UInt8) (w:World):Calls Tryz.prog 196 #[.int .u8 c.toNat] w fun e w'=>e = .returned (.bool (inB c Zfi))∧w'=w:=by
 rw [Zzp]
 by_cases h1:(65:Int)≤(c.toNat:Int)
 ·by_cases h2:(c.toNat:Int)≤90
  all_goals
   go_enter Tryz.func196,Tryz.ntmps196
   go_wp2
   go_ret
   exact ⟨Zem (by symm; simp; omega),rfl⟩
 ·go_enter Tryz.func196,Tryz.ntmps196
  go_wp2
  go_ret
  exact ⟨Zem (by symm; simp; omega),rfl⟩
theorem Zix (c:UInt8) (w:World):Calls Tryz.prog 213 #[.int .u8 c.toNat] w fun e w'=>e = .returned (.bool (inB c Zrg))∧w'=w:=by
 rw [Zwv]
 by_cases h1:(48:Int)≤(c.toNat:Int)
 ·by_cases h2:(c.toNat:Int)≤57
  all_goals
   go_enter Tryz.func213,Tryz.ntmps213
   go_wp2
   go_ret
   exact ⟨Zem (by symm; simp; omega),rfl⟩
 ·go_enter Tryz.func213,Tryz.ntmps213
  go_wp2
  go_ret
  exact ⟨Zem (by symm; simp; omega),rfl⟩
theorem Zoa (c:UInt8) (w:World):Calls Tryz.prog 209 #[.int .u8 c.toNat] w fun e w'=>e = .returned (.bool (inB c Zhj))∧w'=w:=by
 rw [Zzq]
 cases h1:inB c Zeb
 ·cases h2:inB c Zfi
  ·go_enter Tryz.func209,Tryz.ntmps209
   go_wp2_with (first | (go_at_call 195; refine (Zcj _ _).mono ?_; rintro e w' ⟨rfl,rfl⟩) | (go_at_call 196; refine (Zbt _ _).mono ?_; rintro e w' ⟨rfl,rfl⟩) | (go_at_call 213; refine (Zix _ _).mono ?_; rintro e w' ⟨rfl,rfl⟩))
   go_ret
   exact ⟨rfl,rfl⟩
  ·go_enter Tryz.func209,Tryz.ntmps209
   go_wp2_with (first | (go_at_call 195; refine (Zcj _ _).mono ?_; rintro e w' ⟨rfl,rfl⟩) | (go_at_call 196; refine (Zbt _ _).mono ?_; rintro e w' ⟨rfl,rfl⟩) | (go_at_call 213; refine (Zix _ _).mono ?_; rintro e w' ⟨rfl,rfl⟩))
   go_ret
   exact ⟨rfl,rfl⟩
 ·go_enter Tryz.func209,Tryz.ntmps209
  go_wp2_with (first | (go_at_call 195; refine (Zcj _ _).mono ?_; rintro e w' ⟨rfl,rfl⟩) | (go_at_call 196; refine (Zbt _ _).mono ?_; rintro e w' ⟨rfl,rfl⟩) | (go_at_call 213; refine (Zix _ _).mono ?_; rintro e w' ⟨rfl,rfl⟩))
  go_ret
  exact ⟨rfl,rfl⟩
def Zdw (s:ByteArray) (n:Nat):UInt8:=(s.data.toList[n]?).getD 0
theorem Zlz (s:ByteArray) (n:Nat) (h:n<s.size):Zdw s n=s[n]:=by
 unfold Zdw
 rw [Qb (by simpa using h)]
 rfl
theorem Zma (s:ByteArray) (n:Nat) (h:¬ n<s.size):Zdw s n=0:=by
 unfold Zdw
 rw [List.getElem?_eq_none (by simp; omega)]
 rfl
theorem Zii (s:ByteArray) (n:Nat) (w:World) (hs:s.size≤4096) (hn:n≤5000):Calls Tryz.prog 163 #[.string s,.int .i64 n] w fun e w'=>e = .returned (.int .u8 (Zdw s n).toNat)∧w'=w:=by
 by_cases h:n<s.size
 ·have Hb:=(show Hid _ from Zlz s n h)
  go_enter Tryz.func163,Tryz.ntmps163
  go_wp2
  go_ret
  rw [Hb.out]
  exact ⟨rfl,rfl⟩
 ·have Hb:=(show Hid _ from Zma s n h)
  go_enter Tryz.func163,Tryz.ntmps163
  go_wp2
  go_ret
  rw [Hb.out]
  exact ⟨rfl,rfl⟩
def Zcz:List UInt8→Nat
 | []=>0
 | c::r=>if Zhk c then Zcz r+1 else 0
theorem Zzr (l:List UInt8):Zcz l≤l.length:=by
 induction l with
 | nil=>exact Qe _
 | cons c r ih=>unfold Zcz; split <;> simp <;> omega
theorem Ziq (s:ByteArray) (n:Nat) (w:World) (hs:s.size≤4096) (hn:n≤s.size):Calls Tryz.prog 162 #[.string s,.int .i64 n] w fun e w'=>e = .returned (.int .i64 ((n+Zcz (s.data.toList.drop n):Nat):Int))∧w'=w:=by
 go_enter Tryz.func162,Tryz.ntmps162
 go_wp2
 go_loop [1] (fun i=>∃ k:Nat,k≤s.size∧i = .int .i64 k∧n+Zcz (s.data.toList.drop n)=k+Zcz (s.data.toList.drop k)) (fun i=>s.size - (intOf i).toNat)
 case atStart=>exact ⟨n,hn,rfl,rfl⟩
 case round =>
  obtain ⟨k,hk,rfl,hn⟩:=hrel
  have Hn:=(show Hid _ from hn)
  clear hn
  by_cases hlt:k<s.size
  ·have hd:=Zcu s k hlt
   cases hb:Zhk s[k]
   ·have Hd:Hid (Zcz (s.data.toList.drop k)=0):=by show _=_; rw [hd,Zcz,if_neg (by simp [hb])]
    clear hd
    go_wp2_with (go_at_call 194; refine (Zly _ _).mono ?_; rintro e w' ⟨rfl,rfl⟩)
    go_ret
    exact ⟨Zhp (by have h1:=Hn.out; have h2:=Hd.out; omega),rfl⟩
   ·have Hd:Hid (Zcz (s.data.toList.drop k)=Zcz (s.data.toList.drop (k+1))+1):=by show _=_; rw [hd,Zcz,if_pos hb]
    clear hd
    go_wp2_with (go_at_call 194; refine (Zly _ _).mono ?_; rintro e w' ⟨rfl,rfl⟩)
    go_round
    case rel=>exact ⟨k+1,by omega,by go_num,by have h1:=Hn.out; have h2:=Hd.out; omega⟩
    case measure=>simp [intOf]; omega
  ·have Hd:Hid (Zcz (s.data.toList.drop k)=0):=by show _=_; rw [Zfp s k hlt]; rfl
   go_wp2
   go_ret
   exact ⟨Zhp (by have h1:=Hn.out; have h2:=Hd.out; omega),rfl⟩
theorem Zww:inB 0 Zhj=false:=by decide +kernel
theorem Zjs (s:ByteArray) (n:Nat) (w:World) (hs:s.size≤4096) (hn:n≤s.size):Calls Tryz.prog 197 #[.string s,.int .i64 n] w fun e w'=>e = .returned (.int .i64 ((n+Zbi (s.data.toList.drop n):Nat):Int))∧w'=w:=by
 go_enter Tryz.func197,Tryz.ntmps197
 go_wp2
 go_loop [1] (fun i=>∃ k:Nat,k≤s.size∧i = .int .i64 k∧n+Zbi (s.data.toList.drop n)=k+Zbi (s.data.toList.drop k)) (fun i=>s.size - (intOf i).toNat)
 case atStart=>exact ⟨n,hn,rfl,rfl⟩
 case round =>
  obtain ⟨k,hk,rfl,hn⟩:=hrel
  have Hn:=(show Hid _ from hn)
  clear hn
  cases hb:inB (Zdw s k) Zhj
  ·have Hd:Hid (Zbi (s.data.toList.drop k)=0):=by
    show _=_
    by_cases hlt:k<s.size
    ·rw [Zcu s k hlt]
     rw [Zlz s k hlt] at hb
     exact Znr _ _ hb
    ·rw [Zfp s k hlt]; rfl
   go_wp2_with (first | (go_at_call 163; refine (Zii _ _ _ hs (by omega)).mono ?_; rintro e w' ⟨rfl,rfl⟩) | (go_at_call 209; refine (Zoa _ _).mono ?_; rintro e w' ⟨rfl,rfl⟩))
   go_ret
   exact ⟨Zhp (by have h1:=Hn.out; have h2:=Hd.out; omega),rfl⟩
  ·have hlt:k<s.size:=by
    rcases Nat.lt_or_ge k s.size with h | h
    ·exact h
    ·rw [Zma s k (by omega),Zww] at hb; cases hb
   have Hd:Hid (Zbi (s.data.toList.drop k)=Zbi (s.data.toList.drop (k+1))+1):=by
    show _=_
    rw [Zcu s k hlt]
    rw [Zlz s k hlt] at hb
    exact Zet _ _ hb
   go_wp2_with (first | (go_at_call 163; refine (Zii _ _ _ hs (by omega)).mono ?_; rintro e w' ⟨rfl,rfl⟩) | (go_at_call 209; refine (Zoa _ _).mono ?_; rintro e w' ⟨rfl,rfl⟩))
   go_round
   case rel=>exact ⟨k+1,by omega,by go_num,by have h1:=Hn.out; have h2:=Hd.out; omega⟩
   case measure=>simp [intOf]; omega
end Go.Proofs.YtlmjilpjmgjjcaaGreatDoor
