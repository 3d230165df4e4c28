/-
  PROVED HERE: plain facts: of rules without functors each case of an answer holds in a model that is closed under them (no program, no memory; the conditions stand in each statement).
-/
import Derived.Test.YtlmjilpjmgjjcaaGreatDoorT10
set_option linter.unusedSimpArgs false
set_option linter.unusedVariables false
set_option maxRecDepth 10000
set_option maxHeartbeats 4000000
namespace Go.Proofs.YtlmjilpjmgjjcaaGreatDoor
open Go.RowKit
noncomputable def sweN (m:SN):Nat:=open Classical in if m.way=[] then 2 else if 3000≤m.tries then 3 else 0
theorem Ynd (w:World) (b:Nat) (x:CX) (cs:List Cls) (a:List (List Sym) × Names) (m:SN) (h:CSr w b x cs a m) :
  Calls Tryz.prog 77 #[.pointer (some ⟨b,0,none⟩)] w fun e w'=>e = .returned (.int .i64 (sweN m))∧w'=w:=by
 have hbx:=h.box
 obtain ⟨ca,cc,na,nc,wa,wc,va,vl,vc,fa,fl,fc⟩:=x
 simp only [CX.cells] at hbx
 obtain ⟨b0,b1,b2,b3,b4,b5,b6,b7,bf⟩:=box8 hbx
 obtain ⟨z,hz⟩:∃ z,z=m.way.length:=⟨_,rfl⟩
 obtain ⟨tr,htr⟩:∃ z,z=m.tries:=⟨_,rfl⟩
 rw [← hz] at b2
 rw [← htr] at b3
 have hbl:=Zab hbx
 by_cases hz0:z=0
 ·have hs:sweN m=2:=by unfold sweN; rw [if_pos (List.eq_nil_of_length_eq_zero (by omega))]
  rw [hs]
  subst hz0
  clear h hbx hz htr hs
  go_enter Tryz.func77,Tryz.ntmps77
  go_wp2
  go_ret
  exact ⟨rfl,rfl⟩
 ·have hw:m.way≠[]:=fun e=>hz0 (by rw [hz,e]; rfl)
  have hz1:((z:Int) == 0)=false:=by rw [Qu]; omega
  by_cases ht:3000≤tr
  ·have hs:sweN m=3:=by unfold sweN; rw [if_neg hw,if_pos (by omega)]
   have ht':(3000:Int)≤(tr:Int):=by omega
   rw [hs]
   clear h hbx hz htr hs hw ht hz0
   go_enter Tryz.func77,Tryz.ntmps77
   go_wp2
   go_ret
   exact ⟨rfl,rfl⟩
  ·have hs:sweN m=0:=by unfold sweN; rw [if_neg hw,if_neg (by omega)]
   have ht':¬ (3000:Int)≤(tr:Int):=by omega
   rw [hs]
   clear h hbx hz htr hs hw ht hz0
   go_enter Tryz.func77,Tryz.ntmps77
   go_wp2
   go_ret
   exact ⟨rfl,rfl⟩
theorem CSr.full {w w':World} {b:Nat} {x:CX} {cs:List Cls} {a:List (List Sym) × Names} {m:SN} (h:CSr w b x cs a m) (hk:Kept (only b) w w') (hb:w'.heap[b]?=some (.cells #[.slice x.ca cs.length x.cc,.slice x.na a.2.length x.nc,.slice none 0 0,.int .i64 m.tries,.int .i64 3,.slice x.va x.vl x.vc,.slice x.fa x.fl x.fc,.string ⟨#[]⟩] 112 (0,0))):CSr w' b { x with wa:=none,wc:=0 } cs a (Zht m) :=
 h.upd hk hb ⟨rfl,rfl,rfl,rfl⟩ ⟨[],RowL.nil _⟩ (fun h=>by simp [Zht] at h)
theorem CSr.stat {w w':World} {b:Nat} {x:CX} {cs:List Cls} {a:List (List Sym) × Names} {m:SN} (h:CSr w b x cs a m) (st:Nat) (hst:st≠1) (hk:Kept (only b) w w') (hb:w'.heap[b]?=some (.cells (x.cells cs.length a.2.length m.way.length m.tries st m.tree) 112 (0,0))):CSr w' b x cs a { m with status:=st } :=
 h.upd hk hb ⟨rfl,rfl,rfl,rfl⟩ h.way (fun h=>absurd h hst)
theorem Ybq {m:SN} (h:m.status=0):m = { m with status:=0 }:=by
 obtain ⟨p1,p2,p3,p4,p5⟩:=m
 simp only at h
 subst h
 rfl
theorem Ygh {w:World} {b:Nat} {x x':CX} (h:Zhk w x x') {i:Nat} (hi:i<w.heap.size) (ho:ownS b x' i):ownS b x i:=by
 rcases ho with rfl | ho
 ·exact Or.inl rfl
 ·rcases h.1 i ho with h | h
  ·exact Or.inr h
  ·omega
set_option maxRecDepth 20000 in
theorem Yju (w:World) (b:Nat) (x:CX) (cs:List Cls) (a:List (List Sym) × Names) (m:SN) (n:Nat) (h:CSr w b x cs a m) (hI:InvN cs a m) (hcs:∀ c ∈ cs,COk c∧CNm c) (hcf:∀ c ∈ cs,CFew c) (hcl:cs.length≤24) (hn:n≤3000) (hm:m.status≠2∧m.status≠3) :
  Calls Tryz.prog 54 #[.pointer (some ⟨b,0,none⟩),.int .i64 n] w fun e w'=>e = .returned (.tuple #[.int .i64 (Zcz cs n m).2,.int .i64 0])∧∃ x',Kept (ownS b x) w w'∧CSr w' b x' cs a (Zcz cs n m).1∧Zhk w x x':=by
 obtain ⟨st0,hst0⟩:∃ z,z=m.status:=⟨_,rfl⟩
 have hm2:((st0:Int) == 2)=false:=by rw [Qu]; omega
 have hm3:((st0:Int) == 3)=false:=by rw [Qu]; omega
 have hbx:=h.box
 obtain ⟨ca,cc,na,nc,wa,wc,va,vl,vc,fa,fl,fc⟩:=x
 simp only [CX.cells] at hbx
 rw [← hst0] at hbx
 obtain ⟨b0,b1,b2,b3,b4,b5,b6,b7,bf⟩:=box8 hbx
 have hbl:=Zab hbx
 obtain ⟨W0,hW0⟩:∃ W0,W0=((w.setCell ⟨b,4,none⟩ (.int .i64 0)).setCell ⟨b,5,none⟩ (.slice none 0 0)).setCell ⟨b,6,none⟩ (.slice none 0 0):=⟨_,rfl⟩
 have hK0:Kept (only b) w W0:=by rw [hW0]; exact (((Qx _ _).put 4 _).put 5 _).put 6 _
 have hC0:CSr W0 b ⟨ca,cc,na,nc,wa,wc,none,0,0,none,0,0⟩ cs a { m with status:=0 }:=h.upd hK0 (by rw [hW0]; exact Zaf (Zaf (Zaf hbx 4 _) 5 _) 6 _) ⟨rfl,rfl,rfl,rfl⟩ h.way (fun h=>by simp at h)
 have HK0:=Zac (hK0.mono (S':=ownS b ⟨ca,cc,na,nc,wa,wc,va,vl,vc,fa,fl,fc⟩) (fun i _ e=>Or.inl e))
 have HC0:=Zac hC0
 have HI0:=Zac (hI.seek hm.2)
 have HW0:=Zac hW0
 have Hcs:=Zac hcs
 have Hcf:=Zac hcf
 have Hm:=Zac hm
 clear h hI hcs hcf hm hbx hK0 hC0 hW0 hst0
 go_enter Tryz.func54,Tryz.ntmps54
 go_wp2
 rw [← HW0.out]
 go_loopg [6] (n+1) (fun gk mv wr=>∃ (j:Nat) (x':CX) (m':SN),mv = .int .i64 j∧j≤n∧n - j<gk∧Kept (ownS b ⟨ca,cc,na,nc,wa,wc,va,vl,vc,fa,fl,fc⟩) w wr∧CSr wr b x' cs a m'∧Zhk w ⟨ca,cc,na,nc,wa,wc,va,vl,vc,fa,fl,fc⟩ x'∧InvN cs a m'∧Zca cs n { m with status:=0 }=((Zca cs (n - j) m').1,(Zca cs (n - j) m').2+j)∧m'.status≠2)
 case atStart=>exact ⟨0,_,{ m with status:=0 },by go_num,by omega,by omega,HK0.out,HC0.out,⟨fun k hk=>Or.inl hk,rfl,rfl,rfl,rfl⟩,HI0.out,by simp,by simp⟩
 case round =>
  clear b0 b1 b2 b3 b4 b5 b6 b7 bf HK0 HC0 HI0 HW0
  obtain ⟨j,⟨ca1,cc1,na1,nc1,wa1,wc1,va1,vl1,vc1,fa1,fl1,fc1⟩,m',rfl,hjn,hgk,hK,hC,hN,hI,hloop,hst2⟩:=hrel
  obtain ⟨st,hst⟩:∃ z,z=m'.status:=⟨_,rfl⟩
  obtain ⟨tr,htr⟩:∃ z,z=m'.tries:=⟨_,rfl⟩
  obtain ⟨zl,hzl⟩:∃ z,z=m'.way.length:=⟨_,rfl⟩
  have hst3:=hI.st
  have hT:=hI.tries
  have hbx:=hC.box
  simp only [CX.cells] at hbx
  rw [← hst,← htr,← hzl] at hbx
  obtain ⟨b0,b1,b2,b3,b4,b5,b6,b7,bf⟩:=box8 hbx
  have hbl1:=Zab hbx
  have Hm':Hid (st=m'.status∧tr=m'.tries∧zl=m'.way.length):=⟨hst,htr,hzl⟩
  have hstv:st=0∨st=1∨st=3:=by omega
  have hzlb:zl≤100000:=by have:=hI.len; omega
  have HK:=Zac hK
  have HC:=Zac hC
  have HN:=Zac hN
  have HI:=Zac hI
  have Hloop:=Zac hloop
  have Hbx:=Zac hbx
  have Hend:Hid (Zca cs (n - j) m'=(m',0)→∀ w',(∃ x',Kept (only b) wr w'∧CSr w' b x' cs a (endN m')∧(x'.wa=wa1∨x'.wa=none)∧x'.ca=ca1∧x'.cc=cc1∧x'.na=na1∧x'.nc=nc1)→(Ending.returned (.tuple #[.int .i64 j,.int .i64 0])) = .returned (.tuple #[.int .i64 (Zcz cs n m).2,.int .i64 0])∧∃ x',Kept (ownS b ⟨ca,cc,na,nc,wa,wc,va,vl,vc,fa,fl,fc⟩) w w'∧CSr w' b x' cs a (Zcz cs n m).1∧Zhk w ⟨ca,cc,na,nc,wa,wc,va,vl,vc,fa,fl,fc⟩ x'):=fun hl w' ⟨x',h1,h2,h3,h4,h5,h6,h7⟩=>by
   rw [Yjt (n:=n) (j:=j) Hm.out hloop hl]
   refine ⟨rfl,x',hK.trans (h1.mono (fun i _ e=>Or.inl e)),h2,⟨fun k hk => ?_,h4.trans hN.2.1,h5.trans hN.2.2.1,h6.trans hN.2.2.2.1,h7.trans hN.2.2.2.2⟩⟩
   rcases h3 with h3 | h3
   ·rw [h3] at hk; exact hN.1 k hk
   ·rw [h3] at hk; obtain ⟨p,hp,_⟩:=hk; simp at hp
  clear hK hC hN hI hloop hbx hst htr hzl hst2 hst3 hT
  by_cases hs0:st=0
  ·subst hs0
   have HM0:Hid (m'.status=0):=Hm'.out.1.symm
   have HSw:=Zac (Ynd wr b ⟨ca1,cc1,na1,nc1,wa1,wc1,va1,vl1,vc1,fa1,fl1,fc1⟩ cs a m' HC.out)
   by_cases hlt:j<n
   ·by_cases hz0:zl=0
    ·have HW:Hid (m'.way=[]):=List.eq_nil_of_length_eq_zero (by rw [← Hm'.out.2.2]; exact hz0)
     subst hz0
     have hl0:=Zfv (cs:=cs) (n:=n - j) (s:=m') (Or.inr (Or.inr (Or.inl HW.out)))
     have hsw:sweN m'=2:=by unfold sweN; rw [if_pos HW.out]
     rw [hsw] at HSw
     have hK5:Kept (only b) wr (wr.setCell ⟨b,4,none⟩ (.int .i64 2)):=(Qx _ _).put 4 _
     have Hfin:Hid (_∧_):=Hend.out hl0 _ ⟨⟨ca1,cc1,na1,nc1,wa1,wc1,va1,vl1,vc1,fa1,fl1,fc1⟩,hK5,by
      have e:endN m' = { m' with status:=2 }:=by unfold endN; rw [if_neg (by rw [HM0.out]; decide),if_pos HM0.out,if_pos HW.out]
      rw [e]
      exact HC.out.stat 2 (by decide) hK5 (by rw [← Hm'.out.2.1,← Hm'.out.2.2]; exact Zaf Hbx.out 4 _),Or.inl rfl,rfl,rfl,rfl,rfl⟩
     clear hl0 hsw hK5 Hend HC HI HN Hloop Hm'
     go_wp2_with fail
     refine HSw.out.mono ?_
     rintro e w1 ⟨rfl,rfl⟩
     go_wp2
     go_ret2
     exact Hfin.out
    ·have hwn:m'.way≠[]:=fun e=>hz0 (by rw [Hm'.out.2.2,e]; rfl)
     have hzi:(0:Int)<(zl:Int):=by omega
     have hz1:((zl:Int) == 0)=false:=by rw [Qu]; omega
     have Hwn:=Zac hwn
     clear hwn hz0
     by_cases ht3:tr<3000
     ·have hgT:(tr:Int)<3000:=by omega
      have HMk:=Zac (Zwp wr b ⟨ca1,cc1,na1,nc1,wa1,wc1,va1,vl1,vc1,fa1,fl1,fc1⟩ cs a m' HC.out HI.out HM0.out Hwn.out (by rw [← Hm'.out.2.1]; exact ht3) Hcs.out Hcf.out hcl)
      obtain ⟨n',k,r,c,hw1,hw2,hw3⟩:=HI.out.head Hwn.out
      obtain ⟨e1,e2,e3,e4⟩:=Zkl hw1 hw2 HM0.out
      have Hinv:Hid (InvN cs a (Zat cs m')∧(Zat cs m').status≠2):=⟨HI.out.try' hcl HM0.out hw1 hw2 (by rw [← Hm'.out.2.1]; exact ht3),by rw [e2]; exact Ygg _ _ _⟩
      have Hlp:Hid (Zca cs n { m with status:=0 }=((Zca cs (n - (j+1)) (Zat cs m')).1,(Zca cs (n - (j+1)) (Zat cs m')).2+(j+1))):=by
       have h1:=Hloop.out
       rw [show n - j=(n - (j+1))+1 by omega,Yjs HM0.out Hwn.out (by rw [← Hm'.out.2.1]; exact ht3)] at h1
       show _=_
       rw [h1]
       simp; omega
      clear ht3 hw1 hw2 hw3 e1 e2 e3 e4
      go_wp2_with fail
      refine HMk.out.mono ?_
      rintro e w1 ⟨rfl,x1,hK1,hC1,hN1⟩
      have HK1:=Zac hK1
      have HC1:=Zac hC1
      have HN1:=Zac hN1
      clear hK1 hC1 hN1 b0 b1 b2 b3 b4 b5 b6 b7 bf
      go_wp2
      go_roundg (n - j)
      case measure=>omega
      case rel =>
       refine ⟨j+1,x1,Zat cs m',by go_num,by omega,by omega,HK.out.then HK1.out (fun i hi ho=>Ygh HN.out hi ho),HC1.out,⟨fun i hi => ?_,HN1.out.2.1.trans HN.out.2.1,HN1.out.2.2.1.trans HN.out.2.2.1,HN1.out.2.2.2.1.trans HN.out.2.2.2.1,HN1.out.2.2.2.2.trans HN.out.2.2.2.2⟩,Hinv.out.1,Hlp.out,Hinv.out.2⟩
       rcases HN1.out.1 i hi with h | h
       ·exact HN.out.1 i h
       ·exact Or.inr (Qq HK.out.size h)
     ·have hgT:¬ (tr:Int)<3000:=by omega
      have ht3':3000≤tr:=by omega
      clear ht3
      have hl0:=Zfv (cs:=cs) (n:=n - j) (s:=m') (Or.inr (Or.inr (Or.inr (by rw [← Hm'.out.2.1]; exact ht3'))))
      have hsw:sweN m'=3:=by unfold sweN; rw [if_neg Hwn.out,if_pos (by rw [← Hm'.out.2.1]; exact ht3')]
      rw [hsw] at HSw
      have hK5:Kept (only b) wr (((wr.setCell ⟨b,4,none⟩ (.int .i64 3)).setCell ⟨b,2,none⟩ (.slice none 0 0)).setCell ⟨b,7,none⟩ (.string ⟨#[]⟩)):=(((Qx _ _).put 4 _).put 2 _).put 7 _
      have Hfin:Hid (_∧_):=Hend.out hl0 _ ⟨_,hK5,by
       have e:endN m'=Zht m':=by unfold endN; rw [if_neg (by rw [HM0.out]; decide),if_pos HM0.out,if_neg Hwn.out,if_pos (by rw [← Hm'.out.2.1]; exact ht3')]
       rw [e]
       exact HC.out.full hK5 (by rw [← Hm'.out.2.1]; exact Zaf (Zaf (Zaf Hbx.out 4 _) 2 _) 7 _),Or.inr rfl,rfl,rfl,rfl,rfl⟩
      clear hl0 hsw hK5 Hend HC HI HN Hloop Hm' ht3'
      go_wp2_with fail
      refine HSw.out.mono ?_
      rintro e w1 ⟨rfl,rfl⟩
      go_wp2
      go_ret2
      exact Hfin.out
   ·by_cases hz0:zl=0
    ·have HW:Hid (m'.way=[]):=List.eq_nil_of_length_eq_zero (by rw [← Hm'.out.2.2]; exact hz0)
     subst hz0
     have hl0:=Zfv (cs:=cs) (n:=n - j) (s:=m') (Or.inl (by omega))
     have hsw:sweN m'=2:=by unfold sweN; rw [if_pos HW.out]
     rw [hsw] at HSw
     have hK5:Kept (only b) wr (wr.setCell ⟨b,4,none⟩ (.int .i64 2)):=(Qx _ _).put 4 _
     have Hfin:Hid (_∧_):=Hend.out hl0 _ ⟨⟨ca1,cc1,na1,nc1,wa1,wc1,va1,vl1,vc1,fa1,fl1,fc1⟩,hK5,by
      have e:endN m' = { m' with status:=2 }:=by unfold endN; rw [if_neg (by rw [HM0.out]; decide),if_pos HM0.out,if_pos HW.out]
      rw [e]
      exact HC.out.stat 2 (by decide) hK5 (by rw [← Hm'.out.2.1,← Hm'.out.2.2]; exact Zaf Hbx.out 4 _),Or.inl rfl,rfl,rfl,rfl,rfl⟩
     clear hl0 hsw hK5 Hend HC HI HN Hloop Hm'
     go_wp2_with fail
     refine HSw.out.mono ?_
     rintro e w1 ⟨rfl,rfl⟩
     go_wp2
     go_ret2
     exact Hfin.out
    ·have hwn:m'.way≠[]:=fun e=>hz0 (by rw [Hm'.out.2.2,e]; rfl)
     have Hwn:=Zac hwn
     clear hwn hz0
     by_cases ht3':3000≤tr
     ·have hl0:=Zfv (cs:=cs) (n:=n - j) (s:=m') (Or.inl (by omega))
      have hsw:sweN m'=3:=by unfold sweN; rw [if_neg Hwn.out,if_pos (by rw [← Hm'.out.2.1]; exact ht3')]
      rw [hsw] at HSw
      have hK5:Kept (only b) wr (((wr.setCell ⟨b,4,none⟩ (.int .i64 3)).setCell ⟨b,2,none⟩ (.slice none 0 0)).setCell ⟨b,7,none⟩ (.string ⟨#[]⟩)):=(((Qx _ _).put 4 _).put 2 _).put 7 _
      have Hfin:Hid (_∧_):=Hend.out hl0 _ ⟨_,hK5,by
       have e:endN m'=Zht m':=by unfold endN; rw [if_neg (by rw [HM0.out]; decide),if_pos HM0.out,if_neg Hwn.out,if_pos (by rw [← Hm'.out.2.1]; exact ht3')]
       rw [e]
       exact HC.out.full hK5 (by rw [← Hm'.out.2.1]; exact Zaf (Zaf (Zaf Hbx.out 4 _) 2 _) 7 _),Or.inr rfl,rfl,rfl,rfl,rfl⟩
      clear hl0 hsw hK5 Hend HC HI HN Hloop Hm' ht3'
      go_wp2_with fail
      refine HSw.out.mono ?_
      rintro e w1 ⟨rfl,rfl⟩
      go_wp2
      go_ret2
      exact Hfin.out
     ·have hl0:=Zfv (cs:=cs) (n:=n - j) (s:=m') (Or.inl (by omega))
      have hsw:sweN m'=0:=by unfold sweN; rw [if_neg Hwn.out,if_neg (by rw [← Hm'.out.2.1]; exact ht3')]
      rw [hsw] at HSw
      have hK5:Kept (only b) wr (wr.setCell ⟨b,4,none⟩ (.int .i64 0)):=(Qx _ _).put 4 _
      have Hfin:Hid (_∧_):=Hend.out hl0 _ ⟨⟨ca1,cc1,na1,nc1,wa1,wc1,va1,vl1,vc1,fa1,fl1,fc1⟩,hK5,by
       have e:endN m' = { m' with status:=0 }:=by
        unfold endN
        rw [if_neg (by rw [HM0.out]; decide),if_pos HM0.out,if_neg Hwn.out,if_neg (by rw [← Hm'.out.2.1]; exact ht3')]
        exact Ybq HM0.out
       rw [e]
       exact HC.out.stat 0 (by decide) hK5 (by rw [← Hm'.out.2.1,← Hm'.out.2.2]; exact Zaf Hbx.out 4 _),Or.inl rfl,rfl,rfl,rfl,rfl⟩
      clear hl0 hsw hK5 Hend HC HI HN Hloop Hm' ht3'
      go_wp2_with fail
      refine HSw.out.mono ?_
      rintro e w1 ⟨rfl,rfl⟩
      go_wp2
      go_ret2
      exact Hfin.out
  ·have hne':m'.status≠0:=by rw [← Hm'.out.1]; exact hs0
   have hl0:=Zfv (cs:=cs) (n:=n - j) (s:=m') (Or.inr (Or.inl hne'))
   rcases hstv with rfl | rfl | rfl
   ·exact absurd rfl hs0
   ·have Hfin:Hid (_∧_):=Hend.out hl0 wr ⟨⟨ca1,cc1,na1,nc1,wa1,wc1,va1,vl1,vc1,fa1,fl1,fc1⟩,Qx _ _,by
     have e:endN m'=m':=by simp [endN,show m'.status=1 from Hm'.out.1.symm]
     rw [e]; exact HC.out,Or.inl rfl,rfl,rfl,rfl,rfl⟩
    clear hs0 hne' hl0 Hend HC HI HN Hloop Hm'
    by_cases hlt:j<n
    all_goals
     go_wp2
     go_ret2
     exact Hfin.out
   ·have hK5:Kept (only b) wr ((wr.setCell ⟨b,2,none⟩ (.slice none 0 0)).setCell ⟨b,7,none⟩ (.string ⟨#[]⟩)):=((Qx _ _).put 2 _).put 7 _
    have Hfin:Hid (_∧_):=Hend.out hl0 _ ⟨_,hK5,by
     have e:endN m'=Zht m':=by unfold endN; rw [if_pos Hm'.out.1.symm]
     rw [e]
     exact HC.out.full hK5 (by rw [← Hm'.out.2.1]; exact Zaf (Zaf Hbx.out 2 _) 7 _),Or.inr rfl,rfl,rfl,rfl,rfl⟩
    clear hs0 hne' hl0 hK5 Hend HC HI HN Hloop Hm'
    by_cases hlt:j<n
    all_goals
     go_wp2
     go_ret2
     exact Hfin.out
theorem Yjv (w:World) (ua:Option Addr) (uc:Nat) (ks:List Nat) (h:w.ownsRow 0 3 1 (.slice ua ks.length uc) ks.length (ints ks)) (hl:ks.length≤1000) (hk:∀ k ∈ ks,k<24) :
  Calls Tryz.prog 78 #[.slice ua ks.length uc] w fun e w'=>e = .returned (.string ⟨(Zcg [] ks).toArray⟩)∧w'=w:=by
 obtain ⟨F,hF⟩:∃ F,F=Zcg [] ks:=⟨_,rfl⟩
 rw [← hF]
 have hFl:F.length≤200000:=by
  have:=Yal ks [] (by simp) (fun k hk'=>by have:=hk k hk'; omega)
  rw [← hF] at this
  omega
 obtain ⟨L,hL⟩:∃ L,L=ks.length:=⟨_,rfl⟩
 rw [← hL] at h hl ⊢
 have HU:=Zac h
 have HF:=Zac hF
 have Hk:=Zac hk
 have HL:=Zac hL
 clear h hF hk hL
 go_enter Tryz.func78,Tryz.ntmps78
 go_wp2
 go_loopg [3,8] (L+1) (fun gk tx i wr=>∃ (j:Nat) (dt:List UInt8),i = .int .i64 j∧j≤L∧L - j<gk∧tx = .string ⟨dt.toArray⟩∧wr=w ∧
  dt++Zcg (if j=0 then [] else [46]) (ks.drop j)=F)
 case atStart=>exact ⟨0,[],by go_num,Qm _,by omega,rfl,rfl,by simp [HF.out]⟩
 case round =>
  obtain ⟨j,dt,rfl,hj,hgk,rfl,rfl,hdt⟩:=hrel
  have hdl:dt.length≤200000:=by
   have h1:=congrArg List.length hdt
   simp only [Qg] at h1
   omega
  have Hdt:=Zac hdt
  clear hdt
  by_cases hlt:j<L
  ·have hlt':j<ks.length:=by rw [← HL.out]; exact hlt
   obtain ⟨u,hu⟩:∃ u,ks[j]?=some u:=⟨_,Qb hlt'⟩
   have hdu:ks.drop j=u::ks.drop (j+1):=by
    rw [List.drop_eq_getElem_cons hlt',(Qa.1 hu).2]
   obtain ⟨ub,ucap',ucur,hue,hBu,hub,hucp⟩:=Zao HU.out (by omega)
   simp only [Value.slice.injEq] at hue
   obtain ⟨rfl,_,rfl⟩:=hue
   have z0:wr.cell? ⟨ub,j,none⟩=some (.int .i64 u):=Zag HU.out j _ (by simp only [ints,Qj,hu,Option.map_some])
   have hu24:=Hk.out u (Qh hu)
   have HD:=Zac (Zmb u wr (by omega))
   obtain ⟨X,hX⟩:∃ X,X=Lib.decDigits u:=⟨_,rfl⟩
   rw [← hX] at HD
   have hul1:X.length≤30:=by rw [hX]; have:=Zks u; omega
   by_cases h0:j=0
   ·have hk0:¬ (0:Int)<(j:Int):=by omega
    have Hd0:Hid ((dt++X)++Zcg [46] (ks.drop (j+1))=F):=by
     have h1:=Hdt.out
     rw [hdu,if_pos h0] at h1
     simp only [Zcg] at h1
     show _=_
     rw [← h1,hX]; simp
    have Hstr:=Zac (Zbi dt X)
    clear h0 hu hdu hub Hdt hX hlt'
    go_wp2_with fail
    refine HD.out.mono ?_
    rintro e w1 ⟨rfl,rfl⟩
    go_wp2
    go_roundg (L - j)
    case measure=>omega
    case rel=>exact ⟨j+1,dt++X,by go_num,by omega,by omega,by rw [← Hstr.out],rfl,by simpa using Hd0.out⟩
   ·have hk0:(0:Int)<(j:Int):=by omega
    have Hd0:Hid ((dt++[46]++X)++Zcg [46] (ks.drop (j+1))=F):=by
     have h1:=Hdt.out
     rw [hdu,if_neg h0] at h1
     simp only [Zcg] at h1
     show _=_
     rw [← h1,hX]; simp
    have Hstr:=Zac (Zbi (dt++[46]) X)
    have Hstr1:=Zac (Zbi dt [46])
    clear h0 hu hdu hub Hdt hX hlt'
    go_wp2_with fail
    refine HD.out.mono ?_
    rintro e w1 ⟨rfl,rfl⟩
    go_wp2
    go_roundg (L - j)
    case measure=>omega
    case rel=>exact ⟨j+1,dt++[46]++X,by go_num,by omega,by omega,by rw [← Hstr.out,← Hstr1.out],rfl,by simpa using Hd0.out⟩
  ·have he:j=L:=by omega
   have Hfin:Hid (dt=F):=by
    have h1:=Hdt.out
    rw [he,HL.out,List.drop_length] at h1
    show _=_
    simpa [Zcg] using h1
   clear Hdt he
   go_wp2
   go_ret
   rw [Hfin.out]
   exact ⟨rfl,rfl⟩
theorem Znw (w:World) (b:Nat) (x:CX) (cs:List Cls) (a:List (List Sym) × Names) (m:SN) (h:CSr w b x cs a m) :
  Calls Tryz.prog 55 #[.pointer (some ⟨b,0,none⟩)] w fun e w'=>e = .returned (.int .i64 m.status)∧w'=w:=by
 have hbx:=h.box
 obtain ⟨ca,cc,na,nc,wa,wc,va,vl,vc,fa,fl,fc⟩:=x
 simp only [CX.cells] at hbx
 obtain ⟨b0,b1,b2,b3,b4,b5,b6,b7,bf⟩:=box8 hbx
 have hbl:=Zab hbx
 clear h hbx
 go_enter Tryz.func55,Tryz.ntmps55
 go_wp2
 go_ret
 exact ⟨rfl,rfl⟩
theorem Znx (w:World) (b:Nat) (x:CX) (cs:List Cls) (a:List (List Sym) × Names) (m:SN) (h:CSr w b x cs a m) :
  Calls Tryz.prog 58 #[.pointer (some ⟨b,0,none⟩)] w fun e w'=>e = .returned (.string ⟨(Zdd a m.status m.found m.tree).2.2.toArray⟩)∧w'=w:=by
 have hbx:=h.box
 obtain ⟨ca,cc,na,nc,wa,wc,va,vl,vc,fa,fl,fc⟩:=x
 simp only [CX.cells] at hbx
 obtain ⟨b0,b1,b2,b3,b4,b5,b6,b7,bf⟩:=box8 hbx
 have hbl:=Zab hbx
 obtain ⟨st,hst⟩:∃ z,z=m.status:=⟨_,rfl⟩
 rw [← hst] at b4 ⊢
 clear h hbx hst
 by_cases h2:st=2
 ·subst h2
  have Ht:Hid ((Zdd a 2 m.found m.tree).2.2=m.tree):=by show _=_; simp [Zdd]
  rw [Ht.out]
  go_enter Tryz.func58,Tryz.ntmps58
  go_wp2
  go_ret
  exact ⟨rfl,rfl⟩
 ·have Ht:Hid ((Zdd a st m.found m.tree).2.2=[]):=by
   show _=_
   unfold Zdd
   split
   ·rfl
   ·rfl
  rw [Ht.out]
  have hb:((st:Int) != 2)=true:=by rw [bne_iff_ne]; omega
  clear h2 Ht
  go_enter Tryz.func58,Tryz.ntmps58
  go_wp2
  go_ret
  exact ⟨rfl,rfl⟩
theorem Zlz (w:World) (b:Nat) (x:CX) (cs:List Cls) (a:List (List Sym) × Names) (m:SN) (h:CSr w b x cs a m) (hI:InvN cs a m) (hcl:cs.length≤24) :
  Calls Tryz.prog 57 #[.pointer (some ⟨b,0,none⟩)] w fun e w'=>e = .returned (.string ⟨(Zdd a m.status m.found m.tree).2.1.toArray⟩)∧w'=w:=by
 have hbx:=h.box
 obtain ⟨ca,cc,na,nc,wa,wc,va,vl,vc,fa,fl,fc⟩:=x
 simp only [CX.cells] at hbx
 obtain ⟨b0,b1,b2,b3,b4,b5,b6,b7,bf⟩:=box8 hbx
 have hbl:=Zab hbx
 by_cases h1:m.status=1
 ·obtain ⟨⟨n,_,hOk,_,hS⟩,ho⟩:=h.found h1
  have hu:=(hI.found h1).2.2
  have hul:m.found.used.length≤1000:=by rw [← hS.used]; have:=hOk.ul; omega
  obtain ⟨g1,g2,he⟩:=Zae ho
  simp only [Value.slice.injEq] at he
  obtain ⟨rfl,hfl,rfl⟩:=he
  rw [hfl] at ho b6
  have HX:=Zac (Yjv w fa fc m.found.used ho hul (fun k hk=>by have:=hu k hk; omega))
  have Ht:Hid ((Zdd a m.status m.found m.tree).2.1=Zcg [] m.found.used):=by show _=_; simp [Zdd,h1,Zeh]
  rw [Ht.out]
  rw [h1] at b4
  clear h hI hbx h1 ho hu hul hOk hS Ht
  go_enter Tryz.func57,Tryz.ntmps57
  go_wp2_with fail
  refine HX.out.mono ?_
  rintro e w1 ⟨rfl,rfl⟩
  go_wp2
  go_ret
  exact ⟨rfl,rfl⟩
 ·obtain ⟨st,hst⟩:∃ z,z=m.status:=⟨_,rfl⟩
  rw [← hst] at b4 h1 ⊢
  have Ht:Hid ((Zdd a st m.found m.tree).2.1=[]):=by
   show _=_
   unfold Zdd
   rw [if_neg h1]
   split <;> rfl
  rw [Ht.out]
  have hb:((st:Int) != 1)=true:=by rw [bne_iff_ne]; omega
  clear h hI hbx h1 Ht hst
  go_enter Tryz.func57,Tryz.ntmps57
  go_wp2
  go_ret
  exact ⟨rfl,rfl⟩
def OnePh (W:World) (A:Value):List Value→World→Prop
 | [],y=>y=W
 | [v],y=>v=A∧Ext W y
 | _,_=>False
theorem OnePh.at {W:World} {A:Value} {vs:List Value} {y:World} (h:OnePh W A vs y):vs.length≤0→y=W:=by
 match vs,h with
 | [],h=>exact fun _=>h
 | [v],h=>exact fun h=>by simp at h
theorem Zny (w:World) (b:Nat) (x:CX) (cs:List Cls) (q:ByteArray) (a:List (List Sym) × Names) (m:SN) (h:CSr w b x cs a m) (hI:InvN cs a m) (hask:Zep q=some a) :
  Calls Tryz.prog 56 #[.pointer (some ⟨b,0,none⟩)] w fun e w'=>e = .returned (.string ⟨(Zdd a m.status m.found m.tree).1.toArray⟩)∧Ext w w':=by
 have hbx:=h.box
 obtain ⟨ca,cc,na,nc,wa,wc,va,vl,vc,fa,fl,fc⟩:=x
 simp only [CX.cells] at hbx
 obtain ⟨b0,b1,b2,b3,b4,b5,b6,b7,bf⟩:=box8 hbx
 have hbl:=Zab hbx
 by_cases h1:m.status=1
 ·obtain ⟨⟨n,hv,hOk,hNm,hS⟩,ho⟩:=h.found h1
  obtain ⟨_,hvl,_⟩:=hI.found h1
  obtain ⟨_,_,_,_,_,_,_,_,ha8⟩:=Zdx hask
  have ha6:=Znu hask
  have hnl:n.vals.length=a.2.length:=by rw [hS.vl,hvl]
  have hnm:=h.names
  simp only at hnm hv
  have hans:Zbp a.2 n=Zbp a.2 m.found:=by unfold Zbp; rw [hS.valsC hOk]
  have HA:Hid (Calls Tryz.prog 70 #[.slice na a.2.length nc,.slice va vl vc] w.drew fun e w'=>Ext w.drew w'∧e = .returned (.string ⟨(Zbp a.2 n).toArray⟩)):=by
   have hE:Ext w w.drew:=⟨rfl,rfl,rfl,Qe _,fun _ _=>rfl⟩
   exact Zgy _ _ _ a.2 n.vals (Zai hnm (fun j hj=>hE.block j (hnm.lt j hj).2)) (hv.ext hE) (Zwn hOk hNm (by omega)) hnl.symm (Zlj hOk hNm (by omega) ha6 ha8)
  have Ht:Hid ((Zdd a m.status m.found m.tree).1=Zbp a.2 m.found):=by show _=_; simp [Zdd,h1]
  rw [Ht.out,← hans]
  obtain ⟨Y,hY⟩:∃ Y,Y=Zbp a.2 n:=⟨_,rfl⟩
  rw [← hY] at HA ⊢
  rw [h1] at b4
  clear h hI hbx h1 ho hOk hNm hS hv hvl ha8 ha6 hnl hnm hans Ht hY hask
  go_enter Tryz.func56,Tryz.ntmps56
  go_wp2_with fail
  refine Zev (by kernel_rfl) [.rd 0 1 (fun _ => .pointer (some ⟨b,0,none⟩)),.rd 0 1 (fun _ => .pointer (some ⟨b,0,none⟩)),.rd 0 1 (fun _ => .pointer (some ⟨b,1,none⟩)),.rd 0 0 (fun _ => .slice na a.2.length nc),.rd 0 1 (fun _ => .pointer (some ⟨b,0,none⟩)),.rd 0 1 (fun _ => .pointer (some ⟨b,0,none⟩)),.rd 0 1 (fun _ => .pointer (some ⟨b,5,none⟩)),.rd 0 0 (fun _ => .slice va vl vc),.st 0,.rd 1 1 (fun _ => .string ⟨Y.toArray⟩)] 1 7 (by kernel_rfl) (OnePh w.drew (.string ⟨Y.toArray⟩)) rfl ?_ ?_
  ·refine ⟨⟨trivial,fun vs y _ hl hS => ?_⟩,⟨trivial,fun vs y _ hl hS => ?_⟩,⟨trivial,fun vs y _ hl hS => ?_⟩,⟨trivial,fun vs y _ hl hS => ?_⟩,⟨trivial,fun vs y _ hl hS => ?_⟩,⟨trivial,fun vs y _ hl hS => ?_⟩,⟨trivial,fun vs y _ hl hS => ?_⟩,⟨trivial,fun vs y _ hl hS => ?_⟩,⟨trivial,fun vs y hl hS => ?_⟩,⟨trivial,fun vs y hl0 hl hS => ?_⟩,trivial⟩
   ·simp [phAll,phA,pa,Ph.kd,Ph.val,Kd.val,go_sem]
   ·simp [phAll,phA,pa,Ph.kd,Ph.val,Kd.val,go_sem]
   ·simp [phAll,phA,pa,Ph.kd,Ph.val,Kd.val,go_sem]
   ·obtain rfl:=hS.at hl
    simp [phAll,phA,pa,Ph.kd,Ph.val,Kd.val,go_sem,b1]
   ·simp [phAll,phA,pa,Ph.kd,Ph.val,Kd.val,go_sem]
   ·simp [phAll,phA,pa,Ph.kd,Ph.val,Kd.val,go_sem]
   ·simp [phAll,phA,pa,Ph.kd,Ph.val,Kd.val,go_sem]
   ·obtain rfl:=hS.at hl
    simp [phAll,phA,pa,Ph.kd,Ph.val,Kd.val,go_sem,b5]
   ·obtain rfl:=List.length_eq_zero_iff.1 hl
    obtain rfl:y=w.drew:=hS
    refine .call 70 #[.slice na a.2.length nc,.slice va vl vc] _ (by simp [phAll,phA,pa,Ph.kd,Ph.val,Kd.val,go_sem]) (HA.out.mono ?_)
    rintro e u ⟨hE,rfl⟩
    exact ⟨_,rfl,rfl,hE⟩
   ·obtain ⟨v,rfl⟩:=List.length_eq_one_iff.1 (show vs.length=1 by omega)
    obtain ⟨rfl,_⟩:=hS
    simp [phAll,phA,pa,Ph.kd,Ph.val,Kd.val,go_sem]
  rintro vs y hl hS
  obtain ⟨v,rfl⟩:=List.length_eq_one_iff.1 hl
  obtain ⟨hv,hy⟩:=hS
  have Hy:=Zac hy
  simp only [phAll,phA,paAll,pa,Ph.kd,Ph.val,Kd.val,List.map_cons,List.map_nil,if_true,Act.put,List.setIfInBounds_toArray,List.set_cons_succ,List.set_cons_zero]
  clear hv hy b0 b1 b2 b3 b4 b5 b6 b7 bf
  go_wp2
  go_ret
  exact ⟨rfl,Hy.out.undrew⟩
 ·obtain ⟨st,hst⟩:∃ z,z=m.status:=⟨_,rfl⟩
  rw [← hst] at b4 h1 ⊢
  have Ht:Hid ((Zdd a st m.found m.tree).1=[]):=by
   show _=_
   unfold Zdd
   rw [if_neg h1]
   split <;> rfl
  rw [Ht.out]
  have hb:((st:Int) != 1)=true:=by rw [bne_iff_ne]; omega
  clear h hI hbx h1 Ht hst
  go_enter Tryz.func56,Tryz.ntmps56
  go_wp2
  go_ret
  exact ⟨rfl,Ext.of (Qx _ _)⟩
theorem Zuh {S:Nat→Prop} {w w':World} (h:Ext w w'):Kept S w w':=⟨h.os,h.tape,h.output,h.size,fun k hk _=>h.block k hk⟩
theorem OfTy.terms {S:Nat→Prop} {w w':World} {v:Value} {ls:List (List Sym)} (hS:OfTy S w 9) (hk:Kept S w w') (h:TermsIn w v ls):TermsIn w' v ls:=by
 obtain ⟨vs,h⟩:=h
 exact ⟨vs,hS.row hk h.owns (by decide),fun i l hl=>by
  obtain ⟨x,h1,h2⟩:=h.all i l hl
  exact ⟨x,h1,hS.row hk h2 (by decide)⟩⟩
theorem OfTy.rowL {S:Nat→Prop} {w w':World} {v:Value} {ds:List (ND × Nat)} {xs:List Value} (hS:OfTy S w 9) (hk:Kept S w w') (h:RowL w v ds xs):RowL w' v ds xs :=
 ⟨hS.row hk h.owns (by decide),fun i d hd=>by
  obtain ⟨x0,x1,x2,x3,y0,y1,y2,y3,y4,n,h1,h2⟩:=h.all i d hd
  exact ⟨x0,x1,x2,x3,y0,y1,y2,y3,y4,n,⟨hS.terms hk h1.goals,hS.terms hk h1.vals,hS.terms hk h1.done⟩,h2⟩⟩
theorem CSr.texts {w0 w w':World} {b:Nat} {x0 x:CX} {cs:List Cls} {a:List (List Sym) × Names} {m0 m:SN} {S:Nat→Prop} (h0:CSr w0 b x0 cs a m0) (hK0:Kept (ownS b x0) w0 w) (h:CSr w b x cs a m) (hN:Zhk w0 x0 x) (hk:Kept S w w') (hS:OfTy S w 9) (hge:∀ k,S k→w0.heap.size≤k):CSr w' b x cs a m:=by
 have hK:Kept (ownS b x0) w0 w':=hK0.then hk (fun i hi hs=>absurd (hge i hs) (by omega))
 obtain ⟨xs,h1⟩:=h0.prog
 obtain ⟨ys,h2⟩:=h.way
 obtain ⟨_,e1,e2,e3,e4⟩:=hN
 refine ⟨hS.block hk h.box (by decide),⟨xs,by rw [e1,e2]; exact h0.offS.prog hK h1⟩,by rw [e3,e4]; exact h0.offS.own (by simp [Zcm]) hK h0.names,⟨ys,hS.rowL hk h2⟩,fun hs => ?_⟩
 obtain ⟨⟨n,g1,g2⟩,g3⟩:=h.found hs
 exact ⟨⟨n,hS.terms hk g1,g2⟩,hS.row hk g3 (by decide)⟩
theorem CSr.not {w:World} {b k:Nat} {x:CX} {cs:List Cls} {a:List (List Sym) × Names} {m:SN} {cl:Array Value} {t:TypeId} {fr:Nat × Nat} (h:CSr w b x cs a m) (hb:w.heap[k]?=some (.cells cl t fr)) (h1:t≠112) (h2:t≠135):¬ ownS b x k:=by
 rintro (rfl | hk)
 ·have:=h.box
  rw [hb] at this
  simp at this
  exact h1 this.2.1
 ·obtain ⟨ys,h3⟩:=h.way
  obtain ⟨cl',fr',h4⟩:=Zxs h3.owns k (Zlk.2 hk)
  rw [hb] at h4
  simp at h4
  exact h2 h4.2.1
structure AftAt (w0 w:World) (b bt:Nat) (x0 x:CX) (cs:List Cls) (a:List (List Sym) × Names) (m:SN) (c0 c1:Value) (tr st:Nat) (av:Value) (A:List (List UInt8)) (wv:Value) (W:List (List UInt8)):Prop where
 kept:Kept (ownS b x0) w0 w
 sr0:∃ m0,CSr w0 b x0 cs a m0
 sr:CSr w b x cs a m
 new:Zhk w0 x0 x
 inv:InvN cs a m
 fw:Zgo m
 bt0:w0.heap.size≤bt
 box:w.heap[bt]?=some (.cells #[c0,c1,.int .i64 tr,.int .i64 st,.string ⟨#[]⟩] 49 (0,0))
 ans:w.ownsRow w0.heap.size 9 1 av A.length (strs A)
 wts:w.ownsRow w0.heap.size 9 1 wv W.length (strs W)
 ap:∀ k,Zbn av k→¬ Zbn wv k
theorem AftAt.ext {w0 w w':World} {b bt:Nat} {x0 x:CX} {cs:List Cls} {a:List (List Sym) × Names} {m:SN} {c0 c1:Value} {tr st:Nat} {av:Value} {A:List (List UInt8)} {wv:Value} {W:List (List UInt8)} (h:AftAt w0 w b bt x0 x cs a m c0 c1 tr st av A wv W) (e:Ext w w'):AftAt w0 w' b bt x0 x cs a m c0 c1 tr st av A wv W :=
 ⟨h.kept.trans (Zuh e),h.sr0,h.sr.ext e,h.new,h.inv,h.fw,h.bt0,(e.block _ (Zab h.box)).trans h.box,Zai h.ans (fun k hk=>e.block k (h.ans.lt k hk).2),Zai h.wts (fun k hk=>e.block k (h.wts.lt k hk).2),h.ap⟩
theorem AftAt.step {w0 w w':World} {b bt:Nat} {x0 x x':CX} {cs:List Cls} {a:List (List Sym) × Names} {m:SN} {c0 c1:Value} {tr st n:Nat} {av:Value} {A:List (List UInt8)} {wv:Value} {W:List (List UInt8)} (h:AftAt w0 w b bt x0 x cs a m c0 c1 tr st av A wv W) (hcl:cs.length≤24) (hK:Kept (ownS b x) w w') (hC:CSr w' b x' cs a (Zcz cs n m).1) (hN:Zhk w x x'):AftAt w0 w' b bt x0 x' cs a (Zcz cs n m).1 c0 c1 tr st av A wv W:=by
 refine ⟨h.kept.then hK (fun i hi ho=>Ygh h.new hi ho),h.sr0,hC,⟨fun k hk => ?_,hN.2.1.trans h.new.2.1,hN.2.2.1.trans h.new.2.2.1,hN.2.2.2.1.trans h.new.2.2.2.1,hN.2.2.2.2.trans h.new.2.2.2.2⟩,h.inv.step hcl,Zvv h.fw,h.bt0,?_,h.sr.offS.own (by simp [Zcm]) hK h.ans,h.sr.offS.own (by simp [Zcm]) hK h.wts,h.ap⟩
 ·rcases hN.1 k hk with h1 | h1
  ·exact h.new.1 k h1
  ·exact Or.inr (by have:=h.kept.size; omega)
 ·exact (hK.block bt (Zab h.box) (h.sr.not h.box (by decide) (by decide))).trans h.box
theorem AftAt.put {w0 w w':World} {b bt:Nat} {x0 x:CX} {cs:List Cls} {a:List (List Sym) × Names} {m:SN} {c0 c1 c0' c1':Value} {tr st tr' st':Nat} {av:Value} {A:List (List UInt8)} {wv:Value} {W:List (List UInt8)} (h:AftAt w0 w b bt x0 x cs a m c0 c1 tr st av A wv W) (hK:Kept (only bt) w w')
  (hb:w'.heap[bt]?=some (.cells #[c0',c1',.int .i64 tr',.int .i64 st',.string ⟨#[]⟩] 49 (0,0))):AftAt w0 w' b bt x0 x cs a m c0' c1' tr' st' av A wv W:=by
 have hS:OfTy (only bt) w 49:=fun k e=>by
  have e:k=bt:=e
  subst e
  exact ⟨_,_,h.box⟩
 have hO:OffCode (only bt) w:=fun k e=>by
  obtain ⟨cl,fr,h1⟩:=hS k e
  exact ⟨_,_,_,h1,by simp [Zcm]⟩
 refine ⟨h.kept.then hK (fun i hi e => ?_),h.sr0,h.sr.keep hK hO (fun k hk e => ?_),h.new,h.inv,h.fw,h.bt0,hb,hS.row hK h.ans (by decide),hS.row hK h.wts (by decide),h.ap⟩
 ·have e:i=bt:=e
  have:=h.bt0
  omega
 ·have e:k=bt:=e
  subst e
  exact h.sr.not h.box (by decide) (by decide) hk
theorem AftAt.app1 {w0 w w':World} {b bt:Nat} {x0 x:CX} {cs:List Cls} {a:List (List Sym) × Names} {m:SN} {c0 c1:Value} {tr st:Nat} {av av':Value} {A:List (List UInt8)} {X:List UInt8} {wv:Value} {W:List (List UInt8)} (h:AftAt w0 w b bt x0 x cs a m c0 c1 tr st av A wv W) (hA:Appended w w0.heap.size 9 1 av (A.length+1) (strs A++[.string ⟨X.toArray⟩]) av' w') :
  AftAt w0 w' b bt x0 x cs a m c0 c1 tr st av' (A++[X]) wv W:=by
 have hS:OfTy (Zbn av) w 9:=Zxs h.ans
 have hge:∀ k,Zbn av k→w0.heap.size≤k:=fun k hk=>(h.ans.lt k hk).1
 obtain ⟨m0,h0⟩:=h.sr0
 refine ⟨h.kept.then hA.kept (fun i hi e=>absurd (hge i e) (by omega)),h.sr0,h0.texts h.kept h.sr h.new hA.kept hS hge,h.new,h.inv,h.fw,h.bt0,hS.block hA.kept h.box (by decide),?_,?_,fun k hk hk2 => ?_⟩
 ·have:=hA.owns
  simpa [strs] using this
 ·exact Zai h.wts (fun k hk=>hA.kept.block k (h.wts.lt k hk).2 (fun e=>h.ap k e hk))
 ·rcases hA.where_ with e | ⟨g,e,hg⟩
  ·exact h.ap k (by unfold Zbn at hk ⊢; rw [← e]; exact hk) hk2
  ·unfold Zbn at hk
   rw [e] at hk
   simp at hk
   have:=(h.wts.lt k hk2).2
   omega
theorem AftAt.app2 {w0 w w':World} {b bt:Nat} {x0 x:CX} {cs:List Cls} {a:List (List Sym) × Names} {m:SN} {c0 c1:Value} {tr st:Nat} {av wv':Value} {A:List (List UInt8)} {X:List UInt8} {wv:Value} {W:List (List UInt8)} (h:AftAt w0 w b bt x0 x cs a m c0 c1 tr st av A wv W) (hA:Appended w w0.heap.size 9 1 wv (W.length+1) (strs W++[.string ⟨X.toArray⟩]) wv' w') :
  AftAt w0 w' b bt x0 x cs a m c0 c1 tr st av A wv' (W++[X]):=by
 have hS:OfTy (Zbn wv) w 9:=Zxs h.wts
 have hge:∀ k,Zbn wv k→w0.heap.size≤k:=fun k hk=>(h.wts.lt k hk).1
 obtain ⟨m0,h0⟩:=h.sr0
 refine ⟨h.kept.then hA.kept (fun i hi e=>absurd (hge i e) (by omega)),h.sr0,h0.texts h.kept h.sr h.new hA.kept hS hge,h.new,h.inv,h.fw,h.bt0,hS.block hA.kept h.box (by decide),?_,?_,fun k hk hk2 => ?_⟩
 ·exact Zai h.ans (fun k hk=>hA.kept.block k (h.ans.lt k hk).2 (fun e=>h.ap k hk e))
 ·have:=hA.owns
  simpa [strs] using this
 ·rcases hA.where_ with e | ⟨g,e,hg⟩
  ·exact h.ap k hk (by unfold Zbn at hk2 ⊢; rw [← e]; exact hk2)
  ·unfold Zbn at hk2
   rw [e] at hk2
   simp at hk2
   have:=(h.ans.lt k hk).2
   omega
def Zyo (w:World) (b:Nat) (x:CX) (cs:List Cls) (a:List (List Sym) × Names) (R:SN × Tr) (e:Ending) (w':World):Prop :=
 Kept (ownS b x) w w'∧(∃ x',CSr w' b x' cs a R.1∧Zhk w x x')∧InvN cs a R.1∧∃ aa ac wa wc,e = .returned (.tuple #[.agg #[.slice aa R.2.ans.length ac,.slice wa R.2.wts.length wc,.int .i64 R.2.tries,.int .i64 R.2.status,.string ⟨(Zdd a R.1.status R.1.found R.1.tree).2.2.toArray⟩],.bool true]) ∧
  w'.ownsRow w.heap.size 9 1 (.slice aa R.2.ans.length ac) R.2.ans.length (strs R.2.ans)∧w'.ownsRow w.heap.size 9 1 (.slice wa R.2.wts.length wc) R.2.wts.length (strs R.2.wts)
theorem AftAt.fin {w V wr Z:World} {b bt br:Nat} {x x1:CX} {cs:List Cls} {a:List (List Sym) × Names} {m:SN} {c0 c1:Value} {tr st:Nat} {av:Value} {A:List (List UInt8)} {wv:Value} {W:List (List UInt8)} {cl:Array Value} (h:AftAt V wr b bt x x1 cs a m c0 c1 tr st av A wv W) (hbr:wr.heap[br]?=some (.cells cl 49 (0,0))) (hw:w.heap.size≤br) (hEV:Ext w V) (hZ:Kept (fun k=>k=bt∨k=br) wr Z) :
  Kept (ownS b x) w Z∧(∃ x',CSr Z b x' cs a m∧Zhk w x x')∧InvN cs a m∧Z.ownsRow w.heap.size 9 1 av A.length (strs A)∧Z.ownsRow w.heap.size 9 1 wv W.length (strs W):=by
 have hs:=hEV.size
 have hS:OfTy (fun k=>k=bt∨k=br) wr 49:=fun k e=>by
  rcases e with rfl | rfl
  ·exact ⟨_,_,h.box⟩
  ·exact ⟨_,_,hbr⟩
 have hO:OffCode (fun k=>k=bt∨k=br) wr:=fun k e=>by
  obtain ⟨cl,fr,h1⟩:=hS k e
  exact ⟨_,_,_,h1,by simp [Zcm]⟩
 refine ⟨((Zuh hEV).trans (h.kept)).then hZ (fun i hi e => ?_),⟨x1,h.sr.keep hZ hO (fun k hk e => ?_),fun k hk => ?_,h.new.2⟩,h.inv,Zbe (hS.row hZ h.ans (by decide)) hs,Zbe (hS.row hZ h.wts (by decide)) hs⟩
 ·have:=h.bt0
  omega
 ·obtain ⟨cl,fr,h1⟩:=hS k e
  exact h.sr.not h1 (by decide) (by decide) hk
 ·rcases h.new.1 k hk with h1 | h1
  ·exact Or.inl h1
  ·exact Or.inr (by omega)
theorem Ygi (w:World) (b:Nat) (x:CX) (cs:List Cls) (q:ByteArray) (a:List (List Sym) × Names) (m:SN) (tries size:Nat) (h:CSr w b x cs a m) (hI:InvN cs a m) (hF:Zgo m) (hm:m.status=0) (hcs:∀ c ∈ cs,COk c∧CNm c) (hcf:∀ c ∈ cs,CFew c) (hcl:cs.length≤24) (hask:Zep q=some a) (ht:tries≤3001) (hs:0<size) (hs2:size≤3000) :
  Calls Tryz.prog 33 #[.pointer (some ⟨b,0,none⟩),.int .i64 tries,.int .i64 size] w (Zyo w b x cs a (aftN cs a tries size (tries+1) m ⟨[],[],0,0⟩)):=by
 have hbl:=Zab h.box
 obtain ⟨V,hV⟩:∃ V,V=w.alloc (.cells #[.slice none 0 0,.slice none 0 0,.int .i64 0,.int .i64 0,.string ⟨#[]⟩] 49):=⟨_,rfl⟩
 have hEV:Ext w V:=by rw [hV]; exact (Ext.of (by repeat' (first | with_reducible(first|exact Qx _ _|apply Kept.drew|apply Kept.drewN|apply Qz|refine Qy ?_ ?_ _)|exact fun h=>absurd h (by simp <;> omega))))
 have hVs:V.heap.size=w.heap.size+1:=by rw [hV]; simp
 have hbr:V.heap[w.heap.size]?=some (.cells #[.slice none 0 0,.slice none 0 0,.int .i64 0,.int .i64 0,.string ⟨#[]⟩] 49 (0,0)):=by rw [hV]; exact heap_alloc_new w _
 have hCV:=h.ext hEV
 have H0:Hid (AftAt V (V.alloc (.cells #[.slice none 0 0,.slice none 0 0,.int .i64 0,.int .i64 0,.string ⟨#[]⟩] 49)) b (w.heap.size+1) x x cs a m (.slice none 0 0) (.slice none 0 0) 0 0 (.slice none 0 0) [] (.slice none 0 0) []) :=
  ⟨(Qx _ _).alloc _,⟨m,hCV⟩,hCV.ext (Ext.of (by repeat' (first | with_reducible(first|exact Qx _ _|apply Kept.drew|apply Kept.drewN|apply Qz|refine Qy ?_ ?_ _)|exact fun h=>absurd h (by simp <;> omega)))),⟨fun k hk=>Or.inl hk,rfl,rfl,rfl,rfl⟩,hI,hF,by omega,by rw [← hVs]; exact heap_alloc_new V _,World.ownsRow_nil _ _ _ _,World.ownsRow_nil _ _ _ _,fun k hk=>by simp [Zbn,Value.ownBlock] at hk⟩
 have Hbr:Hid (∀ u,Kept (ownS b x) V u→u.heap[w.heap.size]?=some (.cells #[.slice none 0 0,.slice none 0 0,.int .i64 0,.int .i64 0,.string ⟨#[]⟩] 49 (0,0))):=fun u hu=>(hu.block _ (Zab hbr) (hCV.not hbr (by decide) (by decide))).trans hbr
 have HV:=Zac hV
 have HEV:=Zac hEV
 have Hcs:=Zac hcs
 have Hcf:=Zac hcf
 have Hask:=Zac hask
 obtain ⟨R,hR⟩:∃ R,R=aftN cs a tries size (tries+1) m ⟨[],[],0,0⟩:=⟨_,rfl⟩
 have HR:=Zac hR
 rw [← hR]
 clear h hI hF hcs hcf hask hR hV hEV hbr hCV hVs
 go_enter Tryz.func33,Tryz.ntmps33
 go_wp2
 go_loopg [] (tries+1) (fun gk wr=>∃ (m':SN) (x':CX) (t:Tr) (aa:Option Addr) (ac:Nat) (wa:Option Addr) (wc:Nat),t.tries≤tries∧tries - t.tries<gk∧(m'.status=0∨m'.status=1)∧t.status=m'.status∧t.ans.length≤t.tries∧t.wts.length≤t.tries∧R=aftN cs a tries size gk m' t∧AftAt V wr b (w.heap.size+1) x x' cs a m' (.slice aa t.ans.length ac) (.slice wa t.wts.length wc) t.tries t.status (.slice aa t.ans.length ac) t.ans (.slice wa t.wts.length wc) t.wts)
 case atStart=>exact ⟨m,x,⟨[],[],0,0⟩,none,0,none,0,Qm _,by simp,Or.inl hm,hm.symm,by simp,by simp,HR.out,by rw [← HV.out]; exact H0.out⟩
 case round =>
  obtain ⟨m1,x1,⟨A,W,T,st⟩,aa,ac,wa,wc,hT,hgk,hst,hst2,hAl,hWl,hRe,hA⟩:=hrel
  simp only at hT hgk hst hst2 hAl hWl hA
  have c2:wr.cell? ⟨w.heap.size+1,2,none⟩=some (.int .i64 T):=Zaa hA.box 2 _ rfl
  have hbt:=Zab hA.box
  have HA:=Zac hA
  have HRe:=Zac hRe
  have Hst:=Zac hst2
  have hst1:st=0∨st=1:=by omega
  clear hA hRe H0 hst hst2
  by_cases hlt:T<tries
  ·have tf:=fun i=>Zad HA.out.box i
   obtain ⟨N,hN⟩:∃ N,N=Zhi size (tries - T):=⟨_,rfl⟩
   have hN0:0<N∧N≤3000∧N≤tries - T:=by rw [hN]; unfold Zhi; split <;> omega
   have hI2:(T:Int)<(tries:Int):=by omega
   obtain ⟨M,d,hr⟩:∃ M d,Zcz cs N m1=(M,d):=⟨_,_,rfl⟩
   have HS:=Zac (Yju wr b x1 cs a m1 N HA.out.sr HA.out.inv Hcs.out Hcf.out hcl hN0.2.1 (by rw [← Hst.out]; omega))
   have HA1:=Zac (fun (w1:World) (x2:CX) (hK:Kept (ownS b x1) wr w1) (hC:CSr w1 b x2 cs a (Zcz cs N m1).1) (hN:Zhk wr x1 x2)=>HA.out.step hcl hK hC hN)
   have hdN:d≤N:=by have:=Yip (cs:=cs) (n:=N) (s:=m1); rw [hr] at this; exact this
   have hless:d<N→M.status≠0:=fun h=>by have:=Yao (cs:=cs) (n:=N) (s:=m1); rw [hr] at this; exact this h
   have hsome:M.status=0∨M.status=1→d≠0:=fun h=>by have:=Yap (cs:=cs) (n:=N) (s:=m1) hN0.1 (by rw [← Hst.out]; omega); rw [hr] at this; exact this h
   rw [hr] at HS HA1
   simp only at HS HA1
   have Hrec:Hid (R=if M.status=2∨M.status=3 then (M,addN a ⟨A,W,T,st⟩ (M,d)) else aftN cs a tries size (gk - 1) M (addN a ⟨A,W,T,st⟩ (M,d))):=by
    show _=_
    rw [HRe.out]
    obtain ⟨f,rfl⟩:∃ f,gk=f+1:=⟨gk - 1,by omega⟩
    simp only [aftN]
    rw [if_pos hlt,← hN,hr]
    rfl
   rcases Nat.lt_or_ge (tries - T) size with hsz | hsz
   ·have hI1:(tries:Int) - (T:Int)<(size:Int):=by omega
    have hNt:(tries:Int) - (T:Int)=(N:Int):=by rw [hN]; unfold Zhi; rw [if_pos hsz]; omega
    clear hN
    go_wp2_with fail
    refine HS.out.mono ?_
    rintro e w1 ⟨rfl,x2,hK,hC,hNw⟩
    have HB:=Zac (HA1.out w1 x2 hK hC hNw)
    clear hK hC hNw HS HA1
    have b2:w1.cell? ⟨w.heap.size+1,2,none⟩=some (.int .i64 T):=Zaa HB.out.box 2 _ rfl
    have b3:w1.cell? ⟨w.heap.size+1,3,none⟩=some (.int .i64 st):=Zaa HB.out.box 3 _ rfl
    have bf:=fun i=>Zad HB.out.box i
    have bl:=Zab HB.out.box
    have g1:¬ (d:Int)<0:=by omega
    have g2:¬ (N:Int)<(d:Int):=by omega
    clear c2 tf
    obtain ⟨TD,hTD,hTD2⟩:∃ TD:Nat,(T:Int)+(d:Int)=(TD:Int)∧TD=T+d:=⟨T+d,by omega,rfl⟩
    have HTD2:=Zac hTD2
    have hTDb:TD≤6001:=by omega
    clear hTD2
    obtain ⟨sM,hsM⟩:∃ z,z=M.status:=⟨_,rfl⟩
    have hsM3:sM≤3:=by rw [hsM]; exact HB.out.inv.st
    rw [← hsM] at hless hsome
    have HsM:=Zac hsM
    have HB2:Hid (AftAt V (w1.setCell ⟨w.heap.size+1,2,none⟩ (.int .i64 TD)) b (w.heap.size+1) x x2 cs a M (.slice aa A.length ac) (.slice wa W.length wc) TD st (.slice aa A.length ac) A (.slice wa W.length wc) W):=HB.out.put ((Qx _ _).put 2 _) (Zaf HB.out.box 2 _)
    have HSt:=Zac (Znw _ b x2 cs a M HB2.out.sr)
    rw [← hsM] at HSt
    have HB3:Hid (AftAt V ((w1.setCell ⟨w.heap.size+1,2,none⟩ (.int .i64 TD)).setCell ⟨w.heap.size+1,3,none⟩ (.int .i64 sM)) b (w.heap.size+1) x x2 cs a M (.slice aa A.length ac) (.slice wa W.length wc) TD sM (.slice aa A.length ac) A (.slice wa W.length wc) W):=HB2.out.put ((Qx _ _).put 3 _) (Zaf HB2.out.box 3 _)
    have HAn:=Zac (Zny _ b x2 cs q a M HB3.out.sr HB3.out.inv Hask.out)
    obtain ⟨hX,hY,hZ⟩:=Zle HB3.out.inv HB3.out.fw
    rw [← hsM] at hX hY hZ
    rw [← hsM] at HAn
    obtain ⟨X,hXe⟩:∃ X,X=(Zdd a sM M.found M.tree).1:=⟨_,rfl⟩
    obtain ⟨Y,hYe⟩:∃ Y,Y=(Zdd a sM M.found M.tree).2.1:=⟨_,rfl⟩
    rw [← hXe] at HAn hX
    rw [← hYe] at hY
    have HXY:Hid (X=(Zdd a sM M.found M.tree).1∧Y=(Zdd a sM M.found M.tree).2.1):=⟨hXe,hYe⟩
    clear hXe hYe hsM hN0
    go_wp2_with fail
    refine HSt.out.mono ?_
    rintro e w2 ⟨rfl,rfl⟩
    go_wp2_with fail
    refine HAn.out.mono ?_
    rintro e w4 ⟨rfl,hE4⟩
    have HB4:=Zac (HB3.out.ext hE4)
    have HWa:=Zac (Zlz w4 b x2 cs a M HB4.out.sr HB4.out.inv hcl)
    rw [← HsM.out,← HXY.out.2] at HWa
    obtain ⟨d0,d1,d2,d3,d4⟩:w4.cell? ⟨w.heap.size+1,0,none⟩=some (.slice aa A.length ac)∧w4.cell? ⟨w.heap.size+1,1,none⟩=some (.slice wa W.length wc)∧w4.cell? ⟨w.heap.size+1,2,none⟩=some (.int .i64 TD)∧w4.cell? ⟨w.heap.size+1,3,none⟩=some (.int .i64 sM)∧w4.cell? ⟨w.heap.size+1,4,none⟩=some (.string ⟨#[]⟩):=⟨Zaa HB4.out.box 0 _ rfl,Zaa HB4.out.box 1 _ rfl,Zaa HB4.out.box 2 _ rfl,Zaa HB4.out.box 3 _ rfl,Zaa HB4.out.box 4 _ rfl⟩
    have df:=fun i=>Zad HB4.out.box i
    have dl:=Zab HB4.out.box
    clear hE4 HB HB2 HB3 HAn HSt b2 b3 bf bl g1 g2
    go_wp2_with fail
    refine HWa.out.mono ?_
    rintro e w5 ⟨rfl,h5⟩
    obtain rfl:w4=w5:=h5.symm
    by_cases h1:sM=1
    ·subst h1
     have hXn:X≠[]:=fun e=>by have:=hX.1 e; omega
     have hYn:Y≠[]:=fun e=>by have:=hY.1 e; omega
     have hXi:X.isEmpty=false:=by simpa using hXn
     have hYi:Y.isEmpty=false:=by simpa using hYn
     have hd0:d≠0:=hsome (Or.inr rfl)
     have hd1:((d:Int) == 0)=false:=by rw [Qu]; omega
     have dV:V.heap.size≤w4.heap.size:=HB4.out.kept.size
     have HE:Hid (∀ w9 aa' ac' wa' wc',AftAt V w9 b (w.heap.size+1) x x2 cs a M (.slice aa' (A.length+1) ac') (.slice wa' (W.length+1) wc') TD 1 (.slice aa' (A.length+1) ac') (A++[X]) (.slice wa' (W.length+1) wc') (W++[Y])→∃ (m':SN) (x':CX) (t:Tr) (aa:Option Addr) (ac:Nat) (wa:Option Addr) (wc:Nat),t.tries≤tries∧tries - t.tries<gk - 1∧(m'.status=0∨m'.status=1)∧t.status=m'.status∧t.ans.length≤t.tries∧t.wts.length≤t.tries∧R=aftN cs a tries size (gk - 1) m' t∧AftAt V w9 b (w.heap.size+1) x x' cs a m' (.slice aa t.ans.length ac) (.slice wa t.wts.length wc) t.tries t.status (.slice aa t.ans.length ac) t.ans (.slice wa t.wts.length wc) t.wts):=fun w9 aa' ac' wa' wc' h9=>by
      have e:=HTD2.out
      refine ⟨M,x2,⟨A++[X],W++[Y],TD,1⟩,aa',ac',wa',wc',by simp only; omega,by simp only; omega,Or.inr HsM.out.symm,HsM.out,by simp only [Qg,Qn]; omega,by simp only [Qg,Qn]; omega,?_,by simpa using h9⟩
      rw [Hrec.out,if_neg (by rw [← HsM.out]; omega)]
      unfold addN
      simp only
      rw [if_pos HsM.out.symm,← HsM.out,← HXY.out.1,← HXY.out.2,← e]
     clear hX hY hZ hless hsome hd0
     go_wp2_with (at_builtin; go_loud (refine Zal w4 rfl (.tmp 76) (.tmp 78) 47 rfl V.heap.size 9 Tryz.infoStr Tryz.underlying47 rfl (by decide) (.slice aa A.length ac) A.length (strs A) rfl HB4.out.ans #[.string ⟨X.toArray⟩] (N:=w4.heap.size) rfl rfl rfl (by simp [Value.oneCell']) ?_ ?_ ?_))
     ·omega
     ·exact dV
     intro av' w6 hA6
     obtain ⟨aa6,ac6,rfl⟩:=Zae hA6.owns
     have HB6:=Zac (HB4.out.app1 hA6)
     have e0:w6.cell? ⟨w.heap.size+1,0,none⟩=some (.slice aa A.length ac):=Zaa HB6.out.box 0 _ rfl
     have e1:w6.cell? ⟨w.heap.size+1,1,none⟩=some (.slice wa W.length wc):=Zaa HB6.out.box 1 _ rfl
     have ef:=fun i=>Zad HB6.out.box i
     have el:=Zab HB6.out.box
     have HB7:Hid (AftAt V (w6.setCell ⟨w.heap.size+1,0,none⟩ (.slice aa6 (A.length+1) ac6)) b (w.heap.size+1) x x2 cs a M (.slice aa6 (A.length+1) ac6) (.slice wa W.length wc) TD 1 (.slice aa6 (A.length+1) ac6) (A++[X]) (.slice wa W.length wc) W):=HB6.out.put ((Qx _ _).put 0 _) (Zaf HB6.out.box 0 _)
     have kV:=HB7.out.kept.size
     have HW7:=Zac HB7.out.wts
     clear hA6 d0 d1 d2 d3 d4 df dl dV
     go_wp2_with (at_builtin; go_loud (refine Zal (w6.setCell ⟨w.heap.size+1,0,none⟩ (.slice aa6 (A.length+1) ac6)) rfl (.tmp 82) (.tmp 84) 47 rfl V.heap.size 9 Tryz.infoStr Tryz.underlying47 rfl (by decide) (.slice wa W.length wc) W.length (strs W) rfl HW7.out #[.string ⟨Y.toArray⟩] rfl (by simp) rfl (by simp [Value.oneCell']) ?_ ?_ ?_))
     ·omega
     ·exact kV
     intro wv' w8 hA8
     obtain ⟨wa8,wc8,rfl⟩:=Zae hA8.owns
     have HB8:=Zac (HB7.out.app2 hA8)
     have i1:w8.cell? ⟨w.heap.size+1,1,none⟩=some (.slice wa W.length wc):=Zaa HB8.out.box 1 _ rfl
     have i3:w8.cell? ⟨w.heap.size+1,3,none⟩=some (.int .i64 1):=Zaa HB8.out.box 3 _ rfl
     have if':=fun i=>Zad HB8.out.box i
     have il:=Zab HB8.out.box
     have HB9:Hid (AftAt V (w8.setCell ⟨w.heap.size+1,1,none⟩ (.slice wa8 (W.length+1) wc8)) b (w.heap.size+1) x x2 cs a M (.slice aa6 (A.length+1) ac6) (.slice wa8 (W.length+1) wc8) TD 1 (.slice aa6 (A.length+1) ac6) (A++[X]) (.slice wa8 (W.length+1) wc8) (W++[Y])):=HB8.out.put ((Qx _ _).put 1 _) (Zaf HB8.out.box 1 _)
     clear hA8 e0 e1 ef el kV
     go_wp2
     all_goals
      go_roundg (gk - 1)
      case measure=>omega
      case rel=>exact HE.out _ _ _ _ _ HB9.out
    ·obtain rfl:X=[]:=hX.2 h1
     obtain rfl:Y=[]:=hY.2 h1
     by_cases h0:sM=0
     ·subst h0
      have hd0:d≠0:=hsome (Or.inl rfl)
      have hd1:((d:Int) == 0)=false:=by rw [Qu]; omega
      obtain rfl:d=N:=by
       rcases Nat.lt_or_ge d N with h | h
       ·exact absurd rfl (hless h)
       ·omega
      have HE:Hid (∃ (m':SN) (x':CX) (t:Tr) (aa:Option Addr) (ac:Nat) (wa:Option Addr) (wc:Nat),t.tries≤tries∧tries - t.tries<gk - 1∧(m'.status=0∨m'.status=1)∧t.status=m'.status∧t.ans.length≤t.tries∧t.wts.length≤t.tries∧R=aftN cs a tries size (gk - 1) m' t∧AftAt V w4 b (w.heap.size+1) x x' cs a m' (.slice aa t.ans.length ac) (.slice wa t.wts.length wc) t.tries t.status (.slice aa t.ans.length ac) t.ans (.slice wa t.wts.length wc) t.wts):=by
       have e:=HTD2.out
       refine ⟨M,x2,⟨A,W,TD,0⟩,aa,ac,wa,wc,by simp only; omega,by simp only; omega,Or.inl HsM.out.symm,HsM.out,by simp only; omega,by simp only; omega,?_,HB4.out⟩
       rw [Hrec.out,if_neg (by rw [← HsM.out]; omega)]
       unfold addN
       simp only
       rw [if_neg (by rw [← HsM.out]; omega),← HsM.out,← e]
      clear hX hY hZ hless hsome hd0
      go_wp2
      all_goals
       go_roundg (gk - 1)
       case measure=>omega
       case rel=>exact HE.out
     ·have hsM2:sM=2∨sM=3:=by omega
      have HTr:=Zac (Znx w4 b x2 cs a M HB4.out.sr)
      rw [← HsM.out] at HTr
      obtain ⟨Q,hQ⟩:∃ Q,Q=(Zdd a sM M.found M.tree).2.2:=⟨_,rfl⟩
      rw [← hQ] at HTr hZ
      have HQ:=Zac hQ
      have hbb:=Hbr.out w4 HB4.out.kept
      have Hbb:=Zac hbb
      obtain ⟨r0,r1,r2,r3,r4⟩:w4.cell? ⟨w.heap.size,0,none⟩=some (.slice none 0 0)∧w4.cell? ⟨w.heap.size,1,none⟩=some (.slice none 0 0)∧w4.cell? ⟨w.heap.size,2,none⟩=some (.int .i64 0)∧w4.cell? ⟨w.heap.size,3,none⟩=some (.int .i64 0)∧w4.cell? ⟨w.heap.size,4,none⟩=some (.string ⟨#[]⟩):=⟨Zaa hbb 0 _ rfl,Zaa hbb 1 _ rfl,Zaa hbb 2 _ rfl,Zaa hbb 3 _ rfl,Zaa hbb 4 _ rfl⟩
      have rf:=fun i=>Zad hbb i
      have Hfin:Hid (∀ Z,Kept (fun k=>k=w.heap.size+1∨k=w.heap.size) w4 Z→Zyo w b x cs a R (.returned (.tuple #[.agg #[.slice aa A.length ac,.slice wa W.length wc,.int .i64 TD,.int .i64 sM,.string ⟨Q.toArray⟩],.bool true])) Z):=fun Z hZ=>by
       have e:R=(M,⟨A,W,TD,sM⟩):=by
        have e:=HTD2.out
        rw [Hrec.out,if_pos (by rw [← HsM.out]; exact hsM2)]
        unfold addN
        simp only
        rw [if_neg (by rw [← HsM.out]; exact h1),← HsM.out,← e]
       obtain ⟨k1,k2,k3,k4,k5⟩:=HB4.out.fin Hbb.out (Qe _) HEV.out hZ
       rw [e]
       exact ⟨k1,k2,k3,aa,ac,wa,wc,by simp only; rw [← HsM.out,← HQ.out],k4,k5⟩
      clear hbb hQ
      rcases hsM2 with rfl | rfl
      ·have hQi:Q.isEmpty=false:=by
        have:Q≠[]:=fun e=>absurd rfl (hZ.1 e)
        simpa using this
       clear hX hY hZ hless hsome h1 h0
       go_wp2_with fail
       refine HTr.out.mono ?_
       rintro e w6 ⟨rfl,h6⟩
       obtain rfl:w4=w6:=h6.symm
       go_wp2_with fail
       go_region
       go_wp2
       refine bodyPost_ret (v := .tuple #[.agg #[.slice aa A.length ac,.slice wa W.length wc,.int .i64 TD,.int .i64 (2:Nat),.string ⟨Q.toArray⟩],.bool true]) (by simp [results,Tryz.results33,go_sem,r0,r1,r2,r3,r4,d0,d1,d2,d3,d4,rf,df,dl]) rfl ?_
       exact Hfin.out _ (by repeat (first | with_reducible exact Qx _ _ | with_reducible apply Kept.drew | with_reducible refine Qy ?_ (fun _=>by simp) _))
      ·obtain rfl:Q=[]:=hZ.2 (by omega)
       clear hX hY hZ hless hsome h1 h0
       go_wp2_with fail
       refine HTr.out.mono ?_
       rintro e w6 ⟨rfl,h6⟩
       obtain rfl:w4=w6:=h6.symm
       go_wp2_with fail
       go_region
       go_wp2
       refine bodyPost_ret (v := .tuple #[.agg #[.slice aa A.length ac,.slice wa W.length wc,.int .i64 TD,.int .i64 (3:Nat),.string ⟨#[]⟩],.bool true]) (by simp [results,Tryz.results33,go_sem,r0,r1,r2,r3,r4,d0,d1,d2,d3,d4,rf,df,dl]) rfl ?_
       exact Hfin.out _ (by repeat (first | with_reducible exact Qx _ _ | with_reducible apply Kept.drew | with_reducible refine Qy ?_ (fun _=>by simp) _))
   ·have hI1:¬ (tries:Int) - (T:Int)<(size:Int):=by omega
    obtain rfl:size=N:=by rw [hN]; unfold Zhi; rw [if_neg (by omega)]
    clear hN
    go_wp2_with fail
    refine HS.out.mono ?_
    rintro e w1 ⟨rfl,x2,hK,hC,hNw⟩
    have HB:=Zac (HA1.out w1 x2 hK hC hNw)
    clear hK hC hNw HS HA1
    have b2:w1.cell? ⟨w.heap.size+1,2,none⟩=some (.int .i64 T):=Zaa HB.out.box 2 _ rfl
    have b3:w1.cell? ⟨w.heap.size+1,3,none⟩=some (.int .i64 st):=Zaa HB.out.box 3 _ rfl
    have bf:=fun i=>Zad HB.out.box i
    have bl:=Zab HB.out.box
    have g1:¬ (d:Int)<0:=by omega
    have g2:¬ (size:Int)<(d:Int):=by omega
    clear c2 tf
    obtain ⟨TD,hTD,hTD2⟩:∃ TD:Nat,(T:Int)+(d:Int)=(TD:Int)∧TD=T+d:=⟨T+d,by omega,rfl⟩
    have HTD2:=Zac hTD2
    have hTDb:TD≤6001:=by omega
    clear hTD2
    obtain ⟨sM,hsM⟩:∃ z,z=M.status:=⟨_,rfl⟩
    have hsM3:sM≤3:=by rw [hsM]; exact HB.out.inv.st
    rw [← hsM] at hless hsome
    have HsM:=Zac hsM
    have HB2:Hid (AftAt V (w1.setCell ⟨w.heap.size+1,2,none⟩ (.int .i64 TD)) b (w.heap.size+1) x x2 cs a M (.slice aa A.length ac) (.slice wa W.length wc) TD st (.slice aa A.length ac) A (.slice wa W.length wc) W):=HB.out.put ((Qx _ _).put 2 _) (Zaf HB.out.box 2 _)
    have HSt:=Zac (Znw _ b x2 cs a M HB2.out.sr)
    rw [← hsM] at HSt
    have HB3:Hid (AftAt V ((w1.setCell ⟨w.heap.size+1,2,none⟩ (.int .i64 TD)).setCell ⟨w.heap.size+1,3,none⟩ (.int .i64 sM)) b (w.heap.size+1) x x2 cs a M (.slice aa A.length ac) (.slice wa W.length wc) TD sM (.slice aa A.length ac) A (.slice wa W.length wc) W):=HB2.out.put ((Qx _ _).put 3 _) (Zaf HB2.out.box 3 _)
    have HAn:=Zac (Zny _ b x2 cs q a M HB3.out.sr HB3.out.inv Hask.out)
    obtain ⟨hX,hY,hZ⟩:=Zle HB3.out.inv HB3.out.fw
    rw [← hsM] at hX hY hZ
    rw [← hsM] at HAn
    obtain ⟨X,hXe⟩:∃ X,X=(Zdd a sM M.found M.tree).1:=⟨_,rfl⟩
    obtain ⟨Y,hYe⟩:∃ Y,Y=(Zdd a sM M.found M.tree).2.1:=⟨_,rfl⟩
    rw [← hXe] at HAn hX
    rw [← hYe] at hY
    have HXY:Hid (X=(Zdd a sM M.found M.tree).1∧Y=(Zdd a sM M.found M.tree).2.1):=⟨hXe,hYe⟩
    clear hXe hYe hsM hN0
    go_wp2_with fail
    refine HSt.out.mono ?_
    rintro e w2 ⟨rfl,rfl⟩
    go_wp2_with fail
    refine HAn.out.mono ?_
    rintro e w4 ⟨rfl,hE4⟩
    have HB4:=Zac (HB3.out.ext hE4)
    have HWa:=Zac (Zlz w4 b x2 cs a M HB4.out.sr HB4.out.inv hcl)
    rw [← HsM.out,← HXY.out.2] at HWa
    obtain ⟨d0,d1,d2,d3,d4⟩:w4.cell? ⟨w.heap.size+1,0,none⟩=some (.slice aa A.length ac)∧w4.cell? ⟨w.heap.size+1,1,none⟩=some (.slice wa W.length wc)∧w4.cell? ⟨w.heap.size+1,2,none⟩=some (.int .i64 TD)∧w4.cell? ⟨w.heap.size+1,3,none⟩=some (.int .i64 sM)∧w4.cell? ⟨w.heap.size+1,4,none⟩=some (.string ⟨#[]⟩):=⟨Zaa HB4.out.box 0 _ rfl,Zaa HB4.out.box 1 _ rfl,Zaa HB4.out.box 2 _ rfl,Zaa HB4.out.box 3 _ rfl,Zaa HB4.out.box 4 _ rfl⟩
    have df:=fun i=>Zad HB4.out.box i
    have dl:=Zab HB4.out.box
    clear hE4 HB HB2 HB3 HAn HSt b2 b3 bf bl g1 g2
    go_wp2_with fail
    refine HWa.out.mono ?_
    rintro e w5 ⟨rfl,h5⟩
    obtain rfl:w4=w5:=h5.symm
    by_cases h1:sM=1
    ·subst h1
     have hXn:X≠[]:=fun e=>by have:=hX.1 e; omega
     have hYn:Y≠[]:=fun e=>by have:=hY.1 e; omega
     have hXi:X.isEmpty=false:=by simpa using hXn
     have hYi:Y.isEmpty=false:=by simpa using hYn
     have hd0:d≠0:=hsome (Or.inr rfl)
     have hd1:((d:Int) == 0)=false:=by rw [Qu]; omega
     have dV:V.heap.size≤w4.heap.size:=HB4.out.kept.size
     have HE:Hid (∀ w9 aa' ac' wa' wc',AftAt V w9 b (w.heap.size+1) x x2 cs a M (.slice aa' (A.length+1) ac') (.slice wa' (W.length+1) wc') TD 1 (.slice aa' (A.length+1) ac') (A++[X]) (.slice wa' (W.length+1) wc') (W++[Y])→∃ (m':SN) (x':CX) (t:Tr) (aa:Option Addr) (ac:Nat) (wa:Option Addr) (wc:Nat),t.tries≤tries∧tries - t.tries<gk - 1∧(m'.status=0∨m'.status=1)∧t.status=m'.status∧t.ans.length≤t.tries∧t.wts.length≤t.tries∧R=aftN cs a tries size (gk - 1) m' t∧AftAt V w9 b (w.heap.size+1) x x' cs a m' (.slice aa t.ans.length ac) (.slice wa t.wts.length wc) t.tries t.status (.slice aa t.ans.length ac) t.ans (.slice wa t.wts.length wc) t.wts):=fun w9 aa' ac' wa' wc' h9=>by
      have e:=HTD2.out
      refine ⟨M,x2,⟨A++[X],W++[Y],TD,1⟩,aa',ac',wa',wc',by simp only; omega,by simp only; omega,Or.inr HsM.out.symm,HsM.out,by simp only [Qg,Qn]; omega,by simp only [Qg,Qn]; omega,?_,by simpa using h9⟩
      rw [Hrec.out,if_neg (by rw [← HsM.out]; omega)]
      unfold addN
      simp only
      rw [if_pos HsM.out.symm,← HsM.out,← HXY.out.1,← HXY.out.2,← e]
     clear hX hY hZ hless hsome hd0
     go_wp2_with (at_builtin; go_loud (refine Zal w4 rfl (.tmp 76) (.tmp 78) 47 rfl V.heap.size 9 Tryz.infoStr Tryz.underlying47 rfl (by decide) (.slice aa A.length ac) A.length (strs A) rfl HB4.out.ans #[.string ⟨X.toArray⟩] (N:=w4.heap.size) rfl rfl rfl (by simp [Value.oneCell']) ?_ ?_ ?_))
     ·omega
     ·exact dV
     intro av' w6 hA6
     obtain ⟨aa6,ac6,rfl⟩:=Zae hA6.owns
     have HB6:=Zac (HB4.out.app1 hA6)
     have e0:w6.cell? ⟨w.heap.size+1,0,none⟩=some (.slice aa A.length ac):=Zaa HB6.out.box 0 _ rfl
     have e1:w6.cell? ⟨w.heap.size+1,1,none⟩=some (.slice wa W.length wc):=Zaa HB6.out.box 1 _ rfl
     have ef:=fun i=>Zad HB6.out.box i
     have el:=Zab HB6.out.box
     have HB7:Hid (AftAt V (w6.setCell ⟨w.heap.size+1,0,none⟩ (.slice aa6 (A.length+1) ac6)) b (w.heap.size+1) x x2 cs a M (.slice aa6 (A.length+1) ac6) (.slice wa W.length wc) TD 1 (.slice aa6 (A.length+1) ac6) (A++[X]) (.slice wa W.length wc) W):=HB6.out.put ((Qx _ _).put 0 _) (Zaf HB6.out.box 0 _)
     have kV:=HB7.out.kept.size
     have HW7:=Zac HB7.out.wts
     clear hA6 d0 d1 d2 d3 d4 df dl dV
     go_wp2_with (at_builtin; go_loud (refine Zal (w6.setCell ⟨w.heap.size+1,0,none⟩ (.slice aa6 (A.length+1) ac6)) rfl (.tmp 82) (.tmp 84) 47 rfl V.heap.size 9 Tryz.infoStr Tryz.underlying47 rfl (by decide) (.slice wa W.length wc) W.length (strs W) rfl HW7.out #[.string ⟨Y.toArray⟩] rfl (by simp) rfl (by simp [Value.oneCell']) ?_ ?_ ?_))
     ·omega
     ·exact kV
     intro wv' w8 hA8
     obtain ⟨wa8,wc8,rfl⟩:=Zae hA8.owns
     have HB8:=Zac (HB7.out.app2 hA8)
     have i1:w8.cell? ⟨w.heap.size+1,1,none⟩=some (.slice wa W.length wc):=Zaa HB8.out.box 1 _ rfl
     have i3:w8.cell? ⟨w.heap.size+1,3,none⟩=some (.int .i64 1):=Zaa HB8.out.box 3 _ rfl
     have if':=fun i=>Zad HB8.out.box i
     have il:=Zab HB8.out.box
     have HB9:Hid (AftAt V (w8.setCell ⟨w.heap.size+1,1,none⟩ (.slice wa8 (W.length+1) wc8)) b (w.heap.size+1) x x2 cs a M (.slice aa6 (A.length+1) ac6) (.slice wa8 (W.length+1) wc8) TD 1 (.slice aa6 (A.length+1) ac6) (A++[X]) (.slice wa8 (W.length+1) wc8) (W++[Y])):=HB8.out.put ((Qx _ _).put 1 _) (Zaf HB8.out.box 1 _)
     clear hA8 e0 e1 ef el kV
     go_wp2
     all_goals
      go_roundg (gk - 1)
      case measure=>omega
      case rel=>exact HE.out _ _ _ _ _ HB9.out
    ·obtain rfl:X=[]:=hX.2 h1
     obtain rfl:Y=[]:=hY.2 h1
     by_cases h0:sM=0
     ·subst h0
      have hd0:d≠0:=hsome (Or.inl rfl)
      have hd1:((d:Int) == 0)=false:=by rw [Qu]; omega
      obtain rfl:size=d:=by
       rcases Nat.lt_or_ge d size with h | h
       ·exact absurd rfl (hless h)
       ·omega
      have HE:Hid (∃ (m':SN) (x':CX) (t:Tr) (aa:Option Addr) (ac:Nat) (wa:Option Addr) (wc:Nat),t.tries≤tries∧tries - t.tries<gk - 1∧(m'.status=0∨m'.status=1)∧t.status=m'.status∧t.ans.length≤t.tries∧t.wts.length≤t.tries∧R=aftN cs a tries size (gk - 1) m' t∧AftAt V w4 b (w.heap.size+1) x x' cs a m' (.slice aa t.ans.length ac) (.slice wa t.wts.length wc) t.tries t.status (.slice aa t.ans.length ac) t.ans (.slice wa t.wts.length wc) t.wts):=by
       have e:=HTD2.out
       refine ⟨M,x2,⟨A,W,TD,0⟩,aa,ac,wa,wc,by simp only; omega,by simp only; omega,Or.inl HsM.out.symm,HsM.out,by simp only; omega,by simp only; omega,?_,HB4.out⟩
       rw [Hrec.out,if_neg (by rw [← HsM.out]; omega)]
       unfold addN
       simp only
       rw [if_neg (by rw [← HsM.out]; omega),← HsM.out,← e]
      clear hX hY hZ hless hsome hd0
      go_wp2
      all_goals
       go_roundg (gk - 1)
       case measure=>omega
       case rel=>exact HE.out
     ·have hsM2:sM=2∨sM=3:=by omega
      have HTr:=Zac (Znx w4 b x2 cs a M HB4.out.sr)
      rw [← HsM.out] at HTr
      obtain ⟨Q,hQ⟩:∃ Q,Q=(Zdd a sM M.found M.tree).2.2:=⟨_,rfl⟩
      rw [← hQ] at HTr hZ
      have HQ:=Zac hQ
      have hbb:=Hbr.out w4 HB4.out.kept
      have Hbb:=Zac hbb
      obtain ⟨r0,r1,r2,r3,r4⟩:w4.cell? ⟨w.heap.size,0,none⟩=some (.slice none 0 0)∧w4.cell? ⟨w.heap.size,1,none⟩=some (.slice none 0 0)∧w4.cell? ⟨w.heap.size,2,none⟩=some (.int .i64 0)∧w4.cell? ⟨w.heap.size,3,none⟩=some (.int .i64 0)∧w4.cell? ⟨w.heap.size,4,none⟩=some (.string ⟨#[]⟩):=⟨Zaa hbb 0 _ rfl,Zaa hbb 1 _ rfl,Zaa hbb 2 _ rfl,Zaa hbb 3 _ rfl,Zaa hbb 4 _ rfl⟩
      have rf:=fun i=>Zad hbb i
      have Hfin:Hid (∀ Z,Kept (fun k=>k=w.heap.size+1∨k=w.heap.size) w4 Z→Zyo w b x cs a R (.returned (.tuple #[.agg #[.slice aa A.length ac,.slice wa W.length wc,.int .i64 TD,.int .i64 sM,.string ⟨Q.toArray⟩],.bool true])) Z):=fun Z hZ=>by
       have e:R=(M,⟨A,W,TD,sM⟩):=by
        have e:=HTD2.out
        rw [Hrec.out,if_pos (by rw [← HsM.out]; exact hsM2)]
        unfold addN
        simp only
        rw [if_neg (by rw [← HsM.out]; exact h1),← HsM.out,← e]
       obtain ⟨k1,k2,k3,k4,k5⟩:=HB4.out.fin Hbb.out (Qe _) HEV.out hZ
       rw [e]
       exact ⟨k1,k2,k3,aa,ac,wa,wc,by simp only; rw [← HsM.out,← HQ.out],k4,k5⟩
      clear hbb hQ
      rcases hsM2 with rfl | rfl
      ·have hQi:Q.isEmpty=false:=by
        have:Q≠[]:=fun e=>absurd rfl (hZ.1 e)
        simpa using this
       clear hX hY hZ hless hsome h1 h0
       go_wp2_with fail
       refine HTr.out.mono ?_
       rintro e w6 ⟨rfl,h6⟩
       obtain rfl:w4=w6:=h6.symm
       go_wp2_with fail
       go_region
       go_wp2
       refine bodyPost_ret (v := .tuple #[.agg #[.slice aa A.length ac,.slice wa W.length wc,.int .i64 TD,.int .i64 (2:Nat),.string ⟨Q.toArray⟩],.bool true]) (by simp [results,Tryz.results33,go_sem,r0,r1,r2,r3,r4,d0,d1,d2,d3,d4,rf,df,dl]) rfl ?_
       exact Hfin.out _ (by repeat (first | with_reducible exact Qx _ _ | with_reducible apply Kept.drew | with_reducible refine Qy ?_ (fun _=>by simp) _))
      ·obtain rfl:Q=[]:=hZ.2 (by omega)
       clear hX hY hZ hless hsome h1 h0
       go_wp2_with fail
       refine HTr.out.mono ?_
       rintro e w6 ⟨rfl,h6⟩
       obtain rfl:w4=w6:=h6.symm
       go_wp2_with fail
       go_region
       go_wp2
       refine bodyPost_ret (v := .tuple #[.agg #[.slice aa A.length ac,.slice wa W.length wc,.int .i64 TD,.int .i64 (3:Nat),.string ⟨#[]⟩],.bool true]) (by simp [results,Tryz.results33,go_sem,r0,r1,r2,r3,r4,d0,d1,d2,d3,d4,rf,df,dl]) rfl ?_
       exact Hfin.out _ (by repeat (first | with_reducible exact Qx _ _ | with_reducible apply Kept.drew | with_reducible refine Qy ?_ (fun _=>by simp) _))
  ·have HTr:=Zac (Znx wr b x1 cs a m1 HA.out.sr)
   have hbb:=Hbr.out wr HA.out.kept
   have Hbb:=Zac hbb
   obtain ⟨r0,r1,r2,r3,r4⟩:wr.cell? ⟨w.heap.size,0,none⟩=some (.slice none 0 0)∧wr.cell? ⟨w.heap.size,1,none⟩=some (.slice none 0 0)∧wr.cell? ⟨w.heap.size,2,none⟩=some (.int .i64 0)∧wr.cell? ⟨w.heap.size,3,none⟩=some (.int .i64 0)∧wr.cell? ⟨w.heap.size,4,none⟩=some (.string ⟨#[]⟩):=⟨Zaa hbb 0 _ rfl,Zaa hbb 1 _ rfl,Zaa hbb 2 _ rfl,Zaa hbb 3 _ rfl,Zaa hbb 4 _ rfl⟩
   have rf:=fun i=>Zad hbb i
   have tf:=fun i=>Zad HA.out.box i
   have c0:wr.cell? ⟨w.heap.size+1,0,none⟩=some (.slice aa A.length ac):=Zaa HA.out.box 0 _ rfl
   have c1:wr.cell? ⟨w.heap.size+1,1,none⟩=some (.slice wa W.length wc):=Zaa HA.out.box 1 _ rfl
   have c3:wr.cell? ⟨w.heap.size+1,3,none⟩=some (.int .i64 st):=Zaa HA.out.box 3 _ rfl
   have c4:wr.cell? ⟨w.heap.size+1,4,none⟩=some (.string ⟨#[]⟩):=Zaa HA.out.box 4 _ rfl
   have Htold:Hid ((Zdd a m1.status m1.found m1.tree).2.2=[]):=(Zle HA.out.inv HA.out.fw).2.2.2 (by rw [← Hst.out]; omega)
   rw [Htold.out] at HTr
   have hst3:((st:Int) != 2)=true:=by rw [bne_iff_ne]; omega
   clear hbb
   have Hfin:Hid (∀ Z,Kept (fun k=>k=w.heap.size+1∨k=w.heap.size) wr Z→Zyo w b x cs a R (.returned (.tuple #[.agg #[.slice aa A.length ac,.slice wa W.length wc,.int .i64 T,.int .i64 st,.string ⟨#[]⟩],.bool true])) Z):=fun Z hZ=>by
    have e:R=(m1,⟨A,W,T,st⟩):=by
     rw [HRe.out]
     obtain ⟨f,rfl⟩:∃ f,gk=f+1:=⟨gk - 1,by omega⟩
     simp only [aftN]
     rw [if_neg hlt]
    obtain ⟨k1,k2,k3,k4,k5⟩:=HA.out.fin Hbb.out (Qe _) HEV.out hZ
    rw [e]
    exact ⟨k1,k2,k3,aa,ac,wa,wc,by simp only; rw [Htold.out],k4,k5⟩
   go_wp2_with fail
   refine HTr.out.mono ?_
   rintro e w1 ⟨rfl,rfl⟩
   go_wp2_with fail
   go_region
   go_wp2
   refine bodyPost_ret (v := .tuple #[.agg #[.slice aa A.length ac,.slice wa W.length wc,.int .i64 T,.int .i64 st,.string ⟨#[]⟩],.bool true]) (by simp [results,Tryz.results33,go_sem,r0,r1,r2,r3,r4,c0,c1,c2,c3,c4,rf,tf,hst3,hbt]) rfl ?_
   exact Hfin.out _ (by repeat (first | with_reducible exact Qx _ _ | with_reducible apply Kept.drew | with_reducible refine Qy ?_ (fun _=>by simp) _))
def NewC (p q:ByteArray) (w:World) (e:Ending) (w':World):Prop:=Ext w w' ∧
 ((Zci p=none∧e = .returned (.tuple #[.pointer none,.int .i64 4])) ∨
 ((∃ cs,Zci p=some cs)∧Zep q=none∧e = .returned (.tuple #[.pointer none,.int .i64 5])) ∨
 (∃ cs a b,∃ x:CX,Zci p=some cs∧Zep q=some a∧e = .returned (.tuple #[.pointer (some ⟨b,0,none⟩),.int .i64 0])∧(∀ k,ownS b x k→w.heap.size≤k)∧CSr w' b x cs a (newN cs a)))
theorem Yle {a:List (List Sym) × Names} (hN:NOk (topN a)) (han:a.2.length≤121):∀ l ∈ a.1,TmOk l:=fun l hl=>by
 have hlt:l ∈ (topN a).terms:=by
  unfold ND.terms topN
  refine List.mem_append_left _ ?_
  simp
  exact hl
 have hg:=(hN.gs (l,0) (by unfold topN; simp; exact hl)).1
 exact Zns (hN.wf l hlt) (by have h':l.length≤30:=hg; omega) (hN.occ l hlt) (by have:(topN a).vars=a.2.length:=rfl; omega)
theorem Yjw (p q:ByteArray) (w:World) (hp:p.size≤maxLen) (hq:q.size≤maxLen):Calls Tryz.prog 32 #[.string p,.string q] w (NewC p q w):=by
 have HB:=Zac (Znr p q w hp hq)
 clear hp hq
 go_enter Tryz.func32,Tryz.ntmps32
 go_wp2_with fail
 refine HB.out.mono ?_
 rintro e w1 ⟨hE1,hB⟩
 have HE1:=Zac hE1
 have hs1:=hE1.size
 clear hE1
 rcases hB with ⟨hno,rfl⟩ | ⟨⟨cs,hsome⟩,hno,rfl⟩ | ⟨cs,a,l1,lc,xs,h1,h2,h3,b1,bc,n1,nc,hsome,hask,rfl,hP,hT,hns⟩
 ·have Hno:=Zac hno
  clear hno
  go_wp2
  go_ret2
  exact ⟨HE1.out.trans (((Ext.of (by repeat' (first | with_reducible(first|exact Qx _ _|apply Kept.drew|apply Kept.drewN|apply Qz|refine Qy ?_ ?_ _)|exact fun h=>absurd h (by simp <;> omega)))):Ext w1 (w1.alloc _)).mono hs1),Or.inl ⟨Hno.out,rfl⟩⟩
 ·have Hno:=Zac hno
  have Hsome:=Zac hsome
  clear hno hsome
  go_wp2
  go_ret2
  exact ⟨HE1.out.trans (((Ext.of (by repeat' (first | with_reducible(first|exact Qx _ _|apply Kept.drew|apply Kept.drewN|apply Qz|refine Qy ?_ ?_ _)|exact fun h=>absurd h (by simp <;> omega)))):Ext w1 (w1.alloc _)).mono hs1),Or.inr (Or.inl ⟨⟨cs,Hsome.out⟩,Hno.out,rfl⟩)⟩
 ·obtain ⟨_,_,_,hcs,hcl⟩:=Zej hsome
  obtain ⟨_,_,_,hOk,hNm,ha1,ha2,ha3,_⟩:=Zdx hask
  have hFw:=Zwh hask
  obtain ⟨W2,hW2⟩:∃ W2,W2=(w1.alloc (.cells #[.slice h1 h2 h3,.slice b1 a.1.length bc,.slice n1 a.2.length nc] 107)).alloc (.cells #[.slice l1 cs.length lc,.slice n1 a.2.length nc,.slice none 0 0,.int .i64 0,.int .i64 0,.slice none 0 0,.slice none 0 0,.string ⟨#[]⟩] 112):=⟨_,rfl⟩
  have hE12:Ext w1 W2:=by rw [hW2]; exact (Ext.of (by repeat' (first | with_reducible(first|exact Qx _ _|apply Kept.drew|apply Kept.drewN|apply Qz|refine Qy ?_ ?_ _)|exact fun h=>absurd h (by simp <;> omega))))
  have hs2:W2.heap.size=w1.heap.size+2:=by rw [hW2]; simp
  have hbx:W2.heap[w1.heap.size+1]?=some (.cells #[.slice l1 cs.length lc,.slice n1 a.2.length nc,.slice none 0 0,.int .i64 0,.int .i64 0,.slice none 0 0,.slice none 0 0,.string ⟨#[]⟩] 112 (0,0)):=by rw [hW2]; exact heap_alloc2_new w1 _ _
  have hC2:CSr W2 (w1.heap.size+1) ⟨l1,lc,n1,nc,none,0,none,0,0,none,0,0⟩ cs a ⟨[],0,0,⟨[],[],[],[],0⟩,[]⟩:=⟨hbx,⟨xs,hP.ext hE12⟩,Zai hns (fun j hj=>hE12.block j (hns.lt j hj).2),⟨[],RowL.nil _⟩,fun h=>by simp at h⟩
  have HTop:=Zac (Zro W2 (.slice h1 h2 h3) (.slice b1 a.1.length bc) (.slice n1 a.2.length nc) a.1 a.2 ⟨_,_,_,rfl⟩ (hT.ext hE12) (Zai hns (fun j hj=>hE12.block j (hns.lt j hj).2)) (by omega) (by omega) (Yle hOk ha3))
  have Hst:Hid (∀ w3 g1 gc v1 vc,Ext W2 w3→TermsIn w3 (.slice g1 a.1.length gc) a.1→TermsIn w3 (.slice v1 a.2.length vc) ((List.range a.2.length).map vr)→∀ o,CSr (w3.alloc o) (w1.heap.size+1) ⟨l1,lc,n1,nc,none,0,none,0,0,none,0,0⟩ cs a ⟨[],0,0,⟨[],[],[],[],0⟩,[]⟩∧Ext w (w3.alloc o)∧Calls Tryz.prog 52 #[.pointer (some ⟨w1.heap.size+1,0,none⟩),.agg #[.slice g1 a.1.length gc,.slice v1 a.2.length vc,.slice none 0 0,.int .i64 a.2.length]] (w3.alloc o) fun e w'=>e = .returned (.tuple #[])∧∃ x',Kept (ownS (w1.heap.size+1) ⟨l1,lc,n1,nc,none,0,none,0,0,none,0,0⟩) (w3.alloc o) w'∧CSr w' (w1.heap.size+1) x' cs a (Zcd ⟨[],0,0,⟨[],[],[],[],0⟩,[]⟩ (topN a))∧Zhk (w3.alloc o) ⟨l1,lc,n1,nc,none,0,none,0,0,none,0,0⟩ x'):=fun w3 g1 gc v1 vc hE3 hg hv o=>by
   have hE34:Ext w3 (w3.alloc o):=(Ext.of (by repeat' (first | with_reducible(first|exact Qx _ _|apply Kept.drew|apply Kept.drewN|apply Qz|refine Qy ?_ ?_ _)|exact fun h=>absurd h (by simp <;> omega))))
   have hE24:Ext W2 (w3.alloc o):=hE3.trans (hE34.mono hE3.size)
   have hC:=hC2.ext hE24
   have hEw:Ext w (w3.alloc o):=(HE1.out.trans (hE12.mono HE1.out.size)).trans (hE24.mono (by omega))
   have hCN:CNode (w3.alloc o) (.slice g1 a.1.length gc) (.slice v1 a.2.length vc) (.slice none 0 0) (.int .i64 a.2.length) (topN a):=by
    refine ⟨topN a,⟨?_,hv.ext hE34,⟨[],TermsAt.nil _ _⟩⟩,rfl,hOk,hNm,hFw,Same.refl hOk⟩
    have:(topN a).goals.map (·.1)=a.1:=by unfold topN; rw [List.map_map]; exact (List.map_congr_left (fun _ _=>rfl)).trans (List.map_id _)
    rw [this]; exact hg.ext hE34
   exact ⟨hC,hEw,Zpx (w3.alloc o) _ _ cs a _ _ _ _ _ _ hC hCN (by simp) (Zhh ha2) (by simp)⟩
  have HL:Hid (∀ u (xx:CX),CSr u (w1.heap.size+1) xx cs a (Zcd ⟨[],0,0,⟨[],[],[],[],0⟩,[]⟩ (topN a))→Calls Tryz.prog 53 #[.pointer (some ⟨w1.heap.size+1,0,none⟩)] u fun e w'=>e = .returned (.tuple #[])∧Kept (only (w1.heap.size+1)) u w'∧CSr w' (w1.heap.size+1) xx cs a (newN cs a)):=fun u xx h1=>by
   have e:Zcd ⟨[],0,0,⟨[],[],[],[],0⟩,[]⟩ (topN a)=(⟨[(topN a,0)],0,0,⟨[],[],[],[],0⟩,[40]⟩:SN):=by unfold Zcd; rw [if_neg (Zhh ha2)]; rfl
   refine Zuf u _ xx cs a _ h1 (by rw [e]; simp) (by rw [e]; intro y hy; simp at hy; subst hy; exact Qm _) hcl (by rw [e]; simp)
  have HW2:=Zac hW2
  have Hsome:=Zac hsome
  have Hask:=Zac hask
  clear hsome hask hP hT hns hcs hOk hNm ha1 ha2 ha3 hFw hE12 hbx hC2 hW2
  go_wp2_with fail
  rw [← HW2.out]
  refine HTop.out.mono ?_
  rintro e w3 ⟨hE3,g1,gc,v1,vc,rfl,hg,hv⟩
  have hs3:=hE3.size
  have H3:=Zac (Hst.out w3 g1 gc v1 vc hE3 hg hv)
  clear hE3 hg hv HTop Hst
  go_wp2_with fail
  refine (H3.out _).2.2.mono ?_
  rintro e w4 ⟨rfl,x4,hK4,hC4,hN4⟩
  have H4:=Zac (HL.out w4 x4 hC4)
  have hs4:=hK4.size
  simp at hs4
  have HK4:=Zac hK4
  have HN4:=Zac hN4
  clear hK4 hC4 hN4 HL
  go_wp2_with fail
  refine H4.out.mono ?_
  rintro e w5 ⟨rfl,hK5,hC5⟩
  have HK5:=Zac hK5
  have HC5:=Zac hC5
  clear hK5 hC5
  go_wp2
  go_ret2
  refine ⟨?_,Or.inr (Or.inr ⟨cs,a,w1.heap.size+1,x4,Hsome.out,Hask.out,rfl,fun k hk => ?_,HC5.out⟩)⟩
  ·have h1:=(H3.out (.cells #[.slice g1 a.1.length gc,.slice v1 a.2.length vc,.slice none 0 0,.int .i64 a.2.length] 87)).2.1
   refine h1.trans ((HK4.out.below h1.size (fun k hk => ?_)).trans (HK5.out.below (Qq h1.size HK4.out.size) (fun k hk => ?_)))
   ·rcases hk with rfl | ⟨p,hp,_⟩
    ·omega
    ·simp at hp
   ·have:k=w1.heap.size+1:=hk
    omega
  ·rcases hk with rfl | hk
   ·omega
   ·rcases HN4.out.1 k hk with ⟨p,hp,_⟩ | h
    ·simp at hp
    ·simp at h
     omega
def Ylf (w:World) (a:List (List Sym) × Names) (R:SN × Tr) (e:Ending) (w':World):Prop :=
 Ext w w'∧∃ aa ac wa wc,e = .returned (.tuple #[.agg #[.slice aa R.2.ans.length ac,.slice wa R.2.wts.length wc,.int .i64 R.2.tries,.int .i64 R.2.status,.string ⟨(Zdd a R.1.status R.1.found R.1.tree).2.2.toArray⟩],.bool true]) ∧
  w'.ownsRow w.heap.size 9 1 (.slice aa R.2.ans.length ac) R.2.ans.length (strs R.2.ans)∧w'.ownsRow w.heap.size 9 1 (.slice wa R.2.wts.length wc) R.2.wts.length (strs R.2.wts)
theorem Znz (cs:List Cls) {a:List (List Sym) × Names} (h:a.1≠[]):(newN cs a).status=0:=by
 unfold newN Zdc Zcd
 rw [if_neg (Zhh h)]
theorem Ygj (p q:ByteArray) (w:World) (cs:List Cls) (a:List (List Sym) × Names) (hp:p.size≤maxLen) (hq:q.size≤maxLen) (hcs:Zci p=some cs) (hask:Zep q=some a) :
  Calls Tryz.prog 25 #[.string p,.string q] w (Ylf w a (aftN cs a 3001 3000 3002 (newN cs a) ⟨[],[],0,0⟩)):=by
 obtain ⟨R,hR⟩:∃ R,R=aftN cs a 3001 3000 3002 (newN cs a) ⟨[],[],0,0⟩:=⟨_,rfl⟩
 have HN:=Zac (Yjw p q (w.alloc (.cells #[.slice none 0 0,.slice none 0 0,.int .i64 0,.int .i64 0,.string ⟨#[]⟩] 49)) hp hq)
 obtain ⟨_,_,_,_,_,_,hne,_,_⟩:=Zdx hask
 have HI:=Zac (InvN.new cs hne)
 have Hs:=Zac (Znz cs hne)
 have Hcs:Hid ((∀ c ∈ cs,COk c∧CNm c)∧(∀ c ∈ cs,CFew c)∧cs.length≤24):=by
  obtain ⟨_,_,_,h1,h2⟩:=Zej hcs
  exact ⟨h1,Zrq hcs,by omega⟩
 have Hp:=Zac hcs
 have Hq:=Zac hask
 have HR:=Zac hR
 rw [← hR]
 clear hp hq hne hcs hask hR
 go_enter Tryz.func25,Tryz.ntmps25
 go_wp2_with fail
 refine HN.out.mono ?_
 rintro e w1 ⟨hE1,⟨h1,_⟩ | ⟨_,h1,_⟩ | ⟨cs',a',b,x,h1,h2,rfl,hge,hC⟩⟩
 ·rw [Hp.out] at h1; simp at h1
 ·rw [Hq.out] at h1; simp at h1
 obtain rfl:cs'=cs:=by rw [Hp.out] at h1; exact (Option.some.inj h1).symm
 obtain rfl:a'=a:=by rw [Hq.out] at h2; exact (Option.some.inj h2).symm
 have HA:=Zac (Ygi w1 b x cs' q a' (newN cs' a') 3001 3000 hC HI.out (fun h=>by rw [Hs.out] at h; simp at h) Hs.out Hcs.out.1 Hcs.out.2.1 Hcs.out.2.2 Hq.out (by omega) (by omega) (by omega))
 have hbl:=Zab hC.box
 have hE0:Ext w (w.alloc (.cells #[.slice none 0 0,.slice none 0 0,.int .i64 0,.int .i64 0,.string ⟨#[]⟩] 49)):=(Ext.of (by repeat' (first | with_reducible(first|exact Qx _ _|apply Kept.drew|apply Kept.drewN|apply Qz|refine Qy ?_ ?_ _)|exact fun h=>absurd h (by simp <;> omega))))
 have HE1:=Zac hE1
 have hs1:=hE1.size
 simp at hs1
 have hb0:w1.heap[w.heap.size]?=some (.cells #[.slice none 0 0,.slice none 0 0,.int .i64 0,.int .i64 0,.string ⟨#[]⟩] 49 (0,0)):=(hE1.block _ (by simp)).trans (heap_alloc_new w _)
 have hn0:¬ ownS b x w.heap.size:=hC.not hb0 (by decide) (by decide)
 have Hge:=Zac hge
 have HE01:Hid (Ext w w1):=hE0.trans (hE1.mono hE0.size)
 rw [← HR.out] at HA
 clear hge hC hE1 hE0 HN
 go_wp2_with fail
 refine HA.out.mono ?_
 rintro e w2 ⟨hK2,hx2,hI2,aa,ac,wa,wc,rfl,ha2,hw2⟩
 have hb2:=(hK2.block _ (Zab hb0) hn0).trans hb0
 obtain ⟨r0,r1,r2,r3,r4⟩:w2.cell? ⟨w.heap.size,0,none⟩=some (.slice none 0 0)∧w2.cell? ⟨w.heap.size,1,none⟩=some (.slice none 0 0)∧w2.cell? ⟨w.heap.size,2,none⟩=some (.int .i64 0)∧w2.cell? ⟨w.heap.size,3,none⟩=some (.int .i64 0)∧w2.cell? ⟨w.heap.size,4,none⟩=some (.string ⟨#[]⟩):=⟨Zaa hb2 0 _ rfl,Zaa hb2 1 _ rfl,Zaa hb2 2 _ rfl,Zaa hb2 3 _ rfl,Zaa hb2 4 _ rfl⟩
 have rf:=fun i=>Zad hb2 i
 have hl2:=Zab hb2
 have hE2:Ext w w2:=HE01.out.trans (hK2.below (by omega) (fun k hk=>by have:=Hge.out k hk; simp at this; omega))
 obtain ⟨At,hAt⟩:∃ z,z=R.2.ans.length:=⟨_,rfl⟩
 obtain ⟨Wt,hWt⟩:∃ z,z=R.2.wts.length:=⟨_,rfl⟩
 obtain ⟨Tt,hTt⟩:∃ z,z=R.2.tries:=⟨_,rfl⟩
 obtain ⟨St,hSt⟩:∃ z,z=R.2.status:=⟨_,rfl⟩
 obtain ⟨Qt,hQt⟩:∃ z,z=(Zdd a' R.1.status R.1.found R.1.tree).2.2:=⟨_,rfl⟩
 have Hfin:Hid (∀ Z,Kept (fun k=>w.heap.size≤k∧(k=w.heap.size∨w2.heap.size≤k)) w2 Z→Ylf w a' R (.returned (.tuple #[.agg #[.slice aa At ac,.slice wa Wt wc,.int .i64 Tt,.int .i64 St,.string ⟨Qt.toArray⟩],.bool true])) Z):=fun Z hZ=>by
  rw [hAt,hWt,hTt,hSt,hQt]
  have hS:∀ k,k<w2.heap.size→(w.heap.size≤k∧(k=w.heap.size∨w2.heap.size≤k))→k=w.heap.size:=fun k hk h=>by omega
  have hrow:∀ {v:Value} {xs:List Value} {n:Nat},w2.ownsRow w1.heap.size 9 1 v n xs→Z.ownsRow w.heap.size 9 1 v n xs:=fun hr=>Zbe (Zai hr (fun k hk=>hZ.block k (hr.lt k hk).2 (fun h=>by have:=hS k (hr.lt k hk).2 h; have:=(hr.lt k hk).1; omega))) (by omega)
  exact ⟨hE2.trans (hZ.below (by omega) (fun k h=>h.1)),aa,ac,wa,wc,rfl,hrow ha2,hrow hw2⟩
 rw [← hAt,← hWt,← hTt,← hSt,← hQt]
 clear hK2 hx2 hI2 ha2 hw2 hb2 hE2 hAt hWt hTt hSt hQt hb0 hn0 HA HE01 HE1 HR
 go_wp2
 refine bodyPost_ret (v := .tuple #[.agg #[.slice aa At ac,.slice wa Wt wc,.int .i64 Tt,.int .i64 St,.string ⟨Qt.toArray⟩],.bool true]) (by simp [results,Tryz.results25,go_sem,r0,r1,r2,r3,r4,rf,hl2]) rfl ?_
 refine Hfin.out _ ?_
 repeat (first | with_reducible exact Qx _ _ | with_reducible apply Qz | with_reducible apply Kept.drew | with_reducible refine Qy ?_ (fun _=>⟨Qe _,Or.inl rfl⟩) _)
theorem Zrs {w:World} {B n c i:Nat} {a:Option Addr} {A:List (List UInt8)} (h:w.ownsRow B 9 1 (.slice a n c) n (strs A)) (hi:i<n):∃ g y,a=some ⟨g,0,none⟩∧g<w.heap.size∧A[i]?=some y∧w.cell? ⟨g,i,none⟩=some (.string ⟨y.toArray⟩):=by
 rcases h.2 with ⟨h1,h2⟩ | ⟨g,cap,cur,h1,h2⟩
 ·omega
 ·simp only [Value.slice.injEq] at h1
  obtain ⟨rfl,_,rfl⟩:=h1
  have hl:=h.1
  have hA:i<A.length:=by simp [strs] at hl; omega
  obtain ⟨y,hy⟩:∃ y,A[i]?=some y:=⟨_,Qb hA⟩
  exact ⟨g,y,rfl,(h.lt g rfl).2,hy,Zag h i _ (by unfold strs; rw [Qj,hy]; rfl)⟩
theorem Yjx (w:World) (B1 B2:Nat) (a1:Option Addr) (c1:Nat) (A:List (List UInt8)) (a2:Option Addr) (c2:Nat) (B:List (List UInt8)) (h1:w.ownsRow B1 9 1 (.slice a1 A.length c1) A.length (strs A)) (h2:w.ownsRow B2 9 1 (.slice a2 B.length c2) B.length (strs B)) (hA:A.length≤100000) (hB:B.length≤100000) :
  Calls Tryz.prog 37 #[.slice a1 A.length c1,.slice a2 B.length c2] w fun e w'=>e = .returned (.bool (decide (A=B)))∧Ext w w':=by
 have H1:Hid (∀ u,Ext w u→∀ i,i<A.length→∃ g y,a1=some ⟨g,0,none⟩∧g<u.heap.size∧A[i]?=some y∧u.cell? ⟨g,i,none⟩=some (.string ⟨y.toArray⟩)):=fun u hu i hi=>Zrs (Zai h1 (fun k hk=>hu.block k (h1.lt k hk).2)) hi
 have H2:Hid (∀ u,Ext w u→∀ i,i<B.length→∃ g y,a2=some ⟨g,0,none⟩∧g<u.heap.size∧B[i]?=some y∧u.cell? ⟨g,i,none⟩=some (.string ⟨y.toArray⟩)):=fun u hu i hi=>Zrs (Zai h2 (fun k hk=>hu.block k (h2.lt k hk).2)) hi
 clear h1 h2
 by_cases hl:A.length=B.length
 ·rw [← hl] at H2 ⊢
  have Hl:=Zac hl
  obtain ⟨n,hn⟩:∃ n,n=A.length:=⟨_,rfl⟩
  have Hn:=Zac hn
  rw [← hn] at H1 H2 ⊢
  rw [← hn] at hA
  obtain ⟨D,hD⟩:∃ D,D=decide (A=B):=⟨_,rfl⟩
  have HD:=Zac hD
  rw [← hD]
  clear hl hB hn hD
  go_enter Tryz.func37,Tryz.ntmps37
  go_wp2
  go_loopw [5] (fun i u=>∃ s:Nat,s≤n∧i = .int .i64 s∧Ext w u∧A.take s=B.take s) (fun i _=>n - (intOf i).toNat)
  case atStart=>exact ⟨0,Qm _,rfl,Below.refl _ _,rfl⟩
  case round =>
   obtain ⟨s,hs,rfl,hEu,htk⟩:=hrel
   have HEu:=Zac hEu
   have Htk:=Zac htk
   by_cases hlt:s<n
   ·obtain ⟨g,y,rfl,hg,hy,cy⟩:=H1.out _ hEu s hlt
    obtain ⟨g',z,rfl,hg',hz,cz⟩:=H2.out _ hEu s hlt
    have Hyz:Hid (A[s]?=some y∧B[s]?=some z):=⟨hy,hz⟩
    clear hEu htk hy hz
    by_cases hyz:y=z
    ·subst hyz
     go_wp2_with fail
     go_quiet (fail)
     go_wp2
     go_roundw
     case rel =>
      refine ⟨s+1,by omega,by go_num,HEu.out.trans ((Ext.of (by repeat' (first | with_reducible(first|exact Qx _ _|apply Kept.drew|apply Kept.drewN|apply Qz|refine Qy ?_ ?_ _)|exact fun h=>absurd h (by simp <;> omega)))).mono HEu.out.size),?_⟩
      rw [List.take_add_one,List.take_add_one,Htk.out,Hyz.out.1,Hyz.out.2]
     case measure=>simp [intOf]; omega
    ·have hne:¬ y.toArray=z.toArray:=fun e=>hyz (by simpa using e)
     have hD0:D=false:=by
      rw [HD.out,decide_eq_false_iff_not]
      rintro rfl
      exact hyz (Option.some.inj (Hyz.out.1.symm.trans Hyz.out.2))
     subst hD0
     have hb:(y == z)=false:=by rw [Qu]; exact hyz
     go_wp2_with fail
     go_quiet (fail)
     go_wp2
     go_ret
     exact ⟨rfl,HEu.out.trans ((Ext.of (by repeat' (first | with_reducible(first|exact Qx _ _|apply Kept.drew|apply Kept.drewN|apply Qz|refine Qy ?_ ?_ _)|exact fun h=>absurd h (by simp <;> omega)))).mono HEu.out.size)⟩
   ·have hD1:D=true:=by
     rw [HD.out,decide_eq_true_iff]
     have h1:=Htk.out
     rw [List.take_of_length_le (by rw [← Hn.out]; omega),List.take_of_length_le (by rw [← Hl.out,← Hn.out]; omega)] at h1
     exact h1
    subst hD1
    clear hEu htk
    go_wp2
    go_ret
    exact ⟨rfl,HEu.out⟩
 ·have hD:decide (A=B)=false:=by
   rw [decide_eq_false_iff_not]
   rintro rfl
   exact hl rfl
  rw [hD]
  have hb:((A.length:Int) != (B.length:Int))=true:=by rw [bne_iff_ne]; omega
  clear hD hl
  go_enter Tryz.func37,Tryz.ntmps37
  go_wp2
  go_ret
  exact ⟨rfl,Below.refl _ _⟩
def Zgk:List UInt8:=[115,117,114,101]
def Zhx:Cls:=⟨[⟨Zgk,0,0⟩],[],[]⟩
def Zer:List (List Sym) × Names:=([[⟨Zgk,0,0⟩]],[])
def GT.hd:GT→List UInt8
 | .v _=>[]
 | .n s=>s
 | .f s _=>s
 | .g s _ _=>s
theorem Zwq {b:ByteArray} {s:List UInt8} (h:Ziy b s=true):s≠[]:=fun e=>by subst e; simp [Ziy] at h
theorem Yne {t:GT} (ht:t.fine=true) (N:Names):∃ x r,(t.syms N).1=x::r∧x.name=t.hd∧x.name≠[]:=by
 obtain ⟨h1,h2,_⟩:=GT.fine_iff ht
 cases t with
 | v s=>simp [GT.atom] at h1
 | n s=>exact ⟨_,_,rfl,rfl,Zwq h2⟩
 | f s t=>simp only [GT.ok,Bool.and_eq_true] at h2; exact ⟨_,_,rfl,rfl,Zwq h2.1⟩
 | g s t u=>simp only [GT.ok,Bool.and_eq_true] at h2; exact ⟨_,_,rfl,rfl,Zwq h2.1⟩
theorem Ybr {t:GT} (ht:t.fine=true) (hne:t.hd≠Zgk) (v:Nat) (N:Names):NoFit [⟨Zgk,0,0⟩] (ap (Zcj v) (t.syms N).1):=by
 obtain ⟨x,r,e,h1,h2⟩:=Yne ht N
 intro θ hθ he
 rw [e] at he
 have e1:ap (Zcj v) (x::r)=x::ap (Zcj v) r:=by rw [Zbb]; simp [ap1,h2]
 have e2:ap θ (x::ap (Zcj v) r)=x::ap θ (ap (Zcj v) r):=by rw [Zbb]; simp [ap1,h2]
 have e3:ap θ [⟨Zgk,0,0⟩]=[⟨Zgk,0,0⟩]:=by rw [Zbb]; simp [ap1,Zfp,Zgk]
 rw [e1,e2,e3] at he
 simp only [List.cons.injEq] at he
 exact hne (by rw [← h1,← he.1])
theorem Zoa:∀ (P:List (GT × List GT)) (rest:List UInt8),(∀ c ∈ P,ClFine c)→kt (Zby P++rest)=P.flatMap (fun c=>styK ktG c.1 c.2)++kt rest:=by
 intro P
 induction P with
 | nil=>intro rest _; rfl
 | cons c P ih =>
  intro rest hc
  have hcc:=hc c (by simp)
  rw [show Zby (c::P)++rest=clT c.1 c.2++(Zby P++rest) by simp [Zby],← Ymk,Ymj sty0 c.1 c.2 _ (Zpn (GT.fine_iff hcc.head).2.1) (fun u hu=>Zpn (GT.fine_iff (hcc.body u hu)).2.1),ih rest (fun x hx=>hc x (by simp [hx])),List.flatMap_cons,Qi]
theorem Ygk:ClFine (.n Zgk,[]):=⟨by decide +kernel,by simp,by simp⟩
theorem Ygl (P:List (GT × List GT)) (hc:∀ c ∈ P,ClFine c) (hl:P.length≤23) (hs:(Zby P).length≤700):Zci ⟨(Zby P++[32,115,117,114,101,46]).toArray⟩=some (P.map clOf++[Zhx]):=by
 have hc2:∀ c ∈ P++[(GT.n Zgk,[])],ClFine c:=fun c h=>by
  rcases Qk.1 h with h | h
  ·exact hc c h
  ·simp at h
   subst h
   exact Ygk
 have e1:Zby (P++[(GT.n Zgk,[])])=Zby P++[115,117,114,101,46]:=by simp [Zby,clT,GT.text,Zgk]
 have hk:kt (Zby P++[32,115,117,114,101,46])=kt (Zby (P++[(GT.n Zgk,[])])):=by
  rw [e1,Zoa P _ hc,Zoa P _ hc,Yix (by decide)]
 rw [Yfc hk (by simp; omega) (by rw [e1]; simp; omega),Zne _ hc2 (by simp; omega) (by rw [e1]; simp; omega),Qr]
 rfl
theorem Zmi:Zep ⟨#[115,117,114,101,46]⟩=some Zer:=Zpd (.n Zgk) [] (by decide +kernel) (by simp) (by simp) (by decide)
theorem Yjy:topN Zer=⟨[([⟨Zgk,0,0⟩],0)],[],[],[],0⟩:=rfl
theorem Yjz {cs:List Cls} (h:COk Zhx) (hN:NOk (topN Zer)) (k:Nat):(tryN (topN Zer) Zhx k).2=2∧(tryN (topN Zer) Zhx k).1.goals=[]∧(tryN (topN Zer) Zhx k).1.used=[k]:=by
 have ho:Out (topN Zer) Zhx k 2 (Zar (sgC []) (topN Zer) Zhx k ([⟨Zgk,0,0⟩],0) []):=Yjb hN h (by rfl)
 have h1:=(Zga hN (Same.refl hN) h ho).1
 refine ⟨h1.symm,(Zhg (Or.inr h1.symm)).1 h1.symm,?_⟩
 rw [Zgc (Or.inr h1.symm)]
 rfl
theorem Ygm {c:GT × List GT} (hc:ClFine c) (hne:c.1.hd≠Zgk) (h:COk (clOf c)) (hN:NOk (topN Zer)) (k:Nat):(tryN (topN Zer) (clOf c) k).2=0:=by
 have ho:Out (topN Zer) (clOf c) k 0 ⟨[],[],[],[],0⟩:=⟨_,_,rfl,Or.inl ⟨rfl,Ybr hc.head hne _ _⟩⟩
 exact (Zga hN (Same.refl hN) h ho).1.symm
def Zic (k:Nat):SN:=⟨[(topN Zer,k)],k,0,⟨[],[],[],[],0⟩,[40]⟩
noncomputable def Zds (n st:Nat):SN:=⟨[],n+1,st,(tryN (topN Zer) Zhx n).1,[40]++Lib.decDigits n++[33]++[41]⟩
section
variable {cs:List Cls} {n:Nat}
theorem Yka (hlen:cs.length=n+1) (hmiss:∀ k c,k<n→cs[k]?=some c→(tryN (topN Zer) c k).2=0) {k:Nat} (hk:k<n):Zat cs (Zic k)=Zic (k+1):=by
 obtain ⟨c,hc⟩:∃ c,cs[k]?=some c:=⟨_,Qb (by omega)⟩
 have h0:=hmiss k c hk hc
 unfold Zat Zic
 simp only [hc]
 rw [if_neg (by omega),if_neg (by omega)]
 simp only [Zdc,Zdr]
 rw [if_neg (by omega)]
theorem Ybs (hlen:cs.length=n+1) (hlast:cs[n]?=some Zhx) (hhit:(tryN (topN Zer) Zhx n).2=2∧(tryN (topN Zer) Zhx n).1.goals=[]∧(tryN (topN Zer) Zhx n).1.used=[n]):Zat cs (Zic n)=Zds n 1:=by
 obtain ⟨h2,hg,_⟩:=hhit
 unfold Zat Zic
 simp only [hlast]
 rw [if_neg (by omega),if_pos (Or.inr h2)]
 unfold Zcd
 rw [if_pos hg]
 simp only [Zdc,Zdr]
 rw [if_pos (by omega)]
 rfl
theorem Ygn (hlen:cs.length=n+1) (hn:n≤23) (hmiss:∀ k c,k<n→cs[k]?=some c→(tryN (topN Zer) c k).2=0):∀ (d k N:Nat),k+d=n→Zca cs (d+N) (Zic k)=((Zca cs N (Zic n)).1,(Zca cs N (Zic n)).2+d):=by
 intro d
 induction d with
 | zero =>
  intro k N h
  obtain rfl:k=n:=by omega
  simp
 | succ d ih =>
  intro k N h
  rw [show d+1+N=(d+N)+1 by omega,Zca]
  rw [if_pos ⟨rfl,by simp [Zic],by simp [Zic]; omega⟩,Yka hlen hmiss (by omega),ih (k+1) N (by omega)]
  simp only [Nat.add_assoc]
theorem Ygo (hlen:cs.length=n+1) (hn:n≤23) (hlast:cs[n]?=some Zhx) (hmiss:∀ k c,k<n→cs[k]?=some c→(tryN (topN Zer) c k).2=0) (hhit:(tryN (topN Zer) Zhx n).2=2∧(tryN (topN Zer) Zhx n).1.goals=[]∧(tryN (topN Zer) Zhx n).1.used=[n]):Zcz cs 3000 (newN cs Zer)=(Zds n 1,n+1):=by
 have e0:newN cs Zer=Zic 0:=by
  unfold newN Zcd
  rw [if_neg (by rw [Yjy]; simp)]
  simp only [Zdc,Zdr]
  rw [if_neg (by omega)]
  rfl
 have e1:Zca cs 3000 (Zic 0)=(Zds n 1,n+1):=by
  have h1:=Ygn hlen hn hmiss n 0 ((3000 - n - 1)+1) (by omega)
  rw [show n+(3000 - n - 1+1)=3000 by omega] at h1
  have h2:Zca cs ((3000 - n - 1)+1) (Zic n)=(Zds n 1,1):=by
   rw [Zca,if_pos ⟨rfl,by simp [Zic],by simp [Zic]; omega⟩,Ybs hlen hlast hhit]
   have h3:Zca cs (3000 - n - 1) (Zds n 1)=(Zds n 1,0):=by
    cases 3000 - n - 1 with
    | zero=>rfl
    | succ m=>rw [Zca,if_neg (fun h=>by simp [Zds] at h)]
   rw [h3]
  rw [h1,h2]
  simp only [Nat.add_comm]
 rw [e0]
 unfold Zcz
 rw [if_neg (by simp [Zic])]
 rw [show ({ Zic 0 with status:=0 }:SN)=Zic 0 from rfl,e1]
 simp only
 unfold endN
 rw [if_neg (by simp [Zds]),if_neg (by simp [Zds])]
theorem Ykb (hlen:cs.length=n+1) (hn:n≤23) (hlast:cs[n]?=some Zhx) (hmiss:∀ k c,k<n→cs[k]?=some c→(tryN (topN Zer) c k).2=0) (hhit:(tryN (topN Zer) Zhx n).2=2∧(tryN (topN Zer) Zhx n).1.goals=[]∧(tryN (topN Zer) Zhx n).1.used=[n]):aftN cs Zer 3001 3000 3002 (newN cs Zer) ⟨[],[],0,0⟩=(Zds n 2,⟨[[121,101,115]],[Lib.decDigits n],n+1,2⟩):=by
 have hs2:∀ N,Zcz cs N (Zds n 1)=(Zds n 2,0):=fun N=>by
  unfold Zcz
  rw [if_neg (by simp [Zds])]
  have h3:Zca cs N { Zds n 1 with status:=0 }=(Zds n 0,0):=by
   cases N with
   | zero=>rfl
   | succ m=>rw [Zca,if_neg (fun h=>h.2.1 rfl)]; rfl
  rw [h3]
  simp only
  unfold endN
  rw [if_neg (by simp [Zds]),if_pos (by simp [Zds]),if_pos (by simp [Zds])]
  rfl
 have ha:addN Zer ⟨[],[],0,0⟩ (Zds n 1,n+1)=⟨[[121,101,115]],[Lib.decDigits n],n+1,1⟩:=by
  have hst:(Zds n 1).status=1:=rfl
  unfold addN
  rw [if_pos (show (Zds n 1,n+1).1.status=1 from hst)]
  have e1:(Zdd Zer (Zds n 1).status (Zds n 1).found (Zds n 1).tree)=([121,101,115],Lib.decDigits n,[]):=by
   unfold Zdd
   rw [if_pos hst]
   have e2:Zeh (Zds n 1).found=Lib.decDigits n:=by
    show Zcg [] (tryN (topN Zer) Zhx n).1.used=_
    rw [hhit.2.2]
    simp [Zcg]
   rw [e2]
   rfl
  simp only [e1,List.nil_append,Nat.zero_add]
  rfl
 rw [aftN]
 simp only
 rw [if_pos (by omega),show Zhi 3000 (3001 - 0)=3000 from rfl,Ygo hlen hn hlast hmiss hhit]
 rw [if_neg (by simp [Zds]),ha,aftN]
 simp only
 have h2:(Zds n 2).status=2:=rfl
 rw [if_pos (by omega),hs2,if_pos (show (Zds n 2,0).1.status=2∨(Zds n 2,0).1.status=3 from Or.inl h2)]
 unfold addN
 rw [if_neg (show ¬ (Zds n 2,0).1.status=1 by simp [h2])]
 simp only [h2,Nat.add_zero]
end
theorem Zob (P:List (GT × List GT)) (hc:∀ c ∈ P,ClFine c∧c.1.hd≠Zgk) (hl:P.length≤23) (hs:(Zby P).length≤700) :
  Zci ⟨(Zby P++[32,115,117,114,101,46]).toArray⟩=some (P.map clOf++[Zhx])∧aftN (P.map clOf++[Zhx]) Zer 3001 3000 3002 (newN (P.map clOf++[Zhx]) Zer) ⟨[],[],0,0⟩=(Zds P.length 2,⟨[[121,101,115]],[Lib.decDigits P.length],P.length+1,2⟩):=by
 have hp:=Ygl P (fun c h=>(hc c h).1) hl hs
 obtain ⟨_,_,_,hcs,_⟩:=Zej hp
 obtain ⟨_,_,_,hN,_⟩:=Zdx Zmi
 refine ⟨hp,Ykb (by simp) hl (by simp) (fun k c hk hkc => ?_) (Yjz (cs:=[]) (hcs Zhx (by simp)).1 hN P.length)⟩
 rw [Qc (by simpa using hk),Qj,Option.map_eq_some_iff] at hkc
 obtain ⟨x,hx,rfl⟩:=hkc
 have hm:=Qh hx
 exact Ygm (hc x hm).1 (hc x hm).2 (hcs _ (List.mem_append_left _ (List.mem_map_of_mem hm))).1 hN k
theorem Ygp (P:List (GT × List GT)) (hc:∀ c ∈ P,ClFine c∧c.1.hd≠Zgk) (hl:P.length≤23) (hs:(Zby P).length≤700) :
  yesN ⟨(Zby P++[32,115,117,114,101,46]).toArray⟩ ⟨#[115,117,114,101,46]⟩ ⟨(Lib.decDigits P.length).toArray⟩=([121,101,115],0,0) ∧
  allN ⟨(Zby P++[32,115,117,114,101,46]).toArray⟩ ⟨#[115,117,114,101,46]⟩ ⟨([40]++Lib.decDigits P.length++[33]++[41]).toArray⟩=([[121,101,115]],0,0):=by
 obtain ⟨hp,ha⟩:=Zob P hc hl hs
 have hne:Zer.1≠[]:=by simp [Zer]
 have hcl:(P.map clOf++[Zhx]).length≤24:=by simp; omega
 have hT:=(Told.new (P.map clOf++[Zhx]) hne).aft hcl (tries:=3001) (size:=3000) (f:=3002) (InvN.new _ hne) (Or.inl (Znz _ hne))
 rw [ha] at hT
 obtain ⟨n,h1,h2,h3,h4,h5,h6,h7⟩:=hT.each 0 _ _ rfl rfl
 have hy:=(Yau hp Zmi hcl h1 h2 h3 h4 h5).1
 rw [← h6,← h7] at hy
 refine ⟨hy,Yit hp Zmi hcl (hT.tree (show (2:Nat)≠3 by decide)) ?_⟩
 have:=Zkm (k:=P.length) (by omega)
 simp [Zds]
 omega
def hdN (l:List Sym):List UInt8:=match l with
 | s::_=>s.name
 | []=>[]
theorem Ylg {i:Nat} (hi:i<6) (N:Names):∃ s,((argT i).syms N).1=[s]∧ArgS s:=by
 unfold argT
 split
 ·rename_i h
  refine ⟨⟨[symA i],0,0⟩,rfl,rfl,Or.inr ?_⟩
  rcases (by omega:i=0∨i=1∨i=2) with rfl | rfl | rfl
  ·exact Or.inl rfl
  ·exact Or.inr (Or.inl rfl)
  ·exact Or.inr (Or.inr rfl)
 ·exact ⟨_,rfl,rfl,Or.inl rfl⟩
theorem Yom {x:At3} (hx:AtOk x) (N:Names):FA ((atG x).syms N).1∧hdN ((atG x).syms N).1=[symP x.1]:=by
 obtain ⟨P,A,B⟩:=x
 obtain ⟨s,e1,h1⟩:=Ylg hx.2.1 N
 obtain ⟨t,e2,h2⟩:=Ylg hx.2.2 ((argT A).syms N).2
 have e:((atG (P,A,B)).syms N).1=[⟨[symP P],0,2⟩,s,t]:=by
  show ⟨[symP P],0,2⟩::(((argT A).syms N).1++((argT B).syms ((argT A).syms N).2).1)=_
  rw [e1,e2]
  rfl
 rw [e]
 exact ⟨⟨_,s,t,rfl,by simp,rfl,h1,h2⟩,rfl⟩
theorem Ygq:∀ (l:List At3) (N:Names),(∀ x ∈ l,AtOk x)→(∀ t ∈ (Zee (l.map atG) N).1,FA t)∧(Zee (l.map atG) N).1.map hdN=l.map (fun x=>[symP x.1]):=by
 intro l
 induction l with
 | nil=>intro N _; exact ⟨by simp [Zee],rfl⟩
 | cons x l ih =>
  intro N h
  obtain ⟨h1,h2⟩:=Yom (h x (by simp)) N
  obtain ⟨h3,h4⟩:=ih ((atG x).syms N).2 (fun y hy=>h y (by simp [hy]))
  simp only [List.map_cons,Zee,Qp]
  refine ⟨fun t ht => ?_,by rw [h2,h4]⟩
  rcases ht with rfl | ht
  ·exact h1
  ·exact h3 t ht
def cst (c:Nat):List Sym:=[⟨[symA c],0,0⟩]
def Gnd (θ:Nat→List Sym):Prop:=∀ n,∃ c,c<3∧θ n=cst c
theorem Yon (c:Nat):Wf 1 (cst c):=⟨by omega,fun h=>absurd h (by simp),fun _=>rfl,rfl⟩
theorem Gnd.ts {θ:Nat→List Sym} (h:Gnd θ):Ts θ:=fun n=>by
 obtain ⟨c,_,e⟩:=h n
 rw [e]
 exact Yon c
theorem Ynf {c:Nat} (h:c<3):AbcN [symA c]:=by
 rcases (by omega:c=0∨c=1∨c=2) with rfl | rfl | rfl
 ·exact Or.inl rfl
 ·exact Or.inr (Or.inl rfl)
 ·exact Or.inr (Or.inr rfl)
theorem Ylh {s:List UInt8} (h:AbcN s):∃ c,c<3∧s=[symA c]:=by
 rcases h with rfl | rfl | rfl
 ·exact ⟨0,by omega,rfl⟩
 ·exact ⟨1,by omega,rfl⟩
 ·exact ⟨2,by omega,rfl⟩
theorem Zwr {s:Sym} (hs:ArgS s) (hw:Wf 1 [s]) (hn:s.name≠[]):∃ c,c<3∧[s]=cst c:=by
 obtain ⟨c,hc,e⟩:=Ylh (hs.name.resolve_left hn)
 obtain ⟨_,_,h0,_⟩:=hw
 have h1:=h0 hn
 have h2:=hs.args
 refine ⟨c,hc,?_⟩
 cases s
 simp only at e h1 h2
 subst e h1 h2
 rfl
theorem Ygr {θ:Nat→List Sym} (h:Gnd θ) {l:List Sym} (hl:F1 l) (wl:Wf 1 l):∃ c,c<3∧ap θ l=cst c:=by
 obtain ⟨s,rfl,hs⟩:=hl
 rw [Zbb,Zfp,Qs]
 unfold ap1
 split
 ·exact h _
 ·rename_i hn
  exact Zwr hs wl hn
theorem Yng {l:List Sym} (h:Wf 1 l):∃ c,c<3∧toC l=cst c:=by
 unfold toC
 split
 ·rename_i s
  split
  ·rename_i ha
   have hn:s.name≠[]:=fun e=>by rw [e] at ha; rcases ha with h | h | h <;> simp at h
   exact Zwr ⟨Znn h,Or.inr ha⟩ h hn
  ·exact ⟨0,by omega,rfl⟩
 ·exact ⟨0,by omega,rfl⟩
theorem Ynh {c:Nat} (h:c<3):toC (cst c)=cst c:=by simp [toC,cst,Ynf h]
def Zon (m:List Bool) (l:List Sym):Prop:=∃ p a b,p<3∧a<3∧b<3∧l=[⟨[symP p],0,2⟩,⟨[symA a],0,0⟩,⟨[symA b],0,0⟩]∧m.getD (p * 9+a * 3+b) false=true
def ClsM (m:List Bool) (c:Cls):Prop:=∀ θ,Gnd θ→(∀ t ∈ c.body,Zon m (ap θ t))→Zon m (ap θ c.head)
theorem Zws {τ θ:Nat→List Sym} (hθ:Gnd θ) {x:Sym} (hx:ArgS x) (hf:F1 (ap1 τ x)) (hw:Wf 1 (ap1 τ x)):ap1 (fun v=>toC (ap θ (τ v))) x=ap θ (ap1 τ x):=by
 have e:ap1 (fun v=>ap θ (τ v)) x=ap θ (ap1 τ x):=by
  unfold ap1
  split
  ·rfl
  ·rename_i h
   rw [Zbb,Zfp]
   simp [ap1,h]
 have e1:=Zjo (θ:=fun v=>ap θ (τ v)) hx
 rw [e1,e]
 obtain ⟨c,hc,e2⟩:=Ygr hθ hf hw
 rw [e2,Ynh hc]
theorem Yni {τ:Nat→List Sym} (hτ:Ts τ) {P x y:Sym} (hP:P.name≠[]) (hf:FA (ap τ [P,x,y])):F1 (ap1 τ x)∧F1 (ap1 τ y):=by
 obtain ⟨P',s,t,e,_,_,hs,ht⟩:=hf
 rw [Znm τ hP] at e
 have e:=(List.cons.inj e).2
 have l1:=Zlf hτ x
 have l2:=Zlf hτ y
 have l3:=congrArg List.length e
 simp only [Qg,Qf,Jt] at l3
 obtain ⟨a,ha⟩:∃ a,ap1 τ x=[a]:=List.length_eq_one_iff.1 (by omega)
 obtain ⟨b,hb⟩:∃ b,ap1 τ y=[b]:=List.length_eq_one_iff.1 (by omega)
 rw [ha,hb] at e
 simp only [List.cons_append,List.nil_append,List.cons.injEq,and_true] at e
 obtain ⟨rfl,rfl⟩:=e
 exact ⟨⟨a,ha,hs⟩,⟨b,hb,ht⟩⟩
theorem Yoo {τ θ:Nat→List Sym} (hθ:Gnd θ) (hτ:Ts τ) {l:List Sym} (h:FA l) (wl:Wf 1 l) (h2:FA (ap τ l)):ap (fun v=>toC (ap θ (τ v))) l=ap θ (ap τ l):=by
 obtain ⟨P,x,y,rfl,hP,hP2,hx,hy⟩:=h
 obtain ⟨nx,ny⟩:=Zrh wl hP2 hx hy
 obtain ⟨f1,f2⟩:=Yni hτ hP h2
 rw [Znm _ hP,Znm τ hP,Zws hθ hx f1 (Zly hτ hx nx),Zws hθ hy f2 (Zly hτ hy ny),Zbb,Zet]
 simp [ap1,hP]
theorem Yop {τ θ:Nat→List Sym} (hθ:Gnd θ) (hτ:Ts τ) {l:List Sym} (h:F1 l) (wl:Wf 1 l) (h2:F1 (ap τ l)):ap (fun v=>toC (ap θ (τ v))) l=ap θ (ap τ l):=by
 obtain ⟨x,rfl,hx⟩:=h
 have e:∀ σ:Nat→List Sym,ap σ [x]=ap1 σ x:=fun σ=>by rw [Zbb,Zfp,Qs]
 have hw:=Zha hτ wl
 rw [e] at h2 hw
 rw [e,e,Zws hθ hx h2 hw]
theorem Ykc {n m:ND} (hn:NOk n) (fn:FFn n) (fm:FFn m) (hs:Same m n) {θ:Nat→List Sym} (hθ:Gnd θ):∃ θ',Gnd θ'∧n.vals.map (ap θ')=m.vals.map (ap θ)∧(n.goals.map (·.1)).map (ap θ')=(m.goals.map (·.1)).map (ap θ):=by
 obtain ⟨τ,hτ,e⟩:=hs.al.2
 have lg:=hs.gl
 have lv:=hs.vl
 have hwf:=hn.wf
 unfold ND.terms at e hwf
 rw [Qr,Qr] at e
 obtain ⟨e1,e⟩:=List.append_inj e (by simp [lg])
 obtain ⟨e2,_⟩:=List.append_inj e (by simp [lv])
 refine ⟨fun v=>toC (ap θ (τ v)),fun v=>Yng (Zha hθ.ts (hτ v)),?_,?_⟩
 ·rw [e2,List.map_map]
  refine List.map_congr_left (fun t ht => ?_)
  exact Yop hθ hτ (fn.vals t ht) (hwf t (by simp [ht])) (fm.vals _ (by rw [e2]; exact List.mem_map_of_mem ht))
 ·rw [e1,List.map_map (l:=n.goals.map (·.1))]
  refine List.map_congr_left (fun t ht => ?_)
  have hm:ap τ t ∈ m.goals.map (·.1):=by rw [e1]; exact List.mem_map_of_mem ht
  obtain ⟨g',hg',eg'⟩:=List.mem_map.1 hm
  have hft:FA (ap τ t):=by rw [← eg']; exact fm.goals g' hg'
  obtain ⟨g,hg,rfl⟩:=List.mem_map.1 ht
  exact Yoo hθ hτ (fn.goals g hg) (hwf g.1 (List.mem_append_left _ ht)) hft
theorem Ygs {M:List Bool} {n:ND} (hn:NOk n) (hf:FFn n) {c:Cls} (hc:COk c) (hfc:FFc c) (hM:ClsM M c) {k:Nat} (hk:(tryN n c k).2=1∨(tryN n c k).2=2) :
  FFn (tryN n c k).1∧∀ θ1,Gnd θ1→(∀ g ∈ (tryN n c k).1.goals,Zon M (ap θ1 g.1))→∃ θ,Gnd θ∧n.vals.map (ap θ)=(tryN n c k).1.vals.map (ap θ1)∧∀ g ∈ n.goals,Zon M (ap θ g.1):=by
 by_cases hex:∃ r:ND × Nat,∃ m,NOk m∧Same m n∧Out m c k r.2 r.1
 ·have e:tryN n c k=Classical.choose hex:=by unfold tryN; rw [dif_pos hex]
  obtain ⟨m,hm,hS,ho⟩:=Classical.choose_spec hex
  have hfm:FFn m:=hf.same hn.wf hS
  rw [e] at hk ⊢
  have hff:=hfm.child hm hc hfc ho hk
  refine ⟨hff,fun θ1 h1 hg1 => ?_⟩
  obtain ⟨g,gs,hgm,ho⟩:=ho
  rcases ho with ⟨q0,_⟩ | ⟨q3,_⟩ | ⟨σ,hσ,_,_,hch⟩
  ·omega
  ·omega
  ·have hga:FA g.1:=hfm.goals g (by rw [hgm]; simp)
   have hha:FA (ap (Zcj m.vars) c.head):=hfc.1.apF (fun _=>Yiu _)
   have wg:Wf 1 g.1:=hm.wf g.1 (by unfold ND.terms; rw [hgm]; simp)
   have wh:Wf 1 (ap (Zcj m.vars) c.head):=Zha (fun j=>Zqg _) hc.wfh
   have hF:=Ykz hga hha wg wh hσ
   have hG:Gnd (fun v=>ap θ1 (σ v)):=fun v=>Ygr h1 (hF v) (hσ.ts v)
   rw [hch] at hg1
   have key:∀ t,ap θ1 (ap σ (ap (Zcj m.vars) t))=ap (fun j=>ap θ1 (σ (j+m.vars))) t:=fun t=>by
    rw [Zoi σ,Zoi θ1]
    congr 1
    funext j
    rw [Zcj,Zoh]
   have hbody:∀ t ∈ c.body,Zon M (ap (fun j=>ap θ1 (σ (j+m.vars))) t):=fun t ht=>by
    rw [← key]
    refine hg1 (ap σ (ap (Zcj m.vars) t),g.2+1) ?_
    simp only [Zar,carr,List.mem_map,Qk]
    exact ⟨(ap (Zcj m.vars) t,g.2+1),Or.inl ⟨t,ht,rfl⟩,rfl⟩
   have hhead:Zon M (ap (fun v=>ap θ1 (σ v)) g.1):=by
    rw [← Zoi θ1 σ,hσ.unif,key]
    exact hM _ (fun j=>Ygr h1 (hF _) (hσ.ts _)) hbody
   obtain ⟨θ,hθ,ev,eg⟩:=Ykc hn hf hfm hS hG
   refine ⟨θ,hθ,?_,fun x hx => ?_⟩
   ·rw [ev,hch]
    simp only [Zar,List.map_map]
    exact List.map_congr_left (fun t _=>(Zoi θ1 σ t).symm)
   ·have hx2:ap θ x.1 ∈ (m.goals.map (·.1)).map (ap (fun v=>ap θ1 (σ v))):=by
     rw [← eg]
     exact List.mem_map_of_mem (List.mem_map_of_mem hx)
    rw [hgm] at hx2
    simp only [List.map_cons,Qp,List.mem_map] at hx2
    rcases hx2 with e | ⟨_,⟨y,hy,rfl⟩,e⟩
    ·rw [e]
     exact hhead
    ·rw [← e,← Zoi θ1 σ]
     refine hg1 (ap σ y.1,y.2) ?_
     simp only [Zar,carr,List.mem_map,Qk]
     exact ⟨y,Or.inr hy,rfl⟩
 ·have e:(tryN n c k).2=0:=by unfold tryN; rw [dif_neg hex]
  omega
theorem Zui {M:List Bool} {cs:List Cls} (hcs:∀ c ∈ cs,COk c∧FFc c∧ClsM M c):∀ (ks:List Nat) (n:ND) (i:Nat),NOk n→FFn n→(Zap cs n ks i).2.1=0→FFn (Zap cs n ks i).1∧NOk (Zap cs n ks i).1∧(Zap cs n ks i).1.goals=[] ∧
  ∀ θ1,Gnd θ1→∃ θ,Gnd θ∧n.vals.map (ap θ)=(Zap cs n ks i).1.vals.map (ap θ1)∧∀ g ∈ n.goals,Zon M (ap θ g.1):=by
 intro ks
 induction ks with
 | nil =>
  intro n i hn hf h0
  unfold Zap at h0 ⊢
  by_cases hg:n.goals=[]
  ·rw [if_pos hg] at h0 ⊢
   exact ⟨hf,hn,hg,fun θ1 h1=>⟨θ1,h1,rfl,fun g hgg=>by rw [hg] at hgg; simp at hgg⟩⟩
  ·rw [if_neg hg] at h0
   simp at h0
 | cons k ks ih =>
  intro n i hn hf h0
  rw [Zap] at h0 ⊢
  cases hc:cs[k]? with
  | none=>rw [hc] at h0; simp at h0
  | some c =>
   rw [hc] at h0
   simp only at h0 ⊢
   obtain ⟨h1,h2,h3⟩:=hcs c (Qh hc)
   by_cases hg:n.goals=[]
   ·rw [if_pos hg] at h0
    simp at h0
   ·rw [if_neg hg] at h0 ⊢
    by_cases hk:(tryN n c k).2=1∨(tryN n c k).2=2
    ·rw [if_pos hk] at h0 ⊢
     obtain ⟨hff,hup⟩:=Ygs hn hf h1 h2 h3 hk
     obtain ⟨i1,i2,i3,i4⟩:=ih _ _ (Yiv h1 hk) hff h0
     refine ⟨i1,i2,i3,fun θ1 hθ1 => ?_⟩
     obtain ⟨θ2,g2,e2,hh2⟩:=i4 θ1 hθ1
     obtain ⟨θ,g,e,hh⟩:=hup θ2 g2 hh2
     exact ⟨θ,g,e.trans e2,hh⟩
    ·rw [if_neg hk] at h0
     simp at h0
theorem Zll (N:Names) (s:List UInt8):N <+: (Zbf N s).1∧(N.Nodup→(Zbf N s).1.Nodup)∧(Zbf N s).1[(Zbf N s).2]?=some s:=by
 unfold Zbf
 by_cases h:s ∈ N
 ·rw [if_pos h]
  refine ⟨List.prefix_refl _,fun h=>h,?_⟩
  have hl:=List.idxOf_lt_length_iff.2 h
  rw [Qb hl,List.getElem_idxOf hl]
 ·rw [if_neg h]
  refine ⟨List.prefix_append _ _,fun hn => ?_,by simp⟩
  rw [List.nodup_append]
  refine ⟨hn,by simp,fun a ha b hb => ?_⟩
  simp at hb
  subst hb
  exact fun e=>h (e ▸ ha)
theorem Zmj (t:GT):∀ N:Names,N <+: (t.syms N).2∧(N.Nodup→(t.syms N).2.Nodup):=by
 induction t with
 | v s=>intro N; exact ⟨(Zll N s).1,(Zll N s).2.1⟩
 | n s=>intro N; exact ⟨List.prefix_refl _,fun h=>h⟩
 | f s t ih=>intro N; exact ih N
 | g s t u iht ihu=>intro N; exact ⟨(iht N).1.trans (ihu _).1,fun h=>(ihu _).2 ((iht N).2 h)⟩
theorem Zrt:∀ (l:List GT) (N:Names),N <+: (Zee l N).2∧(N.Nodup→(Zee l N).2.Nodup):=by
 intro l
 induction l with
 | nil=>intro N; exact ⟨List.prefix_refl _,fun h=>h⟩
 | cons t l ih=>intro N; exact ⟨(Zmj t N).1.trans (ih _).1,fun h=>(ih _).2 ((Zmj t N).2 h)⟩
def Ybt (θ:Nat→List Sym) (Nf:Names) (n:Nat):Prop:=∀ j i,j<3→Nf[i]?=some [symA (3+j)]→θ i=cst (gv n j)
theorem Ynj {θ:Nat→List Sym} (hθ:Gnd θ) {Nf:Names} (hnd:Nf.Nodup):∃ n,n<27∧Ybt θ Nf n:=by
 have key:∀ s,∃ c,c<3∧∀ i:Nat,Nf[i]?=some s→θ i=cst c:=by
  intro s
  by_cases h:∃ i:Nat,Nf[i]?=some s
  ·obtain ⟨i,hi⟩:=h
   obtain ⟨c,hc,e⟩:=hθ i
   refine ⟨c,hc,fun j hj => ?_⟩
   obtain ⟨li,ei⟩:=Qa.1 hi
   obtain ⟨lj,ej⟩:=Qa.1 hj
   have hp:=List.pairwise_iff_getElem.1 hnd
   have:j=i:=by
    rcases Nat.lt_trichotomy j i with hji | hji | hji
    ·exact absurd (ej.trans ei.symm) (hp j i lj li hji)
    ·exact hji
    ·exact absurd (ei.trans ej.symm) (hp i j li lj hji)
   rw [this]
   exact e
  ·exact ⟨0,by omega,fun i hi=>absurd ⟨i,hi⟩ h⟩
 obtain ⟨c0,h0,e0⟩:=key [symA (3+0)]
 obtain ⟨c1,h1,e1⟩:=key [symA (3+1)]
 obtain ⟨c2,h2,e2⟩:=key [symA (3+2)]
 refine ⟨c0+3 * c1+9 * c2,by omega,fun j i hj hi => ?_⟩
 have g0:gv (c0+3 * c1+9 * c2) 0=c0:=by unfold gv; simp; omega
 have g1:gv (c0+3 * c1+9 * c2) 1=c1:=by unfold gv; simp; omega
 have g2:gv (c0+3 * c1+9 * c2) 2=c2:=by unfold gv; simp; omega
 rcases (by omega:j=0∨j=1∨j=2) with rfl | rfl | rfl
 ·rw [g0]; exact e0 i hi
 ·rw [g1]; exact e1 i hi
 ·rw [g2]; exact e2 i hi
theorem Yoq {N Nf:Names} (h:N <+: Nf) {i:Nat} {s:List UInt8} (hi:N[i]?=some s):Nf[i]?=some s:=by
 obtain ⟨r,rfl⟩:=h
 rw [Qc (Qa.1 hi).1]
 exact hi
theorem Ygt {θ:Nat→List Sym} {Nf:Names} {n:Nat} (hF:Ybt θ Nf n) {i:Nat} (hi:i<6) {N:Names} (hN:((argT i).syms N).2 <+: Nf):ap θ ((argT i).syms N).1=cst (gA n i):=by
 unfold argT at hN ⊢
 unfold gA
 by_cases h:i<3
 ·rw [if_pos h,if_pos h]
  show ap θ [⟨[symA i],0,0⟩]=_
  rw [Zbb,Zfp]
  simp [ap1,cst]
 ·rw [if_neg h] at hN ⊢
  rw [if_neg h]
  show ap θ [⟨[],(Zbf N [symA i]).2,0⟩]=_
  rw [Zbb,Zfp,Qs]
  show θ (Zbf N [symA i]).2=_
  refine hF (i - 3) _ (by omega) ?_
  rw [show 3+(i - 3)=i by omega]
  exact Yoq hN (Zll N [symA i]).2.2
theorem Yor {θ:Nat→List Sym} {Nf:Names} {n:Nat} (hF:Ybt θ Nf n) {x:At3} (hx:AtOk x) {N:Names} (hN:((atG x).syms N).2 <+: Nf):ap θ ((atG x).syms N).1=[⟨[symP x.1],0,2⟩,⟨[symA (gA n x.2.1)],0,0⟩,⟨[symA (gA n x.2.2)],0,0⟩]:=by
 obtain ⟨P,A,B⟩:=x
 show ap θ (⟨[symP P],0,2⟩::(((argT A).syms N).1++((argT B).syms ((argT A).syms N).2).1))=_
 have hN2:((argT B).syms ((argT A).syms N).2).2 <+: Nf:=hN
 rw [Zbb,Zet,Ygt hF hx.2.1 ((Zmj _ _).1.trans hN2),Ygt hF hx.2.2 hN2]
 simp [ap1,cst]
theorem Ykd {p q:Nat} (hp:p<3) (hq:q<3) (h:symP p=symP q):p=q:=by
 rcases (by omega:p=0∨p=1∨p=2) with rfl | rfl | rfl <;> rcases (by omega:q=0∨q=1∨q=2) with rfl | rfl | rfl <;> first | rfl | exact absurd h (by decide)
theorem Zkp {p q:Nat} (hp:p<6) (hq:q<6) (h:symA p=symA q):p=q:=by
 rcases (by omega:p=0∨p=1∨p=2∨p=3∨p=4∨p=5) with rfl | rfl | rfl | rfl | rfl | rfl <;> rcases (by omega:q=0∨q=1∨q=2∨q=3∨q=4∨q=5) with rfl | rfl | rfl | rfl | rfl | rfl <;> first | rfl | exact absurd h (by decide)
theorem Zyp {θ:Nat→List Sym} {Nf:Names} {n:Nat} (hF:Ybt θ Nf n) (m:List Bool) {x:At3} (hx:AtOk x) {N:Names} (hN:((atG x).syms N).2 <+: Nf):Zon m (ap θ ((atG x).syms N).1)↔hA m n x=true:=by
 rw [Yor hF hx hN]
 constructor
 ·rintro ⟨p,a,b,hp,ha,hb,e,hh⟩
  simp only [List.cons.injEq,Sym.mk.injEq,and_true] at e
  obtain ⟨e1,e2,e3⟩:=e
  have e1:=Ykd hx.1 hp e1
  have e2:=Zkp (by have:=Zla n x.2.1; omega) (by omega) e2
  have e3:=Zkp (by have:=Zla n x.2.2; omega) (by omega) e3
  unfold hA ixA
  rw [e1,e2,e3]
  exact hh
 ·intro h
  exact ⟨x.1,gA n x.2.1,gA n x.2.2,hx.1,Zla _ _,Zla _ _,rfl,h⟩
theorem Zyq {θ:Nat→List Sym} {Nf:Names} {n:Nat} (hF:Ybt θ Nf n) (m:List Bool):∀ (l:List At3) (N:Names),(∀ x ∈ l,AtOk x)→(Zee (l.map atG) N).2 <+: Nf→((∀ t ∈ (Zee (l.map atG) N).1,Zon m (ap θ t))↔hAll m n l=true):=by
 intro l
 induction l with
 | nil=>intro N _ _; simp [Zee,hAll]
 | cons x l ih =>
  intro N ho hN
  have h1:=Zyp hF m (ho x (by simp)) (N:=N) ((Zrt (l.map atG) ((atG x).syms N).2).1.trans hN)
  have h2:=ih ((atG x).syms N).2 (fun y hy=>ho y (by simp [hy])) hN
  unfold hAll at h2 ⊢
  simp only [List.map_cons,Zee,Qp,forall_eq_or_imp,List.all_cons,Bool.and_eq_true]
  rw [h1,h2]
theorem Yke {R:List (At3 × List At3)} {m:List Bool} (hC:Yef R m) {r:At3 × List At3} (hr:r ∈ R) (ho:RlOk r):ClsM m (clOf (rlG r)):=fun θ hθ hb=>by
 obtain ⟨n,hn,hF⟩:=Ynj hθ (Nf:=(Zee (r.2.map atG) ((atG r.1).syms []).2).2) ((Zrt _ _).2 ((Zmj _ _).2 List.nodup_nil))
 have hbody:=(Zyq hF m r.2 _ ho.2.1 (List.prefix_refl _)).1 hb
 exact (Zyp hF m ho.1 (Zrt _ _).1).2 (hC r hr n hn hbody)
end Go.Proofs.YtlmjilpjmgjjcaaGreatDoor
