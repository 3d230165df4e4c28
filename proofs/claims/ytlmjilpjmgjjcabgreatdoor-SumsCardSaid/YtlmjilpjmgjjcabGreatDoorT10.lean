/-
  PROVED HERE: what the law's 'mark' and 'own' do with a list that came out (the conditions stand in each statement).
-/
import Derived.Test.YtlmjilpjmgjjcabGreatDoorT9
import Derived.Lib.ItoaLen
import Derived.Shelf.LaysM
import Derived.Shelf.Strconv.Itoa3
import Derived.Lib.AppendIntMem
set_option linter.unusedSimpArgs false
set_option linter.unusedVariables false
set_option maxRecDepth 10000
set_option maxHeartbeats 4000000
namespace Go.Proofs.YtlmjilpjmgjjcabGreatDoor
open Go.RowKit
noncomputable def sweN (m:SN):Nat:=open Classical in if m.way=[] then 2 else if 3000≤m.tries then 3 else 0
theorem Yez (w:World) (b:Nat) (x:CX) (cs:List Cls) (a:List (List Sym) × Names) (m:SN) (h:CSr w b x cs a m) :
  Calls Tryz.prog 45 #[.pointer (some ⟨b,0,none⟩)] w fun e w'=>e = .returned (.int .i64 (sweN m))∧w'=w:=by
 have hbx:=h.box
 obtain ⟨ca,cc,na,nc,wa,wc,va,vl,vc,fa,fl,fc⟩:=x
 simp only [CX.cells] at hbx
 obtain ⟨b0,b1,b2,b3,b4,b5,b6,b7,bf⟩:=box8 hbx
 obtain ⟨z,hz⟩:∃ z,z=m.way.length:=⟨_,rfl⟩
 obtain ⟨tr,htr⟩:∃ z,z=m.tries:=⟨_,rfl⟩
 rw [← hz] at b2
 rw [← htr] at b3
 have hbl:=Zab hbx
 by_cases hz0:z=0
 ·have hs:sweN m=2:=by unfold sweN; rw [if_pos (List.eq_nil_of_length_eq_zero (by omega))]
  rw [hs]
  subst hz0
  clear h hbx hz htr hs
  go_enter Tryz.func45,Tryz.ntmps45
  go_wp2
  go_ret
  exact ⟨rfl,rfl⟩
 ·have hw:m.way≠[]:=fun e=>hz0 (by rw [hz,e]; rfl)
  have hz1:((z:Int) == 0)=false:=by rw [Qu]; omega
  by_cases ht:3000≤tr
  ·have hs:sweN m=3:=by unfold sweN; rw [if_neg hw,if_pos (by omega)]
   have ht':(3000:Int)≤(tr:Int):=by omega
   rw [hs]
   clear h hbx hz htr hs hw ht hz0
   go_enter Tryz.func45,Tryz.ntmps45
   go_wp2
   go_ret
   exact ⟨rfl,rfl⟩
  ·have hs:sweN m=0:=by unfold sweN; rw [if_neg hw,if_neg (by omega)]
   have ht':¬ (3000:Int)≤(tr:Int):=by omega
   rw [hs]
   clear h hbx hz htr hs hw ht hz0
   go_enter Tryz.func45,Tryz.ntmps45
   go_wp2
   go_ret
   exact ⟨rfl,rfl⟩
theorem CSr.full {w w':World} {b:Nat} {x:CX} {cs:List Cls} {a:List (List Sym) × Names} {m:SN} (h:CSr w b x cs a m) (hk:Kept (only b) w w') (hb:w'.heap[b]?=some (.cells #[.slice x.ca cs.length x.cc,.slice x.na a.2.length x.nc,.slice none 0 0,.int .i64 m.tries,.int .i64 3,.slice x.va x.vl x.vc,.slice x.fa x.fl x.fc,.string ⟨#[]⟩] 79 (0,0))):CSr w' b { x with wa:=none,wc:=0 } cs a (Zfz m) :=
 h.upd hk hb ⟨rfl,rfl,rfl,rfl⟩ ⟨[],RowL.nil _⟩ (fun h=>by simp [Zfz] at h)
theorem CSr.stat {w w':World} {b:Nat} {x:CX} {cs:List Cls} {a:List (List Sym) × Names} {m:SN} (h:CSr w b x cs a m) (st:Nat) (hst:st≠1) (hk:Kept (only b) w w') (hb:w'.heap[b]?=some (.cells (x.cells cs.length a.2.length m.way.length m.tries st m.tree) 79 (0,0))):CSr w' b x cs a { m with status:=st } :=
 h.upd hk hb ⟨rfl,rfl,rfl,rfl⟩ h.way (fun h=>absurd h hst)
theorem Zwz {m:SN} (h:m.status=0):m = { m with status:=0 }:=by
 obtain ⟨p1,p2,p3,p4,p5⟩:=m
 simp only at h
 subst h
 rfl
theorem Yah {w:World} {b:Nat} {x x':CX} (h:Zga w x x') {i:Nat} (hi:i<w.heap.size) (ho:ownS b x' i):ownS b x i:=by
 rcases ho with rfl | ho
 ·exact Or.inl rfl
 ·rcases h.1 i ho with h | h
  ·exact Or.inr h
  ·omega
set_option maxRecDepth 20000 in
theorem Ycv (w:World) (b:Nat) (x:CX) (cs:List Cls) (a:List (List Sym) × Names) (m:SN) (n:Nat) (h:CSr w b x cs a m) (hI:InvN cs a m) (hcs:∀ c ∈ cs,COk c∧CNm c) (hcf:∀ c ∈ cs,CFew c) (hcl:cs.length≤24) (hn:n≤3000) (hm:m.status≠2∧m.status≠3) :
  Calls Tryz.prog 29 #[.pointer (some ⟨b,0,none⟩),.int .i64 n] w fun e w'=>e = .returned (.tuple #[.int .i64 (Zdf cs n m).2,.int .i64 0])∧∃ x',Kept (ownS b x) w w'∧CSr w' b x' cs a (Zdf cs n m).1∧Zga w x x':=by
 obtain ⟨st0,hst0⟩:∃ z,z=m.status:=⟨_,rfl⟩
 have hm2:((st0:Int) == 2)=false:=by rw [Qu]; omega
 have hm3:((st0:Int) == 3)=false:=by rw [Qu]; omega
 have hbx:=h.box
 obtain ⟨ca,cc,na,nc,wa,wc,va,vl,vc,fa,fl,fc⟩:=x
 simp only [CX.cells] at hbx
 rw [← hst0] at hbx
 obtain ⟨b0,b1,b2,b3,b4,b5,b6,b7,bf⟩:=box8 hbx
 have hbl:=Zab hbx
 obtain ⟨W0,hW0⟩:∃ W0,W0=((w.setCell ⟨b,4,none⟩ (.int .i64 0)).setCell ⟨b,5,none⟩ (.slice none 0 0)).setCell ⟨b,6,none⟩ (.slice none 0 0):=⟨_,rfl⟩
 have hK0:Kept (only b) w W0:=by rw [hW0]; exact (((Qx _ _).put 4 _).put 5 _).put 6 _
 have hC0:CSr W0 b ⟨ca,cc,na,nc,wa,wc,none,0,0,none,0,0⟩ cs a { m with status:=0 }:=h.upd hK0 (by rw [hW0]; exact Zaf (Zaf (Zaf hbx 4 _) 5 _) 6 _) ⟨rfl,rfl,rfl,rfl⟩ h.way (fun h=>by simp at h)
 have HK0:=Zac (hK0.mono (S':=ownS b ⟨ca,cc,na,nc,wa,wc,va,vl,vc,fa,fl,fc⟩) (fun i _ e=>Or.inl e))
 have HC0:=Zac hC0
 have HI0:=Zac (hI.seek hm.2)
 have HW0:=Zac hW0
 have Hcs:=Zac hcs
 have Hcf:=Zac hcf
 have Hm:=Zac hm
 clear h hI hcs hcf hm hbx hK0 hC0 hW0 hst0
 go_enter Tryz.func29,Tryz.ntmps29
 go_wp2
 rw [← HW0.out]
 go_loopg [6] (n+1) (fun gk mv wr=>∃ (j:Nat) (x':CX) (m':SN),mv = .int .i64 j∧j≤n∧n - j<gk∧Kept (ownS b ⟨ca,cc,na,nc,wa,wc,va,vl,vc,fa,fl,fc⟩) w wr∧CSr wr b x' cs a m'∧Zga w ⟨ca,cc,na,nc,wa,wc,va,vl,vc,fa,fl,fc⟩ x'∧InvN cs a m'∧Zct cs n { m with status:=0 }=((Zct cs (n - j) m').1,(Zct cs (n - j) m').2+j)∧m'.status≠2)
 case atStart=>exact ⟨0,_,{ m with status:=0 },by go_num,by omega,by omega,HK0.out,HC0.out,⟨fun k hk=>Or.inl hk,rfl,rfl,rfl,rfl⟩,HI0.out,by simp,by simp⟩
 case round =>
  clear b0 b1 b2 b3 b4 b5 b6 b7 bf HK0 HC0 HI0 HW0
  obtain ⟨j,⟨ca1,cc1,na1,nc1,wa1,wc1,va1,vl1,vc1,fa1,fl1,fc1⟩,m',rfl,hjn,hgk,hK,hC,hN,hI,hloop,hst2⟩:=hrel
  obtain ⟨st,hst⟩:∃ z,z=m'.status:=⟨_,rfl⟩
  obtain ⟨tr,htr⟩:∃ z,z=m'.tries:=⟨_,rfl⟩
  obtain ⟨zl,hzl⟩:∃ z,z=m'.way.length:=⟨_,rfl⟩
  have hst3:=hI.st
  have hT:=hI.tries
  have hbx:=hC.box
  simp only [CX.cells] at hbx
  rw [← hst,← htr,← hzl] at hbx
  obtain ⟨b0,b1,b2,b3,b4,b5,b6,b7,bf⟩:=box8 hbx
  have hbl1:=Zab hbx
  have Hm':Hid (st=m'.status∧tr=m'.tries∧zl=m'.way.length):=⟨hst,htr,hzl⟩
  have hstv:st=0∨st=1∨st=3:=by omega
  have hzlb:zl≤100000:=by have:=hI.len; omega
  have HK:=Zac hK
  have HC:=Zac hC
  have HN:=Zac hN
  have HI:=Zac hI
  have Hloop:=Zac hloop
  have Hbx:=Zac hbx
  have Hend:Hid (Zct cs (n - j) m'=(m',0)→∀ w',(∃ x',Kept (only b) wr w'∧CSr w' b x' cs a (endN m')∧(x'.wa=wa1∨x'.wa=none)∧x'.ca=ca1∧x'.cc=cc1∧x'.na=na1∧x'.nc=nc1)→(Ending.returned (.tuple #[.int .i64 j,.int .i64 0])) = .returned (.tuple #[.int .i64 (Zdf cs n m).2,.int .i64 0])∧∃ x',Kept (ownS b ⟨ca,cc,na,nc,wa,wc,va,vl,vc,fa,fl,fc⟩) w w'∧CSr w' b x' cs a (Zdf cs n m).1∧Zga w ⟨ca,cc,na,nc,wa,wc,va,vl,vc,fa,fl,fc⟩ x'):=fun hl w' ⟨x',h1,h2,h3,h4,h5,h6,h7⟩=>by
   rw [Ycu (n:=n) (j:=j) Hm.out hloop hl]
   refine ⟨rfl,x',hK.trans (h1.mono (fun i _ e=>Or.inl e)),h2,⟨fun k hk => ?_,h4.trans hN.2.1,h5.trans hN.2.2.1,h6.trans hN.2.2.2.1,h7.trans hN.2.2.2.2⟩⟩
   rcases h3 with h3 | h3
   ·rw [h3] at hk; exact hN.1 k hk
   ·rw [h3] at hk; obtain ⟨p,hp,_⟩:=hk; simp at hp
  clear hK hC hN hI hloop hbx hst htr hzl hst2 hst3 hT
  by_cases hs0:st=0
  ·subst hs0
   have HM0:Hid (m'.status=0):=Hm'.out.1.symm
   have HSw:=Zac (Yez wr b ⟨ca1,cc1,na1,nc1,wa1,wc1,va1,vl1,vc1,fa1,fl1,fc1⟩ cs a m' HC.out)
   by_cases hlt:j<n
   ·by_cases hz0:zl=0
    ·have HW:Hid (m'.way=[]):=List.eq_nil_of_length_eq_zero (by rw [← Hm'.out.2.2]; exact hz0)
     subst hz0
     have hl0:=Zey (cs:=cs) (n:=n - j) (s:=m') (Or.inr (Or.inr (Or.inl HW.out)))
     have hsw:sweN m'=2:=by unfold sweN; rw [if_pos HW.out]
     rw [hsw] at HSw
     have hK5:Kept (only b) wr (wr.setCell ⟨b,4,none⟩ (.int .i64 2)):=(Qx _ _).put 4 _
     have Hfin:Hid (_∧_):=Hend.out hl0 _ ⟨⟨ca1,cc1,na1,nc1,wa1,wc1,va1,vl1,vc1,fa1,fl1,fc1⟩,hK5,by
      have e:endN m' = { m' with status:=2 }:=by unfold endN; rw [if_neg (by rw [HM0.out]; decide),if_pos HM0.out,if_pos HW.out]
      rw [e]
      exact HC.out.stat 2 (by decide) hK5 (by rw [← Hm'.out.2.1,← Hm'.out.2.2]; exact Zaf Hbx.out 4 _),Or.inl rfl,rfl,rfl,rfl,rfl⟩
     clear hl0 hsw hK5 Hend HC HI HN Hloop Hm'
     go_wp2_with fail
     refine HSw.out.mono ?_
     rintro e w1 ⟨rfl,rfl⟩
     go_wp2
     go_ret2
     exact Hfin.out
    ·have hwn:m'.way≠[]:=fun e=>hz0 (by rw [Hm'.out.2.2,e]; rfl)
     have hzi:(0:Int)<(zl:Int):=by omega
     have hz1:((zl:Int) == 0)=false:=by rw [Qu]; omega
     have Hwn:=Zac hwn
     clear hwn hz0
     by_cases ht3:tr<3000
     ·have hgT:(tr:Int)<3000:=by omega
      have HMk:=Zac (Zsr wr b ⟨ca1,cc1,na1,nc1,wa1,wc1,va1,vl1,vc1,fa1,fl1,fc1⟩ cs a m' HC.out HI.out HM0.out Hwn.out (by rw [← Hm'.out.2.1]; exact ht3) Hcs.out Hcf.out hcl)
      obtain ⟨n',k,r,c,hw1,hw2,hw3⟩:=HI.out.head Hwn.out
      obtain ⟨e1,e2,e3,e4⟩:=Zjb hw1 hw2 HM0.out
      have Hinv:Hid (InvN cs a (Zay cs m')∧(Zay cs m').status≠2):=⟨HI.out.try' hcl HM0.out hw1 hw2 (by rw [← Hm'.out.2.1]; exact ht3),by rw [e2]; exact Yag _ _ _⟩
      have Hlp:Hid (Zct cs n { m with status:=0 }=((Zct cs (n - (j+1)) (Zay cs m')).1,(Zct cs (n - (j+1)) (Zay cs m')).2+(j+1))):=by
       have h1:=Hloop.out
       rw [show n - j=(n - (j+1))+1 by omega,Yct HM0.out Hwn.out (by rw [← Hm'.out.2.1]; exact ht3)] at h1
       show _=_
       rw [h1]
       simp; omega
      clear ht3 hw1 hw2 hw3 e1 e2 e3 e4
      go_wp2_with fail
      refine HMk.out.mono ?_
      rintro e w1 ⟨rfl,x1,hK1,hC1,hN1⟩
      have HK1:=Zac hK1
      have HC1:=Zac hC1
      have HN1:=Zac hN1
      clear hK1 hC1 hN1 b0 b1 b2 b3 b4 b5 b6 b7 bf
      go_wp2
      go_roundg (n - j)
      case measure=>omega
      case rel =>
       refine ⟨j+1,x1,Zay cs m',by go_num,by omega,by omega,HK.out.then HK1.out (fun i hi ho=>Yah HN.out hi ho),HC1.out,⟨fun i hi => ?_,HN1.out.2.1.trans HN.out.2.1,HN1.out.2.2.1.trans HN.out.2.2.1,HN1.out.2.2.2.1.trans HN.out.2.2.2.1,HN1.out.2.2.2.2.trans HN.out.2.2.2.2⟩,Hinv.out.1,Hlp.out,Hinv.out.2⟩
       rcases HN1.out.1 i hi with h | h
       ·exact HN.out.1 i h
       ·exact Or.inr (Qq HK.out.size h)
     ·have hgT:¬ (tr:Int)<3000:=by omega
      have ht3':3000≤tr:=by omega
      clear ht3
      have hl0:=Zey (cs:=cs) (n:=n - j) (s:=m') (Or.inr (Or.inr (Or.inr (by rw [← Hm'.out.2.1]; exact ht3'))))
      have hsw:sweN m'=3:=by unfold sweN; rw [if_neg Hwn.out,if_pos (by rw [← Hm'.out.2.1]; exact ht3')]
      rw [hsw] at HSw
      have hK5:Kept (only b) wr (((wr.setCell ⟨b,4,none⟩ (.int .i64 3)).setCell ⟨b,2,none⟩ (.slice none 0 0)).setCell ⟨b,7,none⟩ (.string ⟨#[]⟩)):=(((Qx _ _).put 4 _).put 2 _).put 7 _
      have Hfin:Hid (_∧_):=Hend.out hl0 _ ⟨_,hK5,by
       have e:endN m'=Zfz m':=by unfold endN; rw [if_neg (by rw [HM0.out]; decide),if_pos HM0.out,if_neg Hwn.out,if_pos (by rw [← Hm'.out.2.1]; exact ht3')]
       rw [e]
       exact HC.out.full hK5 (by rw [← Hm'.out.2.1]; exact Zaf (Zaf (Zaf Hbx.out 4 _) 2 _) 7 _),Or.inr rfl,rfl,rfl,rfl,rfl⟩
      clear hl0 hsw hK5 Hend HC HI HN Hloop Hm' ht3'
      go_wp2_with fail
      refine HSw.out.mono ?_
      rintro e w1 ⟨rfl,rfl⟩
      go_wp2
      go_ret2
      exact Hfin.out
   ·by_cases hz0:zl=0
    ·have HW:Hid (m'.way=[]):=List.eq_nil_of_length_eq_zero (by rw [← Hm'.out.2.2]; exact hz0)
     subst hz0
     have hl0:=Zey (cs:=cs) (n:=n - j) (s:=m') (Or.inl (by omega))
     have hsw:sweN m'=2:=by unfold sweN; rw [if_pos HW.out]
     rw [hsw] at HSw
     have hK5:Kept (only b) wr (wr.setCell ⟨b,4,none⟩ (.int .i64 2)):=(Qx _ _).put 4 _
     have Hfin:Hid (_∧_):=Hend.out hl0 _ ⟨⟨ca1,cc1,na1,nc1,wa1,wc1,va1,vl1,vc1,fa1,fl1,fc1⟩,hK5,by
      have e:endN m' = { m' with status:=2 }:=by unfold endN; rw [if_neg (by rw [HM0.out]; decide),if_pos HM0.out,if_pos HW.out]
      rw [e]
      exact HC.out.stat 2 (by decide) hK5 (by rw [← Hm'.out.2.1,← Hm'.out.2.2]; exact Zaf Hbx.out 4 _),Or.inl rfl,rfl,rfl,rfl,rfl⟩
     clear hl0 hsw hK5 Hend HC HI HN Hloop Hm'
     go_wp2_with fail
     refine HSw.out.mono ?_
     rintro e w1 ⟨rfl,rfl⟩
     go_wp2
     go_ret2
     exact Hfin.out
    ·have hwn:m'.way≠[]:=fun e=>hz0 (by rw [Hm'.out.2.2,e]; rfl)
     have Hwn:=Zac hwn
     clear hwn hz0
     by_cases ht3':3000≤tr
     ·have hl0:=Zey (cs:=cs) (n:=n - j) (s:=m') (Or.inl (by omega))
      have hsw:sweN m'=3:=by unfold sweN; rw [if_neg Hwn.out,if_pos (by rw [← Hm'.out.2.1]; exact ht3')]
      rw [hsw] at HSw
      have hK5:Kept (only b) wr (((wr.setCell ⟨b,4,none⟩ (.int .i64 3)).setCell ⟨b,2,none⟩ (.slice none 0 0)).setCell ⟨b,7,none⟩ (.string ⟨#[]⟩)):=(((Qx _ _).put 4 _).put 2 _).put 7 _
      have Hfin:Hid (_∧_):=Hend.out hl0 _ ⟨_,hK5,by
       have e:endN m'=Zfz m':=by unfold endN; rw [if_neg (by rw [HM0.out]; decide),if_pos HM0.out,if_neg Hwn.out,if_pos (by rw [← Hm'.out.2.1]; exact ht3')]
       rw [e]
       exact HC.out.full hK5 (by rw [← Hm'.out.2.1]; exact Zaf (Zaf (Zaf Hbx.out 4 _) 2 _) 7 _),Or.inr rfl,rfl,rfl,rfl,rfl⟩
      clear hl0 hsw hK5 Hend HC HI HN Hloop Hm' ht3'
      go_wp2_with fail
      refine HSw.out.mono ?_
      rintro e w1 ⟨rfl,rfl⟩
      go_wp2
      go_ret2
      exact Hfin.out
     ·have hl0:=Zey (cs:=cs) (n:=n - j) (s:=m') (Or.inl (by omega))
      have hsw:sweN m'=0:=by unfold sweN; rw [if_neg Hwn.out,if_neg (by rw [← Hm'.out.2.1]; exact ht3')]
      rw [hsw] at HSw
      have hK5:Kept (only b) wr (wr.setCell ⟨b,4,none⟩ (.int .i64 0)):=(Qx _ _).put 4 _
      have Hfin:Hid (_∧_):=Hend.out hl0 _ ⟨⟨ca1,cc1,na1,nc1,wa1,wc1,va1,vl1,vc1,fa1,fl1,fc1⟩,hK5,by
       have e:endN m' = { m' with status:=0 }:=by
        unfold endN
        rw [if_neg (by rw [HM0.out]; decide),if_pos HM0.out,if_neg Hwn.out,if_neg (by rw [← Hm'.out.2.1]; exact ht3')]
        exact Zwz HM0.out
       rw [e]
       exact HC.out.stat 0 (by decide) hK5 (by rw [← Hm'.out.2.1,← Hm'.out.2.2]; exact Zaf Hbx.out 4 _),Or.inl rfl,rfl,rfl,rfl,rfl⟩
      clear hl0 hsw hK5 Hend HC HI HN Hloop Hm' ht3'
      go_wp2_with fail
      refine HSw.out.mono ?_
      rintro e w1 ⟨rfl,rfl⟩
      go_wp2
      go_ret2
      exact Hfin.out
  ·have hne':m'.status≠0:=by rw [← Hm'.out.1]; exact hs0
   have hl0:=Zey (cs:=cs) (n:=n - j) (s:=m') (Or.inr (Or.inl hne'))
   rcases hstv with rfl | rfl | rfl
   ·exact absurd rfl hs0
   ·have Hfin:Hid (_∧_):=Hend.out hl0 wr ⟨⟨ca1,cc1,na1,nc1,wa1,wc1,va1,vl1,vc1,fa1,fl1,fc1⟩,Qx _ _,by
     have e:endN m'=m':=by simp [endN,show m'.status=1 from Hm'.out.1.symm]
     rw [e]; exact HC.out,Or.inl rfl,rfl,rfl,rfl,rfl⟩
    clear hs0 hne' hl0 Hend HC HI HN Hloop Hm'
    by_cases hlt:j<n
    all_goals
     go_wp2
     go_ret2
     exact Hfin.out
   ·have hK5:Kept (only b) wr ((wr.setCell ⟨b,2,none⟩ (.slice none 0 0)).setCell ⟨b,7,none⟩ (.string ⟨#[]⟩)):=((Qx _ _).put 2 _).put 7 _
    have Hfin:Hid (_∧_):=Hend.out hl0 _ ⟨_,hK5,by
     have e:endN m'=Zfz m':=by unfold endN; rw [if_pos Hm'.out.1.symm]
     rw [e]
     exact HC.out.full hK5 (by rw [← Hm'.out.2.1]; exact Zaf (Zaf Hbx.out 2 _) 7 _),Or.inr rfl,rfl,rfl,rfl,rfl⟩
    clear hs0 hne' hl0 hK5 Hend HC HI HN Hloop Hm'
    by_cases hlt:j<n
    all_goals
     go_wp2
     go_ret2
     exact Hfin.out
theorem Ycw (w:World) (ua:Option Addr) (uc:Nat) (ks:List Nat) (h:w.ownsRow 0 3 1 (.slice ua ks.length uc) ks.length (ints ks)) (hl:ks.length≤1000) (hk:∀ k ∈ ks,k<24) :
  Calls Tryz.prog 46 #[.slice ua ks.length uc] w fun e w'=>e = .returned (.string ⟨(Zek [] ks).toArray⟩)∧w'=w:=by
 obtain ⟨F,hF⟩:∃ F,F=Zek [] ks:=⟨_,rfl⟩
 rw [← hF]
 have hFl:F.length≤200000:=by
  have:=Zwm ks [] (by simp) (fun k hk'=>by have:=hk k hk'; omega)
  rw [← hF] at this
  omega
 obtain ⟨L,hL⟩:∃ L,L=ks.length:=⟨_,rfl⟩
 rw [← hL] at h hl ⊢
 have HU:=Zac h
 have HF:=Zac hF
 have Hk:=Zac hk
 have HL:=Zac hL
 clear h hF hk hL
 go_enter Tryz.func46,Tryz.ntmps46
 go_wp2
 go_loopg [3,8] (L+1) (fun gk tx i wr=>∃ (j:Nat) (dt:List UInt8),i = .int .i64 j∧j≤L∧L - j<gk∧tx = .string ⟨dt.toArray⟩∧wr=w ∧
  dt++Zek (if j=0 then [] else [46]) (ks.drop j)=F)
 case atStart=>exact ⟨0,[],by go_num,Qm _,by omega,rfl,rfl,by simp [HF.out]⟩
 case round =>
  obtain ⟨j,dt,rfl,hj,hgk,rfl,rfl,hdt⟩:=hrel
  have hdl:dt.length≤200000:=by
   have h1:=congrArg List.length hdt
   simp only [Qg] at h1
   omega
  have Hdt:=Zac hdt
  clear hdt
  by_cases hlt:j<L
  ·have hlt':j<ks.length:=by rw [← HL.out]; exact hlt
   obtain ⟨u,hu⟩:∃ u,ks[j]?=some u:=⟨_,Qb hlt'⟩
   have hdu:ks.drop j=u::ks.drop (j+1):=by
    rw [List.drop_eq_getElem_cons hlt',(Qa.1 hu).2]
   obtain ⟨ub,ucap',ucur,hue,hBu,hub,hucp⟩:=Zao HU.out (by omega)
   simp only [Value.slice.injEq] at hue
   obtain ⟨rfl,_,rfl⟩:=hue
   have z0:wr.cell? ⟨ub,j,none⟩=some (.int .i64 u):=Zai HU.out j _ (by simp only [ints,Qj,hu,Option.map_some])
   have hu24:=Hk.out u (Qh hu)
   have HD:=Zac (Znl u wr (by omega))
   obtain ⟨X,hX⟩:∃ X,X=Lib.decDigits u:=⟨_,rfl⟩
   rw [← hX] at HD
   have hul1:X.length≤30:=by rw [hX]; have:=Zjf u; omega
   by_cases h0:j=0
   ·have hk0:¬ (0:Int)<(j:Int):=by omega
    have Hd0:Hid ((dt++X)++Zek [46] (ks.drop (j+1))=F):=by
     have h1:=Hdt.out
     rw [hdu,if_pos h0] at h1
     simp only [Zek] at h1
     show _=_
     rw [← h1,hX]; simp
    have Hstr:=Zac (Zbg dt X)
    clear h0 hu hdu hub Hdt hX hlt'
    go_wp2_with fail
    refine HD.out.mono ?_
    rintro e w1 ⟨rfl,rfl⟩
    go_wp2
    go_roundg (L - j)
    case measure=>omega
    case rel=>exact ⟨j+1,dt++X,by go_num,by omega,by omega,by rw [← Hstr.out],rfl,by simpa using Hd0.out⟩
   ·have hk0:(0:Int)<(j:Int):=by omega
    have Hd0:Hid ((dt++[46]++X)++Zek [46] (ks.drop (j+1))=F):=by
     have h1:=Hdt.out
     rw [hdu,if_neg h0] at h1
     simp only [Zek] at h1
     show _=_
     rw [← h1,hX]; simp
    have Hstr:=Zac (Zbg (dt++[46]) X)
    have Hstr1:=Zac (Zbg dt [46])
    clear h0 hu hdu hub Hdt hX hlt'
    go_wp2_with fail
    refine HD.out.mono ?_
    rintro e w1 ⟨rfl,rfl⟩
    go_wp2
    go_roundg (L - j)
    case measure=>omega
    case rel=>exact ⟨j+1,dt++[46]++X,by go_num,by omega,by omega,by rw [← Hstr.out,← Hstr1.out],rfl,by simpa using Hd0.out⟩
  ·have he:j=L:=by omega
   have Hfin:Hid (dt=F):=by
    have h1:=Hdt.out
    rw [he,HL.out,List.drop_length] at h1
    show _=_
    simpa [Zek] using h1
   clear Hdt he
   go_wp2
   go_ret
   rw [Hfin.out]
   exact ⟨rfl,rfl⟩
theorem Zll (w:World) (b:Nat) (x:CX) (cs:List Cls) (a:List (List Sym) × Names) (m:SN) (h:CSr w b x cs a m) :
  Calls Tryz.prog 30 #[.pointer (some ⟨b,0,none⟩)] w fun e w'=>e = .returned (.int .i64 m.status)∧w'=w:=by
 have hbx:=h.box
 obtain ⟨ca,cc,na,nc,wa,wc,va,vl,vc,fa,fl,fc⟩:=x
 simp only [CX.cells] at hbx
 obtain ⟨b0,b1,b2,b3,b4,b5,b6,b7,bf⟩:=box8 hbx
 have hbl:=Zab hbx
 clear h hbx
 go_enter Tryz.func30,Tryz.ntmps30
 go_wp2
 go_ret
 exact ⟨rfl,rfl⟩
theorem Zlm (w:World) (b:Nat) (x:CX) (cs:List Cls) (a:List (List Sym) × Names) (m:SN) (h:CSr w b x cs a m) :
  Calls Tryz.prog 33 #[.pointer (some ⟨b,0,none⟩)] w fun e w'=>e = .returned (.string ⟨(Zcs a m.status m.found m.tree).2.2.toArray⟩)∧w'=w:=by
 have hbx:=h.box
 obtain ⟨ca,cc,na,nc,wa,wc,va,vl,vc,fa,fl,fc⟩:=x
 simp only [CX.cells] at hbx
 obtain ⟨b0,b1,b2,b3,b4,b5,b6,b7,bf⟩:=box8 hbx
 have hbl:=Zab hbx
 obtain ⟨st,hst⟩:∃ z,z=m.status:=⟨_,rfl⟩
 rw [← hst] at b4 ⊢
 clear h hbx hst
 by_cases h2:st=2
 ·subst h2
  have Ht:Hid ((Zcs a 2 m.found m.tree).2.2=m.tree):=by show _=_; simp [Zcs]
  rw [Ht.out]
  go_enter Tryz.func33,Tryz.ntmps33
  go_wp2
  go_ret
  exact ⟨rfl,rfl⟩
 ·have Ht:Hid ((Zcs a st m.found m.tree).2.2=[]):=by
   show _=_
   unfold Zcs
   split
   ·rfl
   ·rfl
  rw [Ht.out]
  have hb:((st:Int) != 2)=true:=by rw [bne_iff_ne]; omega
  clear h2 Ht
  go_enter Tryz.func33,Tryz.ntmps33
  go_wp2
  go_ret
  exact ⟨rfl,rfl⟩
theorem Zkc (w:World) (b:Nat) (x:CX) (cs:List Cls) (a:List (List Sym) × Names) (m:SN) (h:CSr w b x cs a m) (hI:InvN cs a m) (hcl:cs.length≤24) :
  Calls Tryz.prog 32 #[.pointer (some ⟨b,0,none⟩)] w fun e w'=>e = .returned (.string ⟨(Zcs a m.status m.found m.tree).2.1.toArray⟩)∧w'=w:=by
 have hbx:=h.box
 obtain ⟨ca,cc,na,nc,wa,wc,va,vl,vc,fa,fl,fc⟩:=x
 simp only [CX.cells] at hbx
 obtain ⟨b0,b1,b2,b3,b4,b5,b6,b7,bf⟩:=box8 hbx
 have hbl:=Zab hbx
 by_cases h1:m.status=1
 ·obtain ⟨⟨n,_,hOk,_,hS⟩,ho⟩:=h.found h1
  have hu:=(hI.found h1).2.2
  have hul:m.found.used.length≤1000:=by rw [← hS.used]; have:=hOk.ul; omega
  obtain ⟨g1,g2,he⟩:=Zae ho
  simp only [Value.slice.injEq] at he
  obtain ⟨rfl,hfl,rfl⟩:=he
  rw [hfl] at ho b6
  have HX:=Zac (Ycw w fa fc m.found.used ho hul (fun k hk=>by have:=hu k hk; omega))
  have Ht:Hid ((Zcs a m.status m.found m.tree).2.1=Zek [] m.found.used):=by show _=_; simp [Zcs,h1,Zis]
  rw [Ht.out]
  rw [h1] at b4
  clear h hI hbx h1 ho hu hul hOk hS Ht
  go_enter Tryz.func32,Tryz.ntmps32
  go_wp2_with fail
  refine HX.out.mono ?_
  rintro e w1 ⟨rfl,rfl⟩
  go_wp2
  go_ret
  exact ⟨rfl,rfl⟩
 ·obtain ⟨st,hst⟩:∃ z,z=m.status:=⟨_,rfl⟩
  rw [← hst] at b4 h1 ⊢
  have Ht:Hid ((Zcs a st m.found m.tree).2.1=[]):=by
   show _=_
   unfold Zcs
   rw [if_neg h1]
   split <;> rfl
  rw [Ht.out]
  have hb:((st:Int) != 1)=true:=by rw [bne_iff_ne]; omega
  clear h hI hbx h1 Ht hst
  go_enter Tryz.func32,Tryz.ntmps32
  go_wp2
  go_ret
  exact ⟨rfl,rfl⟩
def OnePh (W:World) (A:Value):List Value→World→Prop
 | [],y=>y=W
 | [v],y=>v=A∧Ext W y
 | _,_=>False
theorem OnePh.at {W:World} {A:Value} {vs:List Value} {y:World} (h:OnePh W A vs y):vs.length≤0→y=W:=by
 match vs,h with
 | [],h=>exact fun _=>h
 | [v],h=>exact fun h=>by simp at h
theorem Zln (w:World) (b:Nat) (x:CX) (cs:List Cls) (q:ByteArray) (a:List (List Sym) × Names) (m:SN) (h:CSr w b x cs a m) (hI:InvN cs a m) (hask:Zdt q=some a) :
  Calls Tryz.prog 31 #[.pointer (some ⟨b,0,none⟩)] w fun e w'=>e = .returned (.string ⟨(Zcs a m.status m.found m.tree).1.toArray⟩)∧Ext w w':=by
 have hbx:=h.box
 obtain ⟨ca,cc,na,nc,wa,wc,va,vl,vc,fa,fl,fc⟩:=x
 simp only [CX.cells] at hbx
 obtain ⟨b0,b1,b2,b3,b4,b5,b6,b7,bf⟩:=box8 hbx
 have hbl:=Zab hbx
 by_cases h1:m.status=1
 ·obtain ⟨⟨n,hv,hOk,hNm,hS⟩,ho⟩:=h.found h1
  obtain ⟨_,hvl,_⟩:=hI.found h1
  obtain ⟨_,_,_,_,_,_,_,_,ha8⟩:=Zcm hask
  have ha6:=Zlh hask
  have hnl:n.vals.length=a.2.length:=by rw [hS.vl,hvl]
  have hnm:=h.names
  simp only at hnm hv
  have hans:Zbb a.2 n=Zbb a.2 m.found:=by unfold Zbb; rw [hS.valsC hOk]
  have HA:Hid (Calls Tryz.prog 39 #[.slice na a.2.length nc,.slice va vl vc] w.drew fun e w'=>Ext w.drew w'∧e = .returned (.string ⟨(Zbb a.2 n).toArray⟩)):=by
   have hE:Ext w w.drew:=⟨rfl,rfl,rfl,Qe _,fun _ _=>rfl⟩
   exact Zfr _ _ _ a.2 n.vals (Zaj hnm (fun j hj=>hE.block j (hnm.lt j hj).2)) (hv.ext hE) (Zsh hOk hNm (by omega)) hnl.symm (Zjs hOk hNm (by omega) ha6 ha8)
  have Ht:Hid ((Zcs a m.status m.found m.tree).1=Zbb a.2 m.found):=by show _=_; simp [Zcs,h1]
  rw [Ht.out,← hans]
  obtain ⟨Y,hY⟩:∃ Y,Y=Zbb a.2 n:=⟨_,rfl⟩
  rw [← hY] at HA ⊢
  rw [h1] at b4
  clear h hI hbx h1 ho hOk hNm hS hv hvl ha8 ha6 hnl hnm hans Ht hY hask
  go_enter Tryz.func31,Tryz.ntmps31
  go_wp2_with fail
  refine Zfe (by kernel_rfl) [.rd 0 1 (fun _ => .pointer (some ⟨b,0,none⟩)),.rd 0 1 (fun _ => .pointer (some ⟨b,0,none⟩)),.rd 0 1 (fun _ => .pointer (some ⟨b,1,none⟩)),.rd 0 0 (fun _ => .slice na a.2.length nc),.rd 0 1 (fun _ => .pointer (some ⟨b,0,none⟩)),.rd 0 1 (fun _ => .pointer (some ⟨b,0,none⟩)),.rd 0 1 (fun _ => .pointer (some ⟨b,5,none⟩)),.rd 0 0 (fun _ => .slice va vl vc),.st 0,.rd 1 1 (fun _ => .string ⟨Y.toArray⟩)] 1 7 (by kernel_rfl) (OnePh w.drew (.string ⟨Y.toArray⟩)) rfl ?_ ?_
  ·refine ⟨⟨trivial,fun vs y _ hl hS => ?_⟩,⟨trivial,fun vs y _ hl hS => ?_⟩,⟨trivial,fun vs y _ hl hS => ?_⟩,⟨trivial,fun vs y _ hl hS => ?_⟩,⟨trivial,fun vs y _ hl hS => ?_⟩,⟨trivial,fun vs y _ hl hS => ?_⟩,⟨trivial,fun vs y _ hl hS => ?_⟩,⟨trivial,fun vs y _ hl hS => ?_⟩,⟨trivial,fun vs y hl hS => ?_⟩,⟨trivial,fun vs y hl0 hl hS => ?_⟩,trivial⟩
   ·simp [phAll,phA,pa,Ph.kd,Ph.val,Kd.val,go_sem]
   ·simp [phAll,phA,pa,Ph.kd,Ph.val,Kd.val,go_sem]
   ·simp [phAll,phA,pa,Ph.kd,Ph.val,Kd.val,go_sem]
   ·obtain rfl:=hS.at hl
    simp [phAll,phA,pa,Ph.kd,Ph.val,Kd.val,go_sem,b1]
   ·simp [phAll,phA,pa,Ph.kd,Ph.val,Kd.val,go_sem]
   ·simp [phAll,phA,pa,Ph.kd,Ph.val,Kd.val,go_sem]
   ·simp [phAll,phA,pa,Ph.kd,Ph.val,Kd.val,go_sem]
   ·obtain rfl:=hS.at hl
    simp [phAll,phA,pa,Ph.kd,Ph.val,Kd.val,go_sem,b5]
   ·obtain rfl:=List.length_eq_zero_iff.1 hl
    obtain rfl:y=w.drew:=hS
    refine .call 39 #[.slice na a.2.length nc,.slice va vl vc] _ (by simp [phAll,phA,pa,Ph.kd,Ph.val,Kd.val,go_sem]) (HA.out.mono ?_)
    rintro e u ⟨hE,rfl⟩
    exact ⟨_,rfl,rfl,hE⟩
   ·obtain ⟨v,rfl⟩:=List.length_eq_one_iff.1 (show vs.length=1 by omega)
    obtain ⟨rfl,_⟩:=hS
    simp [phAll,phA,pa,Ph.kd,Ph.val,Kd.val,go_sem]
  rintro vs y hl hS
  obtain ⟨v,rfl⟩:=List.length_eq_one_iff.1 hl
  obtain ⟨hv,hy⟩:=hS
  have Hy:=Zac hy
  simp only [phAll,phA,paAll,pa,Ph.kd,Ph.val,Kd.val,List.map_cons,List.map_nil,if_true,Act.put,List.setIfInBounds_toArray,List.set_cons_succ,List.set_cons_zero]
  clear hv hy b0 b1 b2 b3 b4 b5 b6 b7 bf
  go_wp2
  go_ret
  exact ⟨rfl,Hy.out.undrew⟩
 ·obtain ⟨st,hst⟩:∃ z,z=m.status:=⟨_,rfl⟩
  rw [← hst] at b4 h1 ⊢
  have Ht:Hid ((Zcs a st m.found m.tree).1=[]):=by
   show _=_
   unfold Zcs
   rw [if_neg h1]
   split <;> rfl
  rw [Ht.out]
  have hb:((st:Int) != 1)=true:=by rw [bne_iff_ne]; omega
  clear h hI hbx h1 Ht hst
  go_enter Tryz.func31,Tryz.ntmps31
  go_wp2
  go_ret
  exact ⟨rfl,Ext.of (Qx _ _)⟩
def Yai (w0 w:World) (b:Nat) (cv nv:Value) (s:ByteArray) (M:HM) (e:Ending) (w':World):Prop:=FrT w w'∧e = .returned (.bool M.ok)∧HoIn w0 w' b cv nv s M.at' M.way M.ans
theorem HoIn.grow {w0 w w':World} {b:Nat} {cv nv:Value} {s:ByteArray} {p:Nat} {way:List (ND × Nat)} {A:List (List UInt8)} (h:HoIn w0 w b cv nv s p way A) (e:Ext w w'):HoIn w0 w' b cv nv s p way A:=by
 obtain ⟨wa,wc,aa,ac,h⟩:=h
 exact ⟨wa,wc,aa,ac,h.grow e⟩
theorem CHo.answer {w0 w w1:World} {b:Nat} {cv nv:Value} {s:ByteArray} {p:Nat} {way:List (ND × Nat)} {A:List (List UInt8)} {wa:Option Addr} {wc:Nat} {aa aa':Option Addr} {ac ac':Nat} {Y:List UInt8} (h:CHo w0 w b cv nv s p way A wa wc aa ac)
  (ha:Appended w w0.heap.size 9 1 (.slice aa A.length ac) (A.length+1) (strs A++[.string ⟨Y.toArray⟩]) (.slice aa' (A.length+1) ac') w1) :
  w1.heap[b]?=w.heap[b]?∧CHo w0 (w1.setCell ⟨b,5,none⟩ (.slice aa' (A.length+1) ac')) b cv nv s p way (A++[Y]) wa wc aa' ac'∧FrT w (w1.setCell ⟨b,5,none⟩ (.slice aa' (A.length+1) ac')):=by
 obtain ⟨ys,h2⟩:=h.row
 have hn:=Zes h.ans h.box (by decide)
 have hb1:w1.heap[b]?=w.heap[b]?:=ha.kept.block b (Zab h.box) (fun e=>hn b e rfl)
 have hF1:FrT w w1:=FrT.of_kept ha.kept (fun k e=>by
  rcases h.ans.2 with ⟨e',_⟩ | ⟨g,cap,cur,e',_,hg,_⟩
  ·rw [e'] at e; simp [Zbj,Value.ownBlock] at e
  ·rw [e'] at e
   simp [Zbj,Value.ownBlock] at e
   subst e
   exact ⟨_,_,_,hg,by simp [HoTy]⟩)
 have hrow1:RowH w0.heap.size w1 (.slice wa way.length wc) way.reverse ys:=h2.keep hF1 (fun k hj=>ha.kept.block k (h2.owns.lt k hj).2 (fun e=>by
  rcases h.ans.2 with ⟨e',_⟩ | ⟨g,cap,cur,e',_,hg,_⟩
  ·rw [e'] at e; simp [Zbj,Value.ownBlock] at e
  ·rw [e'] at e
   simp [Zbj,Value.ownBlock] at e
   subst e
   exact Zes h2.owns hg (by decide) _ hj rfl))
 have hE1:Ext w0 w1:=h.ext.trans (ha.kept.below h.ext.size (fun k e=>(h.ans.lt k e).1))
 have hbx1:=hb1.trans h.box
 have hK:Kept (only b) w1 (w1.setCell ⟨b,5,none⟩ (.slice aa' (A.length+1) ac')):=(Qx _ _).put 5 _
 have hF2:FrT w1 (w1.setCell ⟨b,5,none⟩ (.slice aa' (A.length+1) ac')):=FrT.of_kept hK (fun k e=>by
  have e:k=b:=e
  subst e
  exact ⟨_,_,_,hbx1,by simp [HoTy]⟩)
 have hl:(A++[Y]).length=A.length+1:=by simp
 have hs:strs (A++[Y])=strs A++[.string ⟨Y.toArray⟩]:=by simp [strs]
 refine ⟨hb1,⟨Zdj hE1 hK h.low,h.low,by rw [hl]; exact Zaf hbx1 5 _,⟨ys,hrow1.keep hF2 (fun k hj=>hK.block k (hrow1.owns.lt k hj).2 (Zes hrow1.owns hbx1 (by decide) k hj))⟩,?_⟩,hF1.trans hF2⟩
 rw [hl,hs]
 exact Zaj ha.owns (fun k hj=>hK.block k (ha.owns.lt k hj).2 (Zes ha.owns hbx1 (by decide) k hj))
theorem Zss (w0 w:World) (b:Nat) (cv nv:Value) (s:ByteArray) (p:Nat) (way:List (ND × Nat)) (A:List (List UInt8)) (names:Names) (gv vv rv uv:Value) (n:ND) (h:HoIn w0 w b cv nv s p way A) (hn:CNode w gv vv rv uv n) (hg:n.goals=[]) (hnv:w0.ownsRow 0 9 1 nv names.length (strs names)) (hvl:n.vals.length=names.length) (hs6:names.length≤60) (hns:∀ x ∈ names,x.length≤8) (hs:s.size≤20000) (hp:p≤s.size) (hA:A.length≤20000) :
  Calls Tryz.prog 49 #[.pointer (some ⟨b,0,none⟩),.agg #[gv,vv,rv,uv]] w (Yai w0 w b cv nv s (Zca names s.data.toList n p way A)):=by
 obtain ⟨ga,gc,va',vl',vc',ra,rl,rc,u,rfl,rfl,rfl,rfl,hu4⟩:=hn.shape
 obtain ⟨W,hW⟩:∃ W,W=w.alloc (.cells #[.slice ga n.goals.length gc,.slice va' vl' vc',.slice ra rl rc,.int .i64 u] 65):=⟨_,rfl⟩
 have hEW:Ext w W:=by rw [hW]; exact (Ext.of (by repeat' (first | with_reducible(first|exact Qx _ _|apply Kept.drew|apply Kept.drewN|apply Qz|refine Qy ?_ ?_ _)|exact fun h=>absurd h (by simp <;> omega))))
 have hbW:W.heap[w.heap.size]?=some (.cells #[.slice ga n.goals.length gc,.slice va' vl' vc',.slice ra rl rc,.int .i64 u] 65 (0,0)):=by rw [hW]; exact heap_alloc_new w _
 have HP:=Zac (Zoj w0 W b cv nv s p way A 33 (by decide) (h.grow hEW) hs hp)
 have hm:Zca names s.data.toList n p way A=if s.data.toList[p]?=some 33 then ⟨true,p+1,way,A++[Zbb names n]⟩ else ⟨false,p,way,A⟩:=by unfold Zca; rw [if_pos hg]
 obtain ⟨Y,hY⟩:∃ Y,Y=Zbb names n:=⟨_,rfl⟩
 rw [← hY] at hm
 obtain ⟨M,hM⟩:∃ M,M=Zca names s.data.toList n p way A:=⟨_,rfl⟩
 rw [← hM] at hm ⊢
 have Hm:=Zac hm
 have hbl:b<w.heap.size:=by
  obtain ⟨_,_,_,_,h⟩:=h
  exact Zab h.box
 have Hn:=Zac hn
 have HEW:=Zac hEW
 have HbW:=Zac hbW
 simp only [show ((33:UInt8).toNat:Int)=33 from rfl] at HP
 rw [hg,Jt] at hW HbW ⊢
 have HW:=Zac hW
 have Hnv:=Zac hnv
 obtain ⟨na,nc,rfl⟩:=Zae hnv
 clear h hn hm hEW hbW hW hg hnv hM
 go_enter Tryz.func49,Tryz.ntmps49
 go_wp2_with fail
 rw [← HW.out]
 refine HP.out.mono ?_
 rintro e w1 ⟨hF1,⟨hc,rfl,h1⟩ | ⟨hc,rfl,h1⟩⟩
 ·obtain ⟨wa1,wc1,aa1,ac1,h1⟩:=h1
  obtain ⟨b0,b1,b2,b3,b4,b5,bf⟩:=box6 h1.box
  have hx1:=hF1 _ _ _ _ HbW.out (by simp [HoTy])
  have v1:=Zaa hx1 1 _ rfl
  have hbl1:=Zab h1.box
  obtain ⟨n1,hN,hU,hOk,hNm,hFw,hS⟩:=(Hn.out.ext HEW.out).fr hF1
  have hnl:n1.vals.length=names.length:=by rw [hS.vl,hvl]
  have hans:Zbb names n1=Zbb names n:=by unfold Zbb; rw [hS.valsC hOk]
  have hnv1:=Zaj Hnv.out (fun j hj=>h1.ext.block j (Hnv.out.lt j hj).2)
  have HA:Hid (Calls Tryz.prog 39 #[.slice na names.length nc,.slice va' vl' vc'] w1.drew fun e w'=>Ext w1.drew w'∧e = .returned (.string ⟨(Zbb names n).toArray⟩)):=by
   have hE:Ext w1 w1.drew:=⟨rfl,rfl,rfl,Qe _,fun _ _=>rfl⟩
   rw [← hans]
   exact Zfr _ _ _ names n1.vals (Zaj hnv1 (fun j hj=>hE.block j (hnv1.lt j hj).2)) (hN.vals.ext hE) (Zsh hOk hNm (by omega)) hnl.symm (Zjs hOk hNm (by omega) hs6 hns)
  rw [← hY] at HA
  have Hm1:Hid (M=⟨true,p+1,way,A++[Y]⟩):=by show _=_; rw [Hm.out,if_pos hc]
  have H1:=Zac h1
  have HF1:=Zac ((FrT.of_ext HEW.out).trans hF1)
  clear h1 hF1 hx1 hN hU hOk hNm hFw hS hnl hans hnv1 hY HP hns
  go_wp2_with fail
  refine Zfe (by kernel_rfl) [.rd 0 1 (fun _ => .pointer (some ⟨b,0,none⟩)),.rd 0 1 (fun _ => .pointer (some ⟨b,0,none⟩)),.rd 0 1 (fun _ => .pointer (some ⟨b,1,none⟩)),.rd 0 0 (fun _ => .slice na names.length nc),.rd 0 1 (fun _ => .pointer (some ⟨w.heap.size,1,none⟩)),.rd 0 0 (fun _ => .slice va' vl' vc'),.st 0,.rd 1 1 (fun _ => .string ⟨Y.toArray⟩)] 1 7 (by kernel_rfl) (OnePh w1.drew (.string ⟨Y.toArray⟩)) rfl ?_ ?_
  ·refine ⟨⟨trivial,fun vs y _ hl hS => ?_⟩,⟨trivial,fun vs y _ hl hS => ?_⟩,⟨trivial,fun vs y _ hl hS => ?_⟩,⟨trivial,fun vs y _ hl hS => ?_⟩,⟨trivial,fun vs y _ hl hS => ?_⟩,⟨trivial,fun vs y _ hl hS => ?_⟩,⟨trivial,fun vs y hl hS => ?_⟩,⟨trivial,fun vs y hl0 hl hS => ?_⟩,trivial⟩
   ·simp [phAll,phA,pa,Ph.kd,Ph.val,Kd.val,go_sem]
   ·simp [phAll,phA,pa,Ph.kd,Ph.val,Kd.val,go_sem]
   ·simp [phAll,phA,pa,Ph.kd,Ph.val,Kd.val,go_sem]
   ·obtain rfl:=hS.at hl
    simp [phAll,phA,pa,Ph.kd,Ph.val,Kd.val,go_sem,b1]
   ·simp [phAll,phA,pa,Ph.kd,Ph.val,Kd.val,go_sem]
   ·obtain rfl:=hS.at hl
    simp [phAll,phA,pa,Ph.kd,Ph.val,Kd.val,go_sem,v1]
   ·obtain rfl:=List.length_eq_zero_iff.1 hl
    obtain rfl:y=w1.drew:=hS
    refine .call 39 #[.slice na names.length nc,.slice va' vl' vc'] _ (by simp [phAll,phA,pa,Ph.kd,Ph.val,Kd.val,go_sem]) (HA.out.mono ?_)
    rintro e u ⟨hE,rfl⟩
    exact ⟨_,rfl,rfl,hE⟩
   ·obtain ⟨v,rfl⟩:=List.length_eq_one_iff.1 (show vs.length=1 by omega)
    obtain ⟨rfl,_⟩:=hS
    simp [phAll,phA,pa,Ph.kd,Ph.val,Kd.val,go_sem]
  rintro vs y hl hS
  obtain ⟨v,rfl⟩:=List.length_eq_one_iff.1 hl
  obtain ⟨hv,hy⟩:=hS
  have hy2:=hy.undrew
  have h2:=H1.out.grow hy2
  have HF2:=Zac (HF1.out.trans (FrT.of_ext hy2))
  clear b0 b1 b2 b3 b4 b5 bf v1
  obtain ⟨b0,b1,b2,b3,b4,b5,bf⟩:=box6 h2.box
  have hbl2:=Zab h2.box
  have H2:=Zac h2
  simp only [phAll,phA,paAll,pa,Ph.kd,Ph.val,Kd.val,List.map_cons,List.map_nil,if_true,Act.put,List.setIfInBounds_toArray,List.set_cons_succ,List.set_cons_zero]
  clear hv hy hy2 h2
  go_wp2_with (at_builtin; go_loud (refine Zal y rfl (.tmp 24) (.tmp 26) 35 rfl w0.heap.size 9 Tryz.infoStr Tryz.underlying35 rfl (by decide) (.slice aa1 A.length ac1) A.length (strs A) rfl H2.out.ans #[.string ⟨Y.toArray⟩] rfl (by omega) rfl (by simp [Value.oneCell']) ?_ ?_ ?_))
  ·omega
  ·have:=H2.out.ext.size
   omega
  intro v' w2 hap
  obtain ⟨ga2,gc2,rfl⟩:=Zae hap.owns
  obtain ⟨hb2,hC2,hF3⟩:=H2.out.answer hap
  have hbx2:=hb2.trans H2.out.box
  have c5:=Zaa hbx2 5 _ rfl
  have cf:=fun i=>Zad hbx2 i
  have HC2:=Zac hC2
  have HF3:=Zac hF3
  have hbl3:=Zab hbx2
  clear hap hb2 hC2 hF3 hbx2 b0 b1 b2 b3 b4 b5 bf
  go_wp2
  go_ret
  rw [Hm1.out]
  exact ⟨HF2.out.trans HF3.out,rfl,_,_,_,_,HC2.out⟩
 ·have H1:=Zac h1
  have HF1:=Zac ((FrT.of_ext HEW.out).trans hF1)
  have Hm1:Hid (M=⟨false,p,way,A⟩):=by show _=_; rw [Hm.out,if_neg hc]
  clear h1 hF1 hc HP
  go_wp2
  go_ret
  rw [Hm1.out]
  exact ⟨HF1.out,rfl,H1.out⟩
theorem Tryz.infoLevelT:(Tryz.prog.info? 126).map (fun i=>(i.zero,i.size,i.bytes))=some (some (.agg #[.slice none 0 0,.slice none 0 0,.slice none 0 0,.int .i64 0,.int .i64 0]),5,88):=by kernel_rfl
theorem RowH.step {B:Nat} {w w':World} {cv cv':Value} {ds:List (ND × Nat)} {xs:List Value} {x0 x1 x2 x3:Value} {n:ND} {k:Nat} (h:RowH B w cv ds xs) (hn:CNode w x0 x1 x2 x3 n) (hF:FrT w w') (ho:w'.ownsRow B 126 5 cv' (ds.length+1) (xs++[x0,x1,x2,x3,.int .i64 k])) :
  RowH B w' cv' (ds++[(n,k)]) (xs++[x0,x1,x2,x3,.int .i64 k]):=by
 have hxl:=h.owns.1
 refine ⟨by simpa using ho,fun i d hd => ?_⟩
 rcases Nat.lt_or_ge i ds.length with hi | hi
 ·rw [Qc hi] at hd
  obtain ⟨p0,p1,p2,p3,y0,y1,y2,y3,y4,g⟩:=h.all i d hd
  exact ⟨p0,p1,p2,p3,by rw [Qc (by omega)]; exact y0,by rw [Qc (by omega)]; exact y1,by rw [Qc (by omega)]; exact y2,by rw [Qc (by omega)]; exact y3,by rw [Qc (by omega)]; exact y4,g.fr hF⟩
 ·have e:i=ds.length:=by
   have:=(Qa.1 hd).1
   simp at this; omega
  subst e
  rw [Qd (Qe _)] at hd
  simp at hd
  subst hd
  exact ⟨x0,x1,x2,x3,by rw [Qd (by omega)]; simp [hxl],by rw [Qd (by omega),show ds.length * 5+1 - xs.length=1 by omega]; rfl,by rw [Qd (by omega),show ds.length * 5+2 - xs.length=2 by omega]; rfl,by rw [Qd (by omega),show ds.length * 5+3 - xs.length=3 by omega]; rfl,by rw [Qd (by omega),show ds.length * 5+4 - xs.length=4 by omega]; rfl,hn.fr hF⟩
theorem CHo.push {w0 w w1:World} {b:Nat} {cv nv:Value} {s:ByteArray} {p:Nat} {way:List (ND × Nat)} {A:List (List UInt8)} {wa wa':Option Addr} {wc wc':Nat} {aa:Option Addr} {ac:Nat} {n:ND} {x0 x1 x2 x3:Value} {ys:List Value} (h:CHo w0 w b cv nv s p way A wa wc aa ac) (h2:RowH w0.heap.size w (.slice wa way.length wc) way.reverse ys) (hn:CNode w x0 x1 x2 x3 n)
  (ha:Appended w w0.heap.size 126 5 (.slice wa way.length wc) (way.length+1) (ys++[x0,x1,x2,x3,.int .i64 0]) (.slice wa' (way.length+1) wc') w1) :
  w1.heap[b]?=w.heap[b]?∧CHo w0 (w1.setCell ⟨b,4,none⟩ (.slice wa' (way.length+1) wc')) b cv nv s p ((n,0)::way) A wa' wc' aa ac∧FrT w (w1.setCell ⟨b,4,none⟩ (.slice wa' (way.length+1) wc')):=by
 have hn':=Zes h2.owns h.box (by decide)
 have hb1:w1.heap[b]?=w.heap[b]?:=ha.kept.block b (Zab h.box) (fun e=>hn' b e rfl)
 have hF1:FrT w w1:=FrT.of_kept ha.kept (fun k e=>by
  rcases h2.owns.2 with ⟨e',_⟩ | ⟨g,cap,cur,e',_,hg,_⟩
  ·rw [e'] at e; simp [Zbj,Value.ownBlock] at e
  ·rw [e'] at e
   simp [Zbj,Value.ownBlock] at e
   subst e
   exact ⟨_,_,_,hg,by simp [HoTy]⟩)
 have hrow1:=h2.step (k:=0) hn hF1 (by rw [List.length_reverse]; exact ha.owns)
 have hans1:w1.ownsRow w0.heap.size 9 1 (.slice aa A.length ac) A.length (strs A):=Zaj h.ans (fun k hj=>ha.kept.block k (h.ans.lt k hj).2 (fun e=>by
  rcases h2.owns.2 with ⟨e',_⟩ | ⟨g,cap,cur,e',_,hg,_⟩
  ·rw [e'] at e; simp [Zbj,Value.ownBlock] at e
  ·rw [e'] at e
   simp [Zbj,Value.ownBlock] at e
   subst e
   exact Zes h.ans hg (by decide) _ hj rfl))
 have hE1:Ext w0 w1:=h.ext.trans (ha.kept.below h.ext.size (fun k e=>(h2.owns.lt k e).1))
 have hbx1:=hb1.trans h.box
 have hK:Kept (only b) w1 (w1.setCell ⟨b,4,none⟩ (.slice wa' (way.length+1) wc')):=(Qx _ _).put 4 _
 have hF2:FrT w1 (w1.setCell ⟨b,4,none⟩ (.slice wa' (way.length+1) wc')):=FrT.of_kept hK (fun k e=>by
  have e:k=b:=e
  subst e
  exact ⟨_,_,_,hbx1,by simp [HoTy]⟩)
 exact ⟨hb1,⟨Zdj hE1 hK h.low,h.low,Zaf hbx1 4 _,⟨_,by rw [List.reverse_cons]; exact hrow1.keep hF2 (fun k hj=>hK.block k (hrow1.owns.lt k hj).2 (Zes hrow1.owns hbx1 (by decide) k hj))⟩,Zaj hans1 (fun k hj=>hK.block k (hans1.lt k hj).2 (Zes hans1 hbx1 (by decide) k hj))⟩,hF1.trans hF2⟩
theorem Zst (w0 w:World) (b:Nat) (cv nv:Value) (s:ByteArray) (p:Nat) (way:List (ND × Nat)) (A:List (List UInt8)) (names:Names) (gv vv rv uv:Value) (n:ND) (h:HoIn w0 w b cv nv s p way A) (hn:CNode w gv vv rv uv n) (hg:n.goals≠[]) (hs:s.size≤20000) (hp:p≤s.size) (hwl:way.length≤20000) :
  Calls Tryz.prog 49 #[.pointer (some ⟨b,0,none⟩),.agg #[gv,vv,rv,uv]] w (Yai w0 w b cv nv s (Zca names s.data.toList n p way A)):=by
 obtain ⟨ga,gc,va',vl',vc',ra,rl,rc,u,rfl,rfl,rfl,rfl,hu4⟩:=hn.shape
 have hgl:0<n.goals.length:=List.length_pos_iff.2 hg
 obtain ⟨z,hz⟩:∃ z,z=n.goals.length:=⟨_,rfl⟩
 rw [← hz] at hgl hn ⊢
 obtain ⟨W,hW⟩:∃ W,W=w.alloc (.cells #[.slice ga z gc,.slice va' vl' vc',.slice ra rl rc,.int .i64 u] 65):=⟨_,rfl⟩
 have hEW:Ext w W:=by rw [hW]; exact (Ext.of (by repeat' (first | with_reducible(first|exact Qx _ _|apply Kept.drew|apply Kept.drewN|apply Qz|refine Qy ?_ ?_ _)|exact fun h=>absurd h (by simp <;> omega))))
 have hbW:W.heap[w.heap.size]?=some (.cells #[.slice ga z gc,.slice va' vl' vc',.slice ra rl rc,.int .i64 u] 65 (0,0)):=by rw [hW]; exact heap_alloc_new w _
 have HP:=Zac (Zoj w0 W b cv nv s p way A 40 (by decide) (h.grow hEW) hs hp)
 have hm:Zca names s.data.toList n p way A=if s.data.toList[p]?=some 40 then ⟨true,p+1,(n,0)::way,A⟩ else ⟨false,p,way,A⟩:=by unfold Zca; rw [if_neg hg]
 obtain ⟨M,hM⟩:∃ M,M=Zca names s.data.toList n p way A:=⟨_,rfl⟩
 rw [← hM] at hm ⊢
 have Hm:=Zac hm
 have hbl:b<w.heap.size:=by
  obtain ⟨_,_,_,_,h⟩:=h
  exact Zab h.box
 have Hn:=Zac hn
 have HEW:=Zac hEW
 have HbW:=Zac hbW
 simp only [show ((40:UInt8).toNat:Int)=40 from rfl] at HP
 have HW:=Zac hW
 have hzi:(0:Int)<(z:Int):=by omega
 have hzb:((z:Int) == 0)=false:=by rw [Qu]; omega
 clear h hn hm hEW hbW hW hg hM hz
 go_enter Tryz.func49,Tryz.ntmps49
 go_wp2_with fail
 rw [← HW.out]
 refine HP.out.mono ?_
 rintro e w1 ⟨hF1,⟨hc,rfl,h1⟩ | ⟨hc,rfl,h1⟩⟩
 ·obtain ⟨wa1,wc1,aa1,ac1,h1⟩:=h1
  have hx1:=hF1 _ _ _ _ HbW.out (by simp [HoTy])
  have hbx1:=h1.box
  obtain ⟨L,hL⟩:∃ L,L=way.length:=⟨_,rfl⟩
  rw [← hL] at hbx1 hwl
  obtain ⟨b0,b1,b2,b3,b4,b5,bf⟩:=box6 hbx1
  have k0:=Zaa hx1 0 _ rfl
  have k1:=Zaa hx1 1 _ rfl
  have k2:=Zaa hx1 2 _ rfl
  have k3:=Zaa hx1 3 _ rfl
  have hbl1:=Zab h1.box
  have hxl1:=Zab hx1
  obtain ⟨ys,hrow⟩:=h1.row
  have hCn:=(Hn.out.ext HEW.out).fr hF1
  have hEd:Ext w1 (w1.drewN 1):=Ext.of ((Qx _ w1).drewN _)
  have hod:(w1.drewN 1).ownsRow w0.heap.size 126 5 (.slice wa1 L wc1) L ys:=by
   have:=(hrow.keep (FrT.of_ext hEd) (fun k hk=>hEd.block k (hrow.owns.lt k hk).2)).owns
   rw [List.length_reverse,← hL] at this
   exact this
  have h0s:=h1.ext.size
  have Hfin:Hid (∀ w2 wa2 wc2,Appended (w1.drewN 1) w0.heap.size 126 5 (.slice wa1 L wc1) (L+1) (ys++[.slice ga z gc,.slice va' vl' vc',.slice ra rl rc,.int .i64 u,.int .i64 0]) (.slice wa2 (L+1) wc2) w2→w2.heap[b]?=w1.heap[b]?∧Yai w0 w b cv nv s M (.returned (.bool true)) (w2.setCell ⟨b,4,none⟩ (.slice wa2 (L+1) wc2))):=fun w2 wa2 wc2 hap=>by
   have hd:=h1.grow hEd
   rw [hL] at hap ⊢
   obtain ⟨g1,g2,g3⟩:=hd.push (hrow.keep (FrT.of_ext hEd) (fun k hk=>hEd.block k (hrow.owns.lt k hk).2)) (hCn.ext hEd) hap
   refine ⟨g1,?_⟩
   rw [Hm.out,if_pos hc]
   exact ⟨(((FrT.of_ext HEW.out).trans hF1).trans (FrT.of_ext hEd)).trans g3,rfl,_,_,_,_,g2⟩
  have Hod:=Zac hod
  have Hbx1:=Zac hbx1
  clear h1 hF1 hx1 hbx1 hrow hCn hEd hod HP hL
  go_wp2_with fail
  go_region_law (refine Zcg (w1.drewN 1) rfl (.tmp 37) (.tmp 40) 86 rfl w0.heap.size 126 Tryz.infoLevelT Tryz.underlying86 rfl (by decide) (.slice wa1 L wc1) L ys rfl Hod.out #[.slice ga z gc,.slice va' vl' vc',.slice ra rl rc,.int .i64 u,.int .i64 0] rfl (by show _=w1.heap.size; omega) rfl Zqp (by omega) (by show _≤w1.heap.size; omega) rfl ?_; intro v' w2 hap; obtain ⟨wa2,wc2,rfl⟩:=Zae hap.owns; obtain ⟨hb2,hfin⟩:=Hfin.out _ _ _ hap; have hb3:=hb2.trans Hbx1.out; have d2:=Zaa hb3 4 _ rfl; have df:=fun i=>Zad hb3 i; have H2:=Zac hfin; clear hap hb2 hb3 hfin)
  all_goals
   go_wp2
   go_ret
   exact H2.out
 ·have H1:=Zac h1
  have HF1:=Zac ((FrT.of_ext HEW.out).trans hF1)
  have Hm1:Hid (M=⟨false,p,way,A⟩):=by show _=_; rw [Hm.out,if_neg hc]
  clear h1 hF1 hc HP
  go_wp2
  go_ret
  rw [Hm1.out]
  exact ⟨HF1.out,rfl,H1.out⟩
theorem RowH.bump {B:Nat} {w:World} {wb cap:Nat} {ds:List (ND × Nat)} {n:ND} {k:Nat} {xs:List Value} (h:RowH B w (.slice (some ⟨wb,0,none⟩) (ds.length+1) cap) (ds++[(n,k)]) xs) (k':Nat) :
  RowH B (w.setCell ⟨wb,ds.length * 5+4,none⟩ (.int .i64 k')) (.slice (some ⟨wb,0,none⟩) (ds.length+1) cap) (ds++[(n,k')]) (xs.set (ds.length * 5+4) (.int .i64 k'))∧FrT w (w.setCell ⟨wb,ds.length * 5+4,none⟩ (.int .i64 k')):=by
 have ho:=h.owns
 have hxl:=ho.1
 rw [Qg,Qn] at ho hxl
 have hk:=Zgt w wb (ds.length+1) cap (ds.length * 5+4) (.int .i64 k')
 have hF:FrT w (w.setCell ⟨wb,ds.length * 5+4,none⟩ (.int .i64 k')):=FrT.of_kept hk (fun j hj=>by
  rcases ho.2 with ⟨e,_⟩ | ⟨g,cap',cur,e,_,hg,_⟩
  ·simp at e
  ·simp at e
   obtain ⟨rfl,_⟩:=e
   simp [Zbj,Value.ownBlock] at hj
   subst hj
   exact ⟨_,_,_,hg,by simp [HoTy]⟩)
 refine ⟨⟨by rw [Qg,Qn]; exact Zip ho _ _,fun i d hd => ?_⟩,hF⟩
 rcases Nat.lt_or_ge i ds.length with hi | hi
 ·rw [Qc hi] at hd
  obtain ⟨p0,p1,p2,p3,y0,y1,y2,y3,y4,g⟩:=h.all i d (by rw [Qc hi]; exact hd)
  exact ⟨p0,p1,p2,p3,by rw [List.getElem?_set_ne (by omega)]; exact y0,by rw [List.getElem?_set_ne (by omega)]; exact y1,by rw [List.getElem?_set_ne (by omega)]; exact y2,by rw [List.getElem?_set_ne (by omega)]; exact y3,by rw [List.getElem?_set_ne (by omega)]; exact y4,g.fr hF⟩
 ·have e:i=ds.length:=by
   have:=(Qa.1 hd).1
   simp at this; omega
  subst e
  rw [Qd (Qe _)] at hd
  simp at hd
  subst hd
  obtain ⟨p0,p1,p2,p3,y0,y1,y2,y3,y4,g⟩:=h.all ds.length (n,k) (by rw [Qd (Qe _)]; simp)
  exact ⟨p0,p1,p2,p3,by rw [List.getElem?_set_ne (by omega)]; exact y0,by rw [List.getElem?_set_ne (by omega)]; exact y1,by rw [List.getElem?_set_ne (by omega)]; exact y2,by rw [List.getElem?_set_ne (by omega)]; exact y3,by rw [List.getElem?_set_self (by omega)],g.fr hF⟩
theorem CHo.bump {w0 w:World} {b wb:Nat} {cv nv:Value} {s:ByteArray} {p:Nat} {n:ND} {k:Nat} {r:List (ND × Nat)} {A:List (List UInt8)} {wc:Nat} {aa:Option Addr} {ac:Nat} (h:CHo w0 w b cv nv s p ((n,k)::r) A (some ⟨wb,0,none⟩) wc aa ac) (k':Nat) :
  CHo w0 (w.setCell ⟨wb,r.length * 5+4,none⟩ (.int .i64 k')) b cv nv s p ((n,k')::r) A (some ⟨wb,0,none⟩) wc aa ac∧FrT w (w.setCell ⟨wb,r.length * 5+4,none⟩ (.int .i64 k')):=by
 obtain ⟨ys,hrow⟩:=h.row
 rw [Qf,List.reverse_cons] at hrow
 have hne:wb≠b:=Zes hrow.owns h.box (by decide) wb rfl
 have hlow:w0.heap.size≤wb:=(hrow.owns.lt wb rfl).1
 obtain ⟨hR,hF⟩:=RowH.bump (ds:=r.reverse) (n:=n) (k:=k) (xs:=ys) (by rw [List.length_reverse]; exact hrow) k'
 rw [List.length_reverse] at hR hF
 have hk:Kept (only wb) w (w.setCell ⟨wb,r.length * 5+4,none⟩ (.int .i64 k')):=(Qx _ _).put _ _
 refine ⟨⟨Zdj h.ext hk hlow,h.low,(hk.block b (Zab h.box) (fun e=>hne (by have e:b=wb:=e; exact e.symm))).trans h.box,⟨_,by rw [Qf,List.reverse_cons]; exact hR⟩,Zaj h.ans (fun j hj=>hk.block j (h.ans.lt j hj).2 (fun e => ?_))⟩,hF⟩
 have e:j=wb:=e
 subst e
 rcases hrow.owns.2 with ⟨e',_⟩ | ⟨g,cap,cur,e',_,hg,_⟩
 ·simp at e'
 ·simp at e'
  obtain ⟨rfl,_⟩:=e'
  exact Zes h.ans hg (by decide) _ hj rfl
theorem CHo.other {w0 w w':World} {b q:Nat} {cv nv:Value} {s:ByteArray} {p:Nat} {way:List (ND × Nat)} {A:List (List UInt8)} {wa:Option Addr} {wc:Nat} {aa:Option Addr} {ac:Nat} {cl:Array Value} (h:CHo w0 w b cv nv s p way A wa wc aa ac) (hk:Kept (only q) w w') (hq:w.heap[q]?=some (.cells cl 65 (0,0))) (hl:w0.heap.size≤q):CHo w0 w' b cv nv s p way A wa wc aa ac:=by
 obtain ⟨ys,hrow⟩:=h.row
 have hS:OffCode (only q) w:=fun k e=>by
  have e:k=q:=e
  subst e
  exact ⟨_,_,_,hq,by simp [Zce]⟩
 refine ⟨Zdj h.ext hk hl,h.low,(hk.block b (Zab h.box) (fun e => ?_)).trans h.box,⟨ys,Zaj hrow.owns (fun k hj=>hk.block k (hrow.owns.lt k hj).2 (Zes hrow.owns hq (by decide) k hj)),fun i d hd => ?_⟩,Zaj h.ans (fun k hj=>hk.block k (h.ans.lt k hj).2 (Zes h.ans hq (by decide) k hj))⟩
 ·have e:b=q:=e
  subst e
  rw [h.box] at hq
  simp at hq
 ·obtain ⟨x0,x1,x2,x3,y0,y1,y2,y3,y4,g⟩:=hrow.all i d hd
  exact ⟨x0,x1,x2,x3,y0,y1,y2,y3,y4,g.keep hk hS⟩
theorem FrT.put {w w1 w2:World} {q:Nat} (h:FrT w w1) (hk:Kept (only q) w1 w2) (hq:w.heap.size≤q):FrT w w2:=fun k cl t fr e ht=>by
 have h1:=h k cl t fr e ht
 exact (hk.block k (Zab h1) (fun e'=>by have e':k=q:=e'; have:=Zab e; omega)).trans h1
theorem box4 {w:World} {b:Nat} {u0 u1 u2 u3:Value} {t:TypeId} (h:w.heap[b]?=some (.cells #[u0,u1,u2,u3] t (0,0))) :
  w.cell? ⟨b,0,none⟩=some u0∧w.cell? ⟨b,1,none⟩=some u1∧w.cell? ⟨b,2,none⟩=some u2∧w.cell? ⟨b,3,none⟩=some u3∧∀ i,w.frozen? ⟨b,i,none⟩=false :=
 ⟨Zaa h 0 _ rfl,Zaa h 1 _ rfl,Zaa h 2 _ rfl,Zaa h 3 _ rfl,fun i=>Zad h i⟩
def Zsu (w0 w:World) (b:Nat) (cv nv:Value) (s:ByteArray) (p:Nat) (n:ND) (r:List (ND × Nat)) (A:List (List UInt8)) (L:Nat) (N:Option (Nat × Cls)) (e:Ending) (w':World):Prop:=FrT w w' ∧
 ((N=none∧e = .returned (.tuple #[.int .i64 0,.agg #[.slice none 0 0,.slice none 0 0,.slice none 0 0,.int .i64 0],.int .i64 0])∧HoIn w0 w' b cv nv s p ((n,L)::r) A) ∨
 (∃ j c,N=some (j,c)∧∃ g1 g2 g3 v1 v2 v3 q1 q2 q3,∃ uu o:Nat,e = .returned (.tuple #[.int .i64 j,.agg #[.slice g1 g2 g3,.slice v1 v2 v3,.slice q1 q2 q3,.int .i64 uu],.int .i64 o])∧HoIn w0 w' b cv nv s p ((n,j+1)::r) A∧((o=2∧(tryN n c j).2=3)∨(o=1∧((tryN n c j).2=1∨(tryN n c j).2=2)∧CNode w' (.slice g1 g2 g3) (.slice v1 v2 v3) (.slice q1 q2 q3) (.int .i64 uu) (tryN n c j).1))))
theorem Yaj (w0 w:World) (b:Nat) (ca:Option Addr) (cc:Nat) (nv:Value) (s:ByteArray) (p:Nat) (n:ND) (k:Nat) (r:List (ND × Nat)) (A:List (List UInt8)) (cs:List Cls) (xs:List (List Value)) (h:HoIn w0 w b (.slice ca cs.length cc) nv s p ((n,k)::r) A) (hP:ProgIn w0 (.slice ca cs.length cc) cs xs) (hg:n.goals≠[]) (hk:k≤cs.length) (hrl:r.length≤20000) (hcs:∀ c ∈ cs,COk c∧CNm c) (hcf:∀ c ∈ cs,CFew c) (hcl:cs.length≤24) :
  Calls Tryz.prog 58 #[.pointer (some ⟨b,0,none⟩)] w (Zsu w0 w b (.slice ca cs.length cc) nv s p n r A cs.length (Zec cs n (cs.length - k) k)):=by
 obtain ⟨N,hN⟩:∃ N,N=Zec cs n (cs.length - k) k:=⟨_,rfl⟩
 rw [← hN]
 have hb4:∃ wa wc,w.cell? ⟨b,4,none⟩=some (.slice wa (r.length+1) wc)∧b<w.heap.size:=by
  obtain ⟨wa,wc,aa,ac,h⟩:=h
  exact ⟨wa,wc,Zaa h.box 4 _ rfl,Zab h.box⟩
 obtain ⟨wa,wc,b4,hbl⟩:=hb4
 have H:=Zac h
 have HP:=Zac hP
 have Hg:=Zac hg
 have Hcs:=Zac hcs
 have Hcf:=Zac hcf
 have HN:=Zac hN
 clear h hP hg hcs hcf hN
 go_enter Tryz.func58,Tryz.ntmps58
 go_wp2
 go_loopg [6] (cs.length+1) (fun gk tv wr=>∃ k':Nat,k'≤cs.length∧cs.length - k'<gk∧Zec cs n (cs.length - k') k'=N∧HoIn w0 wr b (.slice ca cs.length cc) nv s p ((n,k')::r) A∧FrT w wr∧wr.heap[w.heap.size]?=some (.cells #[.slice none 0 0,.slice none 0 0,.slice none 0 0,.int .i64 0] 65 (0,0)))
 case atStart=>exact ⟨k,hk,by omega,HN.out.symm,H.out.grow (Ext.of (by repeat' (first | with_reducible(first|exact Qx _ _|apply Kept.drew|apply Kept.drewN|apply Qz|refine Qy ?_ ?_ _)|exact fun h=>absurd h (by simp <;> omega)))),FrT.of_ext (Ext.of (by repeat' (first | with_reducible(first|exact Qx _ _|apply Kept.drew|apply Kept.drewN|apply Qz|refine Qy ?_ ?_ _)|exact fun h=>absurd h (by simp <;> omega)))),heap_alloc_new w _⟩
 case round =>
  clear b4 hk
  obtain ⟨k,hk,hgk,hnx,⟨wa,wc,aa,ac,h⟩,hF,hres⟩:=hrel
  have hbx:=h.box
  simp only [Qf] at hbx
  obtain ⟨b0,b1,b2,b3,b4,b5,bf⟩:=box6 hbx
  obtain ⟨ys,hrow⟩:=h.row
  simp only [Qf,List.reverse_cons] at hrow
  have ho:=hrow.owns
  rw [Qg,List.length_reverse,Qn] at ho
  obtain ⟨wb,wcap,wcur,hwe,_,hwb,hwcap⟩:=Zao ho (by omega)
  simp only [Value.slice.injEq] at hwe
  obtain ⟨rfl,_,rfl⟩:=hwe
  obtain ⟨x0,x1,x2,x3,y0,y1,y2,y3,y4,hnode⟩:=hrow.all r.length (n,k) (by rw [Qd (by simp)]; simp)
  have c4:=Zai ho _ _ y4
  simp only at c4
  have hwf:=fun i=>Zad hwb i
  have hbl':=Zab hbx
  have hwbl:=Zab hwb
  have hrl':(0:Int)≤(r.length:Int):=by omega
  have hrlt:r.length<r.length+1:=by omega
  have hrlt':(r.length:Int)<(r.length:Int)+1:=by omega
  have Hres:=Zac hres
  have HF:=Zac hF
  have Hh:=Zac h
  have hz:=Zab hres
  have hlow:w0.heap.size≤w.heap.size:=by
   obtain ⟨_,_,_,_,h⟩:=H.out
   exact h.ext.size
  by_cases hlt:k<cs.length
  ·have hlt':(k:Int)<(cs.length:Int):=by omega
   clear hbx hrow ho hwb y0 y1 y2 y3 y4 hnode h hF hres
   go_wp2_with fail
   go_quiet (fail)
   go_wp2_with fail
   obtain ⟨W4,hW4⟩:∃ W4,W4=(wr.drewN nq).setCell ⟨wb,r.length * 5+4,none⟩ (.int .i64 ((k:Int)+1)):=⟨_,rfl⟩
   rw [← hW4]
   have hE0:Ext wr (wr.drewN nq):=Ext.of ((Qx _ wr).drewN _)
   obtain ⟨hC4,hF4⟩:=(Hh.out.grow hE0).bump (k+1)
   rw [show ((k+1:Nat):Int)=(k:Int)+1 by omega,← hW4] at hC4 hF4
   have hFw:FrT wr W4:=(FrT.of_ext hE0).trans hF4
   have hbx4:=hC4.box
   simp only [Qf] at hbx4
   clear b0 b1 b2 b3 b4 b5 bf c4 hwf
   obtain ⟨b0,b1,b2,b3,b4,b5,bf⟩:=box6 hbx4
   obtain ⟨ys4,hrow4⟩:=hC4.row
   simp only [Qf,List.reverse_cons] at hrow4
   have ho4:=hrow4.owns
   rw [Qg,List.length_reverse,Qn] at ho4
   obtain ⟨x0,x1,x2,x3,y0,y1,y2,y3,y4,hnode⟩:=hrow4.all r.length (n,k+1) (by rw [Qd (by simp)]; simp)
   obtain ⟨n1,hN1,rfl,hOk,hNm,hFe,hSm⟩:=hnode
   obtain ⟨ga,gcap,rfl⟩:=hN1.goals.shape
   obtain ⟨va',vcap',rfl⟩:=hN1.vals.shape
   obtain ⟨ra',rcap',rfl⟩:=hN1.done.shape
   simp only [Ql] at hN1 y0 y1 y2
   have c0:=Zai ho4 _ _ y0
   have c1:=Zai ho4 _ _ y1
   have c2:=Zai ho4 _ _ y2
   have c3:=Zai ho4 _ _ y3
   obtain ⟨c,hc⟩:∃ c,cs[k]?=some c:=⟨_,Qb hlt⟩
   have hP4:=HP.out.ext hC4.ext
   obtain ⟨lb,lcap,lcur,hle,_,hlb,_⟩:=Zao hP4.owns (by omega)
   simp only [Value.slice.injEq] at hle
   obtain ⟨rfl,_,rfl⟩:=hle
   obtain ⟨cv0,cv1,cv2,l0,l1,l2,hcl2⟩:=hP4.cell hc
   obtain ⟨d0,d1,rfl⟩:=Zae hcl2.head
   obtain ⟨d2,d3,rfl⟩:=hcl2.body.shape
   obtain ⟨d4,d5,rfl⟩:=Zae hcl2.names
   have hbl4:=Zab hbx4
   have hwbl4:wb<W4.heap.size:=World.block_lt_of_cell? W4 ⟨wb,r.length * 5,none⟩ c0
   have hlbl:lb<W4.heap.size:=World.block_lt_of_cell? W4 ⟨lb,k * 3,none⟩ l0
   obtain ⟨hco,hcm⟩:=Hcs.out c (Qh hc)
   have HIc:Hid (∀ Z u,Ext W4.drew u→(∀ k,Z k→W4.heap.size≤k∧k<u.heap.size)→Calls Tryz.prog 52 #[.agg #[.slice ga n1.goals.length gcap,.slice va' n1.vals.length vcap',.slice ra' n1.done.length rcap',.int .i64 n1.vars],.agg #[.slice d0 c.head.length d1,.slice d2 c.body.length d3,.slice d4 c.names.length d5]] u fun e u'=>∃ r,e = .returned r∧Ext u u'∧TryX n1 c k Z r u'):=fun Z u hu hZ=>by
    have hwu:Ext W4 u:=hu.undrew
    refine (Znx u _ _ _ _ _ _ n1 c k hOk hco (hN1.ext hwu) (hcl2.ext hwu)).mono ?_
    intro e u' h
    exact h.toX (fun j hj=>(hZ j hj).2)
   have Hco:=Zac hco
   have HOk:=Zac hOk
   have HNm:=Zac hNm
   have HFe:=Zac hFe
   have HSm:=Zac hSm
   have Hcm:=Zac hcm
   have HCf:Hid (CFew c):=Hcf.out c (Qh hc)
   have HC4:=Zac hC4
   have HF4:=Zac (HF.out.trans hFw)
   have Hres4:=Zac (hFw _ _ _ _ Hres.out (by simp [HoTy]))
   have Hnx:Hid ((if (tryN n c k).2=0 then Zec cs n (cs.length - (k+1)) (k+1) else some (k,c))=N):=by
    show _=_
    rw [← hnx,show cs.length - k=(cs.length - (k+1))+1 by omega,Zec,hc]
   have hk2:k+1≤cs.length:=hlt
   clear hW4 hE0 hC4 hF4 hFw hbx4 hrow4 ho4 y0 y1 y2 y3 y4 hN1 hP4 hcl2 hlb hco hOk hNm hFe hSm hcm hnx hc
   refine Zid (by kernel_rfl) [.pur (.pointer (some ⟨b,0,none⟩)),.pur (.pointer (some ⟨b,0,none⟩)),.pur (.pointer (some ⟨b,4,none⟩)),.pur (.slice (some ⟨wb,0,none⟩) (r.length+1) wc),.pur (.int .i64 r.length),.pur (.pointer (some ⟨wb,r.length * 5,none⟩)),.pur (.pointer (some ⟨wb,r.length * 5,none⟩)),.pur (.agg #[.slice ga n1.goals.length gcap,.slice va' n1.vals.length vcap',.slice ra' n1.done.length rcap',.int .i64 n1.vars]),
    .pur (.pointer (some ⟨b,0,none⟩)),.pur (.pointer (some ⟨b,0,none⟩)),.pur (.pointer (some ⟨b,0,none⟩)),.pur (.slice (some ⟨lb,0,none⟩) cs.length cc),.pur (.int .i64 k),.pur (.pointer (some ⟨lb,k * 3,none⟩)),.pur (.agg #[.slice d0 c.head.length d1,.slice d2 c.body.length d3,.slice d4 c.names.length d5]),
    .cal,.post (fun v=>v),.post (Zfp 0),.post (Zfp 1),.alo 65 #[.slice none 0 0,.slice none 0 0,.slice none 0 0,.int .i64 0] 20 (fun v=>Zro (Zfp 0 v)),.sto 19,.post (Zfp 1)] 15 (by kernel_rfl) (TryX n1 c k) 52 _ TryX.stable HIc.out ?_ rfl (by decide) ?_
   ·refine ⟨fun vc β u hu => ?_,fun vc β u hu => ?_,fun vc β u hu => ?_,fun vc β u hu => ?_,fun vc β u hu => ?_,fun vc β u hu => ?_,fun vc β u hu => ?_,fun vc β u hu => ?_,fun vc β u hu => ?_,fun vc β u hu => ?_,fun vc β u hu => ?_,fun vc β u hu => ?_,fun vc β u hu => ?_,fun vc β u hu => ?_,fun vc β u hu => ?_,fun vc β u => ?_,?_,?_,?_,fun vc β u => ?_,?_,?_,trivial⟩
    all_goals try (simp [pa,Kd.val,go_sem,hu.up b0,hu.up b4,hu.up c0,hu.up c1,hu.up c2,hu.up c3,hu.up l0,hu.up l1,hu.up l2,hlt]; done)
    all_goals try (simp [pa,Kd.val,go_sem]; done)
    all_goals try (rintro vc β Z u ⟨g1,g2,g3,v1,v2,v3,q1,q2,q3,uu,qq,rfl,_⟩; simp [pa,Kd.val,go_sem,Zfp]; done)
    all_goals try (simp [pa,Kd.val,go_sem]; intro h; omega)
    rintro vc β Z u t z sx cl he ⟨g1,g2,g3,v1,v2,v3,q1,q2,q3,uu,qq,rfl,_⟩ hb
    simp at he
    obtain ⟨rfl,rfl,rfl,rfl⟩:=he
    have z0:=Zaa hb 0 _ rfl
    have z1:=Zaa hb 1 _ rfl
    have z2:=Zaa hb 2 _ rfl
    have z3:=Zaa hb 3 _ rfl
    have zf:=fun i=>Zad hb i
    refine ⟨_,?_,Zaf (Zaf (Zaf (Zaf hb 0 _) 1 _) 2 _) 3 _,((((Qx (only (β 19)) u).put 0 _).put 1 _).put 2 _).put 3 _⟩
    simp [pa,Kd.val,go_sem,z0,z1,z2,z3,zf,Zfp]
   rintro vc β w5 hext5 ⟨g1,g2,g3,v1,v2,v3,q1,q2,q3,uu,qq,rfl,hqq⟩ hbox _
   have hext5:=hext5.undrew
   obtain ⟨hb0,hbx⟩:=hbox 19 _ _ _ _ rfl
   have hbx':w5.heap[β 19]?=some (.cells #[.slice g1 g2 g3,.slice v1 v2 v3,.slice q1 q2 q3,.int .i64 uu] 65 (0,0)):=hbx
   generalize hbe:β 19=bt at *
   have HC5:=Zac (HC4.out.grow hext5)
   have HF5:=Zac (HF4.out.trans (FrT.of_ext hext5))
   have hres5:=(hext5.block _ (Zab Hres4.out)).trans Hres4.out
   have Hres5:=Zac hres5
   clear b0 b1 b2 b3 b4 b5 bf c0 c1 c2 c3 l0 l1 l2
   simp only [paAll,pa,Kd.val,if_true,Act.put,Zfp]
   rw [hbe]
   rcases hqq with ⟨rfl,hq⟩ | ⟨rfl,ch,hq⟩ | ⟨rfl,ch,q0,hq12,hq,rfl,rfl,hg',hv',hr'⟩
   ·have hq0:(tryN n c k).2=0:=by
     rcases hq with h | h
     ·exact absurd (List.eq_nil_of_length_eq_zero (by rw [← HSm.out.gl,h]; rfl)) Hg.out
     ·exact (Zeo HOk.out HSm.out Hco.out h).1.symm
    have Hn5:Hid (Zec cs n (cs.length - (k+1)) (k+1)=N):=by show _=_; rw [← Hnx.out,if_pos hq0]
    clear hbx hbx' hbox hext5 hres5 hq hq0
    go_wp2
    go_roundg (cs.length - k)
    case measure=>omega
    case rel=>exact ⟨k+1,hk2,by omega,Hn5.out,⟨_,_,_,_,HC5.out⟩,HF5.out,Hres5.out⟩
   ·have hq3:(tryN n c k).2=3:=(Zeo HOk.out HSm.out Hco.out hq).1.symm
    have Hfin:Hid (∀ w6,Kept (only w.heap.size) w5 w6→Zsu w0 w b (.slice (some ⟨lb,0,none⟩) cs.length cc) nv s p n r A cs.length N (.returned (.tuple #[.int .i64 k,.agg #[.slice g1 g2 g3,.slice v1 v2 v3,.slice q1 q2 q3,.int .i64 uu],.int .i64 2])) w6):=fun w6 hK=>by
     refine ⟨HF5.out.put hK (Qe _),Or.inr ⟨k,c,?_,g1,g2,g3,v1,v2,v3,q1,q2,q3,uu,2,rfl,⟨_,_,_,_,HC5.out.other hK Hres5.out hlow⟩,Or.inl ⟨rfl,hq3⟩⟩⟩
     rw [← Hnx.out,if_neg (by omega)]
    obtain ⟨r0,r1,r2,r3,rf⟩:=box4 hres5
    obtain ⟨z0,z1,z2,z3,zf⟩:=box4 hbx'
    have hrl5:=Zab hres5
    have hbtl:=Zab hbx'
    clear hbx hbx' hbox hext5 hres5 hq hq3
    go_wp2_with fail
    go_region
    all_goals
     go_wp2
     refine bodyPost_ret (v := .tuple #[.int .i64 k,.agg #[.slice g1 g2 g3,.slice v1 v2 v3,.slice q1 q2 q3,.int .i64 uu],.int .i64 2]) (by simp [results,Tryz.results58,go_sem,r0,r1,r2,r3,rf]) rfl ?_
     exact Hfin.out _ (by repeat (first | exact Qx _ _ | apply Qz | apply Kept.put | apply Kept.drew))
   ·obtain ⟨e1,e2⟩:=Zeo HOk.out HSm.out Hco.out hq
    obtain ⟨hOk2,hSm2⟩:=e2 hq12
    have hk12:(tryN n c k).2=1∨(tryN n c k).2=2:=by rw [← e1]; exact hq12
    have hNm2:=Zyt hq hq12 HNm.out Hcm.out
    have hFw2:=Zrz hq hq12 HFe.out HCf.out
    obtain ⟨vs1,hg1,_⟩:=hg'
    obtain ⟨vs2,hv1,_⟩:=hv'
    obtain ⟨vs3,hr1,_⟩:=hr'
    have hCN:CNode w5 (.slice g1 ch.goals.length g3) (.slice v1 v2 v3) (.slice q1 q2 q3) (.int .i64 ch.vars) (tryN n c k).1:=⟨ch,⟨⟨vs1,hg1⟩,⟨vs2,hv1⟩,⟨vs3,hr1⟩⟩,rfl,hOk2,hNm2,hFw2,hSm2⟩
    have hS5:OffCode (only w.heap.size) w5:=fun j e=>by
     have e:j=w.heap.size:=e
     subst e
     exact ⟨_,_,_,Hres5.out,by simp [Zce]⟩
    obtain ⟨G,hG⟩:∃ G,G=ch.goals.length:=⟨_,rfl⟩
    obtain ⟨uu,huu⟩:∃ uu,uu=ch.vars:=⟨_,rfl⟩
    rw [← hG,← huu] at hCN
    rw [← hG] at hbx'
    rw [← huu] at hbx'
    have Hfin:Hid (∀ w6,Kept (only w.heap.size) w5 w6→Zsu w0 w b (.slice (some ⟨lb,0,none⟩) cs.length cc) nv s p n r A cs.length N (.returned (.tuple #[.int .i64 k,.agg #[.slice g1 G g3,.slice v1 v2 v3,.slice q1 q2 q3,.int .i64 uu],.int .i64 1])) w6):=fun w6 hK=>by
     refine ⟨HF5.out.put hK (Qe _),Or.inr ⟨k,c,?_,g1,G,g3,v1,v2,v3,q1,q2,q3,uu,1,rfl,⟨_,_,_,_,HC5.out.other hK Hres5.out hlow⟩,Or.inr ⟨rfl,hk12,hCN.keep hK hS5⟩⟩⟩
     rw [← Hnx.out,if_neg (by omega)]
    obtain ⟨r0,r1,r2,r3,rf⟩:=box4 hres5
    obtain ⟨z0,z1,z2,z3,zf⟩:=box4 hbx'
    have hrl5:=Zab hres5
    have hbtl:=Zab hbx'
    rw [← hG,← huu]
    clear hbx hbx' hbox hext5 hres5 hq hq12 hk12 e1 e2 hOk2 hSm2 hNm2 hFw2 hg1 hv1 hr1 hCN hS5 hG huu
    go_wp2_with fail
    go_region
    all_goals
     go_wp2
     refine bodyPost_ret (v := .tuple #[.int .i64 k,.agg #[.slice g1 G g3,.slice v1 v2 v3,.slice q1 q2 q3,.int .i64 uu],.int .i64 1]) (by simp [results,Tryz.results58,go_sem,r0,r1,r2,r3,rf]) rfl ?_
     exact Hfin.out _ (by repeat (first | exact Qx _ _ | apply Qz | apply Kept.put | apply Kept.drew))
  ·have he:k=cs.length:=by omega
   have hlt':¬ (k:Int)<(cs.length:Int):=by omega
   obtain ⟨r0,r1,r2,r3,rf⟩:=box4 hres
   have Hn:Hid (N=none):=by show _=_; rw [← hnx,he,Nat.sub_self]; rfl
   clear hbx hrow ho hwb y0 y1 y2 y3 y4 hnode h hF hres
   go_wp2_with fail
   go_quiet (fail)
   go_wp2
   refine bodyPost_ret (v := .tuple #[.int .i64 0,.agg #[.slice none 0 0,.slice none 0 0,.slice none 0 0,.int .i64 0],.int .i64 0]) (by simp [results,Tryz.results58,go_sem,r0,r1,r2,r3,rf]) rfl ?_
   have hK:Kept (only w.heap.size) wr (((((wr.drewN nq).setCell ⟨w.heap.size,0,none⟩ (.slice none 0 0)).setCell ⟨w.heap.size,1,none⟩ (.slice none 0 0)).setCell ⟨w.heap.size,2,none⟩ (.slice none 0 0)).setCell ⟨w.heap.size,3,none⟩ (.int .i64 0)):=(((((Qx _ wr).drewN _).put 0 _).put 1 _).put 2 _).put 3 _
   exact ⟨HF.out.put hK (Qe _),Or.inl ⟨Hn.out,rfl,_,_,_,_,he ▸ Hh.out.other hK Hres.out hlow⟩⟩
theorem Zue {cs:List Cls} {n:ND}:∀ {f k j:Nat} {c:Cls},Zec cs n f k=some (j,c)→cs[j]?=some c∧j<k+f:=by
 intro f
 induction f with
 | zero=>intro k j c h; simp [Zec] at h
 | succ f ih =>
  intro k j c h
  rw [Zec] at h
  cases hc:cs[k]? with
  | none=>rw [hc] at h; simp at h
  | some d =>
   rw [hc] at h
   simp only at h
   split at h
   ·obtain ⟨h1,h2⟩:=ih h
    exact ⟨h1,by omega⟩
   ·simp at h
    obtain ⟨rfl,rfl⟩:=h
    exact ⟨hc,by omega⟩
structure HoP (w0:World) (ca:Option Addr) (cc:Nat) (nv:Value) (cs:List Cls) (names:Names):Prop where
 prog:∃ xs,ProgIn w0 (.slice ca cs.length cc) cs xs
 ok:∀ c ∈ cs,COk c∧CNm c
 cf:∀ c ∈ cs,CFew c
 cl:cs.length≤24
 row:w0.ownsRow 0 9 1 nv names.length (strs names)
 few:names.length≤60
 short:∀ x ∈ names,x.length≤8
theorem HoP.enter {w0 w:World} {b:Nat} {ca:Option Addr} {cc:Nat} {nv:Value} {s:ByteArray} {p:Nat} {way:List (ND × Nat)} {A:List (List UInt8)} {cs:List Cls} {names:Names} {gv vv rv uv:Value} {n:ND} (hq:HoP w0 ca cc nv cs names) (h:HoIn w0 w b (.slice ca cs.length cc) nv s p way A) (hn:CNode w gv vv rv uv n) (hvl:n.vals.length=names.length) (hs:s.size≤20000) (hp:p≤s.size) (hA:A.length≤20000) (hwl:way.length≤20000) :
  Calls Tryz.prog 49 #[.pointer (some ⟨b,0,none⟩),.agg #[gv,vv,rv,uv]] w (Yai w0 w b (.slice ca cs.length cc) nv s (Zca names s.data.toList n p way A)):=by
 by_cases hg:n.goals=[]
 ·exact Zss w0 w b _ nv s p way A names gv vv rv uv n h hn hg hq.row hvl hq.few hq.short hs hp hA
 ·exact Zst w0 w b _ nv s p way A names gv vv rv uv n h hn hg hs hp hwl
theorem Ycx (w0 w:World) (b:Nat) (ca:Option Addr) (cc:Nat) (nv:Value) (s:ByteArray) (p:Nat) (n:ND) (k:Nat) (r:List (ND × Nat)) (A:List (List UInt8)) (cs:List Cls) (names:Names) (hq:HoP w0 ca cc nv cs names) (h:HoIn w0 w b (.slice ca cs.length cc) nv s p ((n,k)::r) A) (hg:n.goals≠[]) (hvl:n.vals.length=names.length) (hk:k≤cs.length) (hs:s.size≤20000) (hp:p≤s.size) (hA:A.length≤20000) (hrl:r.length+1≤20000) :
  Calls Tryz.prog 50 #[.pointer (some ⟨b,0,none⟩)] w (Yai w0 w b (.slice ca cs.length cc) nv s (goM cs names s.data.toList n k p r A)):=by
 obtain ⟨xs,hP⟩:=hq.prog
 have HNx:=Zac (Yaj w0 w b ca cc nv s p n k r A cs xs h hP hg hk (by omega) hq.ok hq.cf hq.cl)
 obtain ⟨M,hM⟩:∃ M,M=goM cs names s.data.toList n k p r A:=⟨_,rfl⟩
 have hin:∀ j c,Zec cs n (cs.length - k) k=some (j,c)→j<24:=fun j c h=>by
  have:=(Zue h).2
  have:=hq.cl
  omega
 have hm:=hM
 unfold goM at hm
 rw [← hM]
 obtain ⟨N,hN⟩:∃ N,N=Zec cs n (cs.length - k) k:=⟨_,rfl⟩
 rw [← hN] at hm hin HNx
 have Hm:=Zac hm
 have Hq:=Zac hq
 have Hin:=Zac hin
 clear h hg hq hP hM hm hN hin
 go_enter Tryz.func50,Tryz.ntmps50
 go_wp2_with fail
 refine HNx.out.mono ?_
 rintro e w1 ⟨hF1,⟨hN0,rfl,h1⟩ | ⟨j,c,hN1,g1,g2,g3,v1,v2,v3,q1,q2,q3,uu,o,rfl,h1,ho⟩⟩
 ·obtain ⟨W,hW⟩:∃ W,W=w1.alloc (.cells #[.slice none 0 0,.slice none 0 0,.slice none 0 0,.int .i64 0] 65):=⟨_,rfl⟩
  have hE:Ext w1 W:=by rw [hW]; exact (Ext.of (by repeat' (first | with_reducible(first|exact Qx _ _|apply Kept.drew|apply Kept.drewN|apply Qz|refine Qy ?_ ?_ _)|exact fun h=>absurd h (by simp <;> omega))))
  have HL:=Zac (Zwy w0 W b _ nv s p (n,cs.length) r A (h1.grow hE) hs hp (by omega))
  have Hm1:Hid (M=if s.data.toList[p]?=some 41 then ⟨true,p+1,r,A⟩ else ⟨false,p,(n,cs.length)::r,A⟩):=by show _=_; rw [Hm.out,hN0]
  have HF1:=Zac (hF1.trans (FrT.of_ext hE))
  have HW:=Zac hW
  clear h1 hF1 hE hW hN0 HNx Hm
  go_wp2_with fail
  rw [← HW.out]
  refine HL.out.mono ?_
  rintro e w2 ⟨hF2,⟨hc,rfl,h2⟩ | ⟨hc,rfl,h2⟩⟩
  ·have Hm2:Hid (M=⟨true,p+1,r,A⟩):=by show _=_; rw [Hm1.out,if_pos hc]
   have HF2:=Zac (HF1.out.trans hF2)
   have H2:=Zac h2
   clear hF2 h2 hc HL
   go_wp2
   go_ret
   rw [Hm2.out]
   exact ⟨HF2.out,rfl,H2.out⟩
  ·have Hm2:Hid (M=⟨false,p,(n,cs.length)::r,A⟩):=by show _=_; rw [Hm1.out,if_neg hc]
   have HF2:=Zac (HF1.out.trans hF2)
   have H2:=Zac h2
   clear hF2 h2 hc HL
   go_wp2
   go_ret
   rw [Hm2.out]
   exact ⟨HF2.out,rfl,H2.out⟩
 ·obtain ⟨W,hW⟩:∃ W,W=w1.alloc (.cells #[.slice g1 g2 g3,.slice v1 v2 v3,.slice q1 q2 q3,.int .i64 uu] 65):=⟨_,rfl⟩
  have hE:Ext w1 W:=by rw [hW]; exact (Ext.of (by repeat' (first | with_reducible(first|exact Qx _ _|apply Kept.drew|apply Kept.drewN|apply Qz|refine Qy ?_ ?_ _)|exact fun h=>absurd h (by simp <;> omega))))
  have hjl:=Hin.out j c hN1
  have HF1:=Zac (hF1.trans (FrT.of_ext hE))
  have H1:=Zac (h1.grow hE)
  have Hm1:=Hm.out
  rw [hN1] at Hm1
  simp only at Hm1
  rcases ho with ⟨rfl,h3⟩ | ⟨rfl,h12,hCN⟩
  ·have Hm2:Hid (M=⟨false,p,(n,j+1)::r,A⟩):=by show _=_; rw [Hm1,if_pos (Or.inl h3)]
   have HW:=Zac hW
   clear h1 hF1 hE hW hN1 HNx Hm Hm1 h3 Hin Hq
   go_wp2
   go_ret
   rw [← HW.out,Hm2.out]
   exact ⟨HF1.out,rfl,H1.out⟩
  ·obtain ⟨V,hV⟩:∃ V,V=(Zak (s.data.toList.drop p)).1:=⟨_,rfl⟩
   obtain ⟨Z,hZ⟩:∃ Z,Z=(Zak (s.data.toList.drop p)).2:=⟨_,rfl⟩
   have hnz:=Zev (s.data.toList.drop p)
   rw [List.length_drop,show s.data.toList.length=s.size by simp,← hV,← hZ] at hnz
   obtain ⟨hz1,hz2,hz3⟩:=hnz
   have HAt:=Zac (fun u=>Zzr s p u (by omega) (by omega))
   rw [← hV,← hZ] at HAt
   rw [← hV,← hZ] at Hm1
   have hbW:W.heap[w1.heap.size]?=some (.cells #[.slice g1 g2 g3,.slice v1 v2 v3,.slice q1 q2 q3,.int .i64 uu] 65 (0,0)):=by rw [hW]; exact heap_alloc_new w1 _
   have HbW:=Zac hbW
   have HCN:=Zac (hCN.ext hE)
   have HW:=Zac hW
   have hvl2:(tryN n c j).1.vals.length=names.length:=by rw [Ziz h12]; exact hvl
   have hn3:(tryN n c j).2≠3:=by omega
   obtain ⟨wa,wc,aa,ac,hC⟩:=H1.out
   obtain ⟨b0,b1,b2,b3,b4,b5,bf⟩:=box6 hC.box
   have hbl:=Zab hC.box
   have hwW:=Zab hbW
   have HC:=Zac hC
   have HmA:=Zac Hm1
   clear h1 hF1 hE hW hN1 HNx Hm Hm1 Hin hV hZ hbW hCN hC h12
   go_wp2_with fail
   rw [← HW.out]
   go_quiet ((go_at_call 51; exact Calls.quiet_of_same (HAt.out _)))
   have hEq:Ext W (W.drewN nq):=Ext.of ((Qx _ W).drewN _)
   by_cases hz0:Z=0
   ·have Hm2:Hid (M=⟨false,p,(n,j+1)::r,A⟩):=by show _=_; rw [HmA.out,if_pos (Or.inr (Or.inl hz0))]
    have H2:=Zac (H1.out.grow hEq)
    have HF2:=Zac (HF1.out.trans (FrT.of_ext hEq))
    subst hz0
    clear hEq
    go_wp2
    go_ret
    rw [Hm2.out]
    exact ⟨HF2.out,rfl,H2.out⟩
   ·have hk1:(((p:Int)+(Z:Int)) == (p:Int))=false:=by rw [Qu]; omega
    by_cases hv:V=j
    ·subst hv
     have Hm2:Hid (M=Zca names s.data.toList (tryN n c V).1 (p+Z) ((n,V+1)::r) A):=by show _=_; rw [HmA.out,if_neg (by rintro (h | h | h); exact hn3 h; exact hz0 h; exact h rfl)]
     have hk2:((V:Int) != (V:Int))=false:=by simp
     obtain ⟨w5,hw5⟩:∃ w5,w5=(W.drewN nq).setCell ⟨b,3,none⟩ (.int .i64 ((p:Int)+(Z:Int))):=⟨_,rfl⟩
     have hK5:Kept (only b) W w5:=by rw [hw5]; exact ((Qx _ _).drewN _).put 3 _
     obtain ⟨hC5,hF5⟩:=HC.out.upd (p':=p+Z) hK5 (by rw [hw5,show ((p+Z:Nat):Int)=(p:Int)+(Z:Int) by omega]; exact Zaf (w:=W.drewN nq) HC.out.box 3 _) HC.out.row
     have HEn:=Zac (Hq.out.enter (way:=(n,V+1)::r) (A:=A) (p:=p+Z) ⟨_,_,_,_,hC5⟩ (HCN.out.fr hF5) hvl2 hs (by omega) hA (by rw [Qf]; omega))
     have HF5:=Zac (HF1.out.trans hF5)
     have hb5:=hF5 _ _ _ _ HbW.out (by simp [HoTy])
     obtain ⟨z0,z1,z2,z3,zf⟩:=box4 hb5
     have hne:b≠w1.heap.size:=fun e=>by
      have h1:=HbW.out
      rw [← e,HC.out.box] at h1
      simp at h1
     have Hw5:=Zac hw5
     have hbl5:=Zab hb5
     obtain ⟨y0,y1,y2,y3,yf⟩:=box4 HbW.out
     clear hEq hK5 hC5 hF5 hb5 hw5 HAt HmA
     go_wp2_with fail
     rw [← Hw5.out]
     refine HEn.out.mono ?_
     rintro e w6 ⟨hF6,rfl,h6⟩
     have H6:=Zac h6
     have HF6:=Zac (HF5.out.trans hF6)
     rw [← Hm2.out] at H6
     have e1:(Zca names s.data.toList (tryN n c V).1 (p+Z) ((n,V+1)::r) A)=M:=Hm2.out.symm
     rw [e1]
     clear h6 hF6 HEn Hm2 e1 b0 b1 b2 b3 b4 b5 bf z0 z1 z2 z3 zf y0 y1 y2 y3 yf
     go_wp2
     go_ret
     exact ⟨HF6.out,rfl,H6.out⟩
    ·have hk2:((V:Int) != (j:Int))=true:=by rw [bne_iff_ne]; omega
     have Hm2:Hid (M=⟨false,p,(n,j+1)::r,A⟩):=by show _=_; rw [HmA.out,if_pos (Or.inr (Or.inr hv))]
     have H2:=Zac (H1.out.grow hEq)
     have HF2:=Zac (HF1.out.trans (FrT.of_ext hEq))
     clear hEq hv
     go_wp2
     go_ret
     rw [Hm2.out]
     exact ⟨HF2.out,rfl,H2.out⟩
def NewC (p q:ByteArray) (w:World) (e:Ending) (w':World):Prop:=Ext w w' ∧
 ((Zcl p=none∧e = .returned (.tuple #[.pointer none,.int .i64 4])) ∨
 ((∃ cs,Zcl p=some cs)∧Zdt q=none∧e = .returned (.tuple #[.pointer none,.int .i64 5])) ∨
 (∃ cs a b,∃ x:CX,Zcl p=some cs∧Zdt q=some a∧e = .returned (.tuple #[.pointer (some ⟨b,0,none⟩),.int .i64 0])∧(∀ k,ownS b x k→w.heap.size≤k)∧CSr w' b x cs a (newN cs a)))
theorem Ydp {a:List (List Sym) × Names} (hN:NOk (topN a)) (han:a.2.length≤121):∀ l ∈ a.1,TmOk l:=fun l hl=>by
 have hlt:l ∈ (topN a).terms:=by
  unfold ND.terms topN
  refine List.mem_append_left _ ?_
  simp
  exact hl
 have hg:=(hN.gs (l,0) (by unfold topN; simp; exact hl)).1
 exact Zlf (hN.wf l hlt) (by have h':l.length≤30:=hg; omega) (hN.occ l hlt) (by have:(topN a).vars=a.2.length:=rfl; omega)
theorem Ycy (p q:ByteArray) (w:World) (hp:p.size≤maxLen) (hq:q.size≤maxLen):Calls Tryz.prog 20 #[.string p,.string q] w (NewC p q w):=by
 have HB:=Zac (Zle p q w hp hq)
 clear hp hq
 go_enter Tryz.func20,Tryz.ntmps20
 go_wp2_with fail
 refine HB.out.mono ?_
 rintro e w1 ⟨hE1,hB⟩
 have HE1:=Zac hE1
 have hs1:=hE1.size
 clear hE1
 rcases hB with ⟨hno,rfl⟩ | ⟨⟨cs,hsome⟩,hno,rfl⟩ | ⟨cs,a,l1,lc,xs,h1,h2,h3,b1,bc,n1,nc,hsome,hask,rfl,hP,hT,hns⟩
 ·have Hno:=Zac hno
  clear hno
  go_wp2
  go_ret2
  exact ⟨HE1.out.trans (((Ext.of (by repeat' (first | with_reducible(first|exact Qx _ _|apply Kept.drew|apply Kept.drewN|apply Qz|refine Qy ?_ ?_ _)|exact fun h=>absurd h (by simp <;> omega)))):Ext w1 (w1.alloc _)).mono hs1),Or.inl ⟨Hno.out,rfl⟩⟩
 ·have Hno:=Zac hno
  have Hsome:=Zac hsome
  clear hno hsome
  go_wp2
  go_ret2
  exact ⟨HE1.out.trans (((Ext.of (by repeat' (first | with_reducible(first|exact Qx _ _|apply Kept.drew|apply Kept.drewN|apply Qz|refine Qy ?_ ?_ _)|exact fun h=>absurd h (by simp <;> omega)))):Ext w1 (w1.alloc _)).mono hs1),Or.inr (Or.inl ⟨⟨cs,Hsome.out⟩,Hno.out,rfl⟩)⟩
 ·obtain ⟨_,_,_,hcs,hcl⟩:=Zcp hsome
  obtain ⟨_,_,_,hOk,hNm,ha1,ha2,ha3,_⟩:=Zcm hask
  have hFw:=Zsb hask
  obtain ⟨W2,hW2⟩:∃ W2,W2=(w1.alloc (.cells #[.slice h1 h2 h3,.slice b1 a.1.length bc,.slice n1 a.2.length nc] 74)).alloc (.cells #[.slice l1 cs.length lc,.slice n1 a.2.length nc,.slice none 0 0,.int .i64 0,.int .i64 0,.slice none 0 0,.slice none 0 0,.string ⟨#[]⟩] 79):=⟨_,rfl⟩
  have hE12:Ext w1 W2:=by rw [hW2]; exact (Ext.of (by repeat' (first | with_reducible(first|exact Qx _ _|apply Kept.drew|apply Kept.drewN|apply Qz|refine Qy ?_ ?_ _)|exact fun h=>absurd h (by simp <;> omega))))
  have hs2:W2.heap.size=w1.heap.size+2:=by rw [hW2]; simp
  have hbx:W2.heap[w1.heap.size+1]?=some (.cells #[.slice l1 cs.length lc,.slice n1 a.2.length nc,.slice none 0 0,.int .i64 0,.int .i64 0,.slice none 0 0,.slice none 0 0,.string ⟨#[]⟩] 79 (0,0)):=by rw [hW2]; exact heap_alloc2_new w1 _ _
  have hC2:CSr W2 (w1.heap.size+1) ⟨l1,lc,n1,nc,none,0,none,0,0,none,0,0⟩ cs a ⟨[],0,0,⟨[],[],[],[],0⟩,[]⟩:=⟨hbx,⟨xs,hP.ext hE12⟩,Zaj hns (fun j hj=>hE12.block j (hns.lt j hj).2),⟨[],RowL.nil _⟩,fun h=>by simp at h⟩
  have HTop:=Zac (Znw W2 (.slice h1 h2 h3) (.slice b1 a.1.length bc) (.slice n1 a.2.length nc) a.1 a.2 ⟨_,_,_,rfl⟩ (hT.ext hE12) (Zaj hns (fun j hj=>hE12.block j (hns.lt j hj).2)) (by omega) (by omega) (Ydp hOk ha3))
  have Hst:Hid (∀ w3 g1 gc v1 vc,Ext W2 w3→TermsIn w3 (.slice g1 a.1.length gc) a.1→TermsIn w3 (.slice v1 a.2.length vc) ((List.range a.2.length).map vr)→∀ o,CSr (w3.alloc o) (w1.heap.size+1) ⟨l1,lc,n1,nc,none,0,none,0,0,none,0,0⟩ cs a ⟨[],0,0,⟨[],[],[],[],0⟩,[]⟩∧Ext w (w3.alloc o)∧Calls Tryz.prog 27 #[.pointer (some ⟨w1.heap.size+1,0,none⟩),.agg #[.slice g1 a.1.length gc,.slice v1 a.2.length vc,.slice none 0 0,.int .i64 a.2.length]] (w3.alloc o) fun e w'=>e = .returned (.tuple #[])∧∃ x',Kept (ownS (w1.heap.size+1) ⟨l1,lc,n1,nc,none,0,none,0,0,none,0,0⟩) (w3.alloc o) w'∧CSr w' (w1.heap.size+1) x' cs a (Zbz ⟨[],0,0,⟨[],[],[],[],0⟩,[]⟩ (topN a))∧Zga (w3.alloc o) ⟨l1,lc,n1,nc,none,0,none,0,0,none,0,0⟩ x'):=fun w3 g1 gc v1 vc hE3 hg hv o=>by
   have hE34:Ext w3 (w3.alloc o):=(Ext.of (by repeat' (first | with_reducible(first|exact Qx _ _|apply Kept.drew|apply Kept.drewN|apply Qz|refine Qy ?_ ?_ _)|exact fun h=>absurd h (by simp <;> omega))))
   have hE24:Ext W2 (w3.alloc o):=hE3.trans (hE34.mono hE3.size)
   have hC:=hC2.ext hE24
   have hEw:Ext w (w3.alloc o):=(HE1.out.trans (hE12.mono HE1.out.size)).trans (hE24.mono (by omega))
   have hCN:CNode (w3.alloc o) (.slice g1 a.1.length gc) (.slice v1 a.2.length vc) (.slice none 0 0) (.int .i64 a.2.length) (topN a):=by
    refine ⟨topN a,⟨?_,hv.ext hE34,⟨[],TermsAt.nil _ _⟩⟩,rfl,hOk,hNm,hFw,Same.refl hOk⟩
    have:(topN a).goals.map (·.1)=a.1:=by unfold topN; rw [List.map_map]; exact (List.map_congr_left (fun _ _=>rfl)).trans (List.map_id _)
    rw [this]; exact hg.ext hE34
   exact ⟨hC,hEw,Zmx (w3.alloc o) _ _ cs a _ _ _ _ _ _ hC hCN (by simp) (Zhi ha2) (by simp)⟩
  have HL:Hid (∀ u (xx:CX),CSr u (w1.heap.size+1) xx cs a (Zbz ⟨[],0,0,⟨[],[],[],[],0⟩,[]⟩ (topN a))→Calls Tryz.prog 28 #[.pointer (some ⟨w1.heap.size+1,0,none⟩)] u fun e w'=>e = .returned (.tuple #[])∧Kept (only (w1.heap.size+1)) u w'∧CSr w' (w1.heap.size+1) xx cs a (newN cs a)):=fun u xx h1=>by
   have e:Zbz ⟨[],0,0,⟨[],[],[],[],0⟩,[]⟩ (topN a)=(⟨[(topN a,0)],0,0,⟨[],[],[],[],0⟩,[40]⟩:SN):=by unfold Zbz; rw [if_neg (Zhi ha2)]; rfl
   refine Zqo u _ xx cs a _ h1 (by rw [e]; simp) (by rw [e]; intro y hy; simp at hy; subst hy; exact Qm _) hcl (by rw [e]; simp)
  have HW2:=Zac hW2
  have Hsome:=Zac hsome
  have Hask:=Zac hask
  clear hsome hask hP hT hns hcs hOk hNm ha1 ha2 ha3 hFw hE12 hbx hC2 hW2
  go_wp2_with fail
  rw [← HW2.out]
  refine HTop.out.mono ?_
  rintro e w3 ⟨hE3,g1,gc,v1,vc,rfl,hg,hv⟩
  have hs3:=hE3.size
  have H3:=Zac (Hst.out w3 g1 gc v1 vc hE3 hg hv)
  clear hE3 hg hv HTop Hst
  go_wp2_with fail
  refine (H3.out _).2.2.mono ?_
  rintro e w4 ⟨rfl,x4,hK4,hC4,hN4⟩
  have H4:=Zac (HL.out w4 x4 hC4)
  have hs4:=hK4.size
  simp at hs4
  have HK4:=Zac hK4
  have HN4:=Zac hN4
  clear hK4 hC4 hN4 HL
  go_wp2_with fail
  refine H4.out.mono ?_
  rintro e w5 ⟨rfl,hK5,hC5⟩
  have HK5:=Zac hK5
  have HC5:=Zac hC5
  clear hK5 hC5
  go_wp2
  go_ret2
  refine ⟨?_,Or.inr (Or.inr ⟨cs,a,w1.heap.size+1,x4,Hsome.out,Hask.out,rfl,fun k hk => ?_,HC5.out⟩)⟩
  ·have h1:=(H3.out (.cells #[.slice g1 a.1.length gc,.slice v1 a.2.length vc,.slice none 0 0,.int .i64 a.2.length] 65)).2.1
   refine h1.trans ((HK4.out.below h1.size (fun k hk => ?_)).trans (HK5.out.below (Qq h1.size HK4.out.size) (fun k hk => ?_)))
   ·rcases hk with rfl | ⟨p,hp,_⟩
    ·omega
    ·simp at hp
   ·have:k=w1.heap.size+1:=hk
    omega
  ·rcases hk with rfl | hk
   ·omega
   ·rcases HN4.out.1 k hk with ⟨p,hp,_⟩ | h
    ·simp at hp
    ·simp at h
     omega
structure WayOk (cs:List Cls) (names:Names) (l:List UInt8) (M:HM):Prop where
 way:∀ y ∈ M.way,y.1.goals≠[]∧y.2≤cs.length∧y.1.vals.length=names.length
 le:M.at'≤l.length
 cnt:M.ans.length+M.way.length≤M.at'
theorem Zqq {cs:List Cls} {names:Names} {l:List UInt8} {n:ND} {p:Nat} {way:List (ND × Nat)} {A:List (List UInt8)} (h:WayOk cs names l ⟨true,p,way,A⟩) (hn:n.vals.length=names.length):WayOk cs names l (Zca names l n p way A)∧((Zca names l n p way A).ok=true→p<(Zca names l n p way A).at'):=by
 obtain ⟨h1,h2,h3⟩:=h
 simp only at h1 h2 h3
 unfold Zca
 split
 ·split
  ·rename_i hc
   have:=(Qa.1 hc).1
   exact ⟨⟨h1,this,by simp only [Qg,Qn]; omega⟩,fun _=>Nat.lt_succ_self _⟩
  ·exact ⟨⟨h1,h2,h3⟩,fun e=>by simp at e⟩
 ·rename_i hg
  split
  ·rename_i hc
   have:=(Qa.1 hc).1
   refine ⟨⟨fun y hy => ?_,this,by simp only [Qf]; omega⟩,fun _=>Nat.lt_succ_self _⟩
   rcases Qp.1 hy with rfl | hy
   ·exact ⟨hg,Qm _,hn⟩
   ·exact h1 y hy
  ·exact ⟨⟨h1,h2,h3⟩,fun e=>by simp at e⟩
theorem Yfw {cs:List Cls} {names:Names} {l:List UInt8} {n:ND} {k p:Nat} {r:List (ND × Nat)} {A:List (List UInt8)} (h:WayOk cs names l ⟨true,p,(n,k)::r,A⟩):WayOk cs names l (goM cs names l n k p r A)∧((goM cs names l n k p r A).ok=true→p<(goM cs names l n k p r A).at'):=by
 obtain ⟨h1,h2,h3⟩:=h
 simp only [Qf] at h1 h2 h3
 have hh:=h1 (n,k) (by simp)
 have hr:∀ y ∈ r,y.1.goals≠[]∧y.2≤cs.length∧y.1.vals.length=names.length:=fun y hy=>h1 y (by simp [hy])
 have hcons:∀ k',k'≤cs.length→∀ y ∈ (n,k')::r,y.1.goals≠[]∧y.2≤cs.length∧y.1.vals.length=names.length:=fun k' hk' y hy=>by
  rcases Qp.1 hy with rfl | hy
  ·exact ⟨hh.1,hk',hh.2.2⟩
  ·exact hr y hy
 unfold goM
 cases hN:Zec cs n (cs.length - k) k with
 | none =>
  simp only
  split
  ·rename_i hc
   have:=(Qa.1 hc).1
   exact ⟨⟨hr,this,by simp only; omega⟩,fun _=>Nat.lt_succ_self _⟩
  ·exact ⟨⟨hcons _ (Qe _),h2,by simp only [Qf]; omega⟩,fun e=>by simp at e⟩
 | some jc =>
  obtain ⟨j,c⟩:=jc
  obtain ⟨hc,_⟩:=Zue hN
  have hj:=(Qa.1 hc).1
  simp only
  split
  ·exact ⟨⟨hcons _ hj,h2,by simp only [Qf]; omega⟩,fun e=>by simp at e⟩
  ·rename_i hw
   have hs:=Zev (l.drop p)
   rw [List.length_drop] at hs
   have h12:(tryN n c j).2=1∨(tryN n c j).2=2:=by
    have h0:(tryN n c j).2≠0:=by
     have:∀ {f k:Nat},Zec cs n f k=some (j,c)→(tryN n c j).2≠0:=by
      intro f
      induction f with
      | zero=>intro k h; simp [Zec] at h
      | succ f ih =>
       intro k h
       rw [Zec] at h
       cases hc:cs[k]? with
       | none=>rw [hc] at h; simp at h
       | some d =>
        rw [hc] at h
        simp only at h
        split at h
        ·exact ih h
        ·simp at h
         obtain ⟨rfl,rfl⟩:=h
         assumption
     exact this hN
    have h3:(tryN n c j).2≠3:=fun h=>hw (Or.inl h)
    have:=Zfx n c j
    omega
   have:=Zqq (cs:=cs) (names:=names) (l:=l) (n:=(tryN n c j).1) (p:=p+(Zak (l.drop p)).2) (way:=(n,j+1)::r) (A:=A) ⟨hcons _ hj,by simp only; omega,by simp only [Qf]; omega⟩ (by rw [Ziz h12]; exact hh.2.2)
   exact ⟨this.1,fun e=>by have:=this.2 e; omega⟩
def Zok (w0 w:World) (R:HN) (e:Ending) (w':World):Prop:=FrT w w'∧Ext w0 w' ∧
 ((R.wrong=true∧e = .returned (.tuple #[.slice none 0 0,.agg #[.int .i64 7,.int .i64 R.at']]))∨(R.wrong=false∧∃ va vc,e = .returned (.tuple #[.slice va R.ans.length vc,.agg #[.int .i64 0,.int .i64 0]])∧w'.ownsRow w0.heap.size 9 1 (.slice va R.ans.length vc) R.ans.length (strs R.ans)))
theorem Zlo (w0 w:World) (b:Nat) (ca:Option Addr) (cc:Nat) (nv:Value) (s:ByteArray) (cs:List Cls) (names:Names) (gv vv rv uv:Value) (n:ND) (R:HN) (hq:HoP w0 ca cc nv cs names) (h:HoIn w0 w b (.slice ca cs.length cc) nv s 0 [] []) (hn:CNode w gv vv rv uv n) (hvl:n.vals.length=names.length) (hs:s.size≤20000) (hR:Zof cs names s.data.toList (Zca names s.data.toList n 0 [] []) R) :
  Calls Tryz.prog 35 #[.pointer (some ⟨b,0,none⟩),.agg #[gv,vv,rv,uv]] w (Zok w0 w R):=by
 obtain ⟨ga,gc,va',vl',vc',ra,rl,rc,u,rfl,rfl,rfl,rfl,hu4⟩:=hn.shape
 obtain ⟨z,hz⟩:∃ z,z=n.goals.length:=⟨_,rfl⟩
 rw [← hz] at hn ⊢
 obtain ⟨W,hW⟩:∃ W,W=(w.alloc (.cells #[.slice ga z gc,.slice va' vl' vc',.slice ra rl rc,.int .i64 u] 65)).alloc (.cells #[.int .i64 0,.int .i64 0] 60):=⟨_,rfl⟩
 have hEW:Ext w W:=by rw [hW]; exact (Ext.of (by repeat' (first | with_reducible(first|exact Qx _ _|apply Kept.drew|apply Kept.drewN|apply Qz|refine Qy ?_ ?_ _)|exact fun h=>absurd h (by simp <;> omega))))
 have hbW:W.heap[w.heap.size+1]?=some (.cells #[.int .i64 0,.int .i64 0] 60 (0,0)):=by rw [hW]; exact Zcw (by simp) _
 have hsl:s.data.toList.length=s.size:=by simp
 have HEn:=Zac (hq.enter (h.grow hEW) (hn.ext hEW) hvl hs (Qm _) (by simp) (by simp))
 have hok:=Zqq (cs:=cs) (names:=names) (l:=s.data.toList) (n:=n) (p:=0) (way:=[]) (A:=[]) ⟨fun y hy=>by simp at hy,Qm _,by simp⟩ hvl
 have Hok:=Zac hok.1
 obtain ⟨M,hM⟩:∃ M,M=Zca names s.data.toList n 0 [] []:=⟨_,rfl⟩
 rw [← hM] at HEn hR Hok
 have HR:=Zac hR
 have Hq:=Zac hq
 have HEW:=Zac hEW
 have HbW:=Zac hbW
 have HW:=Zac hW
 have Hsl:=Zac hsl
 have hlow:w0.heap.size≤w.heap.size:=by
  obtain ⟨_,_,_,_,h⟩:=h
  exact h.ext.size
 clear h hn hq hR hEW hbW hW hsl hok hM hz hvl
 go_enter Tryz.func35,Tryz.ntmps35
 go_wp2_with fail
 rw [← HW.out]
 refine HEn.out.mono ?_
 rintro e w1 ⟨hF1,rfl,h1⟩
 have H1:=Zac h1
 have HF1:=Zac hF1
 clear h1 hF1 HEn
 go_wp2
 go_loopg [6] (s.size+2) (fun gk hv wr=>∃ M:HM,hv = .bool M.ok∧Zof cs names s.data.toList M R∧WayOk cs names s.data.toList M∧(if M.ok then s.size - M.at'+1 else 0)<gk∧HoIn w0 wr b (.slice ca cs.length cc) nv s M.at' M.way M.ans∧FrT W wr)
 case atStart=>exact ⟨M,rfl,HR.out,Hok.out,by split <;> omega,H1.out,HF1.out⟩
 case round =>
  obtain ⟨⟨ok,p,way,A⟩,rfl,hG,hO,hgk,⟨wa,wc,aa,ac,hC⟩,hF⟩:=hrel
  simp only at hG hO hgk hC
  have hle:=hO.le
  have hcnt:=hO.cnt
  rw [Hsl.out] at hle
  simp only at hle hcnt
  have hbx:=hC.box
  obtain ⟨b0,b1,b2,b3,b4,b5,bf⟩:=box6 hbx
  have hbl:=Zab hbx
  have hf:=hF _ _ _ _ HbW.out (by simp [HoTy])
  obtain ⟨f0,f1,ff⟩:=box2 hf
  have hfl:=Zab hf
  have HC:=Zac hC
  have HF:=Zac hF
  have Hf:=Zac hf
  clear hC hF hf hbx
  cases ok with
  | false =>
   obtain ⟨hw,ha⟩:=hG.2 rfl
   simp only at ha
   have Hfin:Hid (∀ w2,Kept (only (w.heap.size+1)) wr w2→Zok w0 w R (.returned (.tuple #[.slice none 0 0,.agg #[.int .i64 7,.int .i64 p]])) w2):=fun w2 hK=>by
    refine ⟨((FrT.of_ext HEW.out).trans HF.out).put hK (by omega),Zdj HC.out.ext hK (by omega),Or.inl ⟨hw,by rw [ha]⟩⟩
   clear hG hO hgk hw ha
   go_wp2_with fail
   go_region
   all_goals
    go_wp2
    refine bodyPost_ret (v := .tuple #[.slice none 0 0,.agg #[.int .i64 7,.int .i64 p]]) (by simp [results,Tryz.results35,go_sem,f0,f1,ff]) rfl ?_
    exact Hfin.out _ (by repeat (first | exact Qx _ _ | apply Qz | apply Kept.put | apply Kept.drew))
  | true =>
   cases way with
   | nil =>
    have hr:=Zuc (hG.1 rfl)
    simp only at hr
    have Hfin:Hid (∀ w2,Kept (only (w.heap.size+1)) wr w2→Zok w0 w R (.returned (.tuple #[.slice aa A.length ac,.agg #[.int .i64 0,.int .i64 0]])) w2):=fun w2 hK=>by
     refine ⟨((FrT.of_ext HEW.out).trans HF.out).put hK (by omega),Zdj HC.out.ext hK (by omega),Or.inr ⟨by rw [hr],aa,ac,by rw [hr],?_⟩⟩
     rw [hr]
     exact Zaj HC.out.ans (fun k hj=>hK.block k (HC.out.ans.lt k hj).2 (Zes HC.out.ans Hf.out (by decide) k hj))
    clear hG hO hgk hr
    go_wp2
    refine bodyPost_ret (v := .tuple #[.slice aa A.length ac,.agg #[.int .i64 0,.int .i64 0]]) (by simp [results,Tryz.results35,go_sem,f0,f1,ff]) rfl ?_
    exact Hfin.out _ (by repeat (first | exact Qx _ _ | apply Qz | apply Kept.put | apply Kept.drew))
   | cons y r =>
    obtain ⟨n2,k2⟩:=y
    obtain ⟨hg1,hg2,hg3⟩:=hO.way (n2,k2) (by simp)
    have HGo:=Zac (Ycx w0 wr b ca cc nv s p n2 k2 r A cs names Hq.out ⟨_,_,_,_,HC.out⟩ hg1 hg3 hg2 hs hle (by omega) (by simp only [Qf] at hcnt; omega))
    have HGm:=Zac (Zsn (hG.1 rfl))
    obtain ⟨hO2,hlt2⟩:=Yfw hO
    obtain ⟨M2,hM2⟩:∃ M2,M2=goM cs names s.data.toList n2 k2 p r A:=⟨_,rfl⟩
    rw [← hM2] at HGo HGm hO2 hlt2
    have HO2:=Zac hO2
    have Hlt2:=Zac hlt2
    simp only [Qf] at b4 hcnt
    have hrl:(0:Int)<(r.length:Int)+1:=by omega
    have hgk2:s.size - p+1<gk:=by simpa using hgk
    clear hG hO hgk hg1 hg2 hg3 hO2 hlt2 hM2
    go_wp2_with fail
    refine HGo.out.mono ?_
    rintro e w2 ⟨hF2,rfl,h2⟩
    have H2:=Zac h2
    have HF2:=Zac (HF.out.trans hF2)
    clear h2 hF2 HGo b0 b1 b2 b3 b4 b5 bf f0 f1 ff
    go_wp2
    go_roundg (s.size - p+1)
    case measure=>omega
    case rel =>
     refine ⟨M2,rfl,HGm.out,HO2.out,?_,H2.out,HF2.out⟩
     split
     ·rename_i e
      have h1:=Hlt2.out e
      have h2:=HO2.out.le
      rw [Hsl.out] at h2
      omega
     ·omega
def Zlp (p q t:ByteArray) (w:World) (e:Ending) (w':World):Prop:=Ext w w'∧∃ va vc,e = .returned (.tuple #[.slice va (allN p q t).1.length vc,.agg #[.int .i64 (allN p q t).2.1,.int .i64 (allN p q t).2.2]])∧w'.ownsRow w.heap.size 9 1 (.slice va (allN p q t).1.length vc) (allN p q t).1.length (strs (allN p q t).1)
theorem Zlq {p q t:ByteArray} {w w':World} {er pl:Nat} (h:allN p q t=([],er,pl)) (hE:Ext w w'):Zlp p q t w (.returned (.tuple #[.slice none 0 0,.agg #[.int .i64 er,.int .i64 pl]])) w':=by
 refine ⟨hE,none,0,?_,?_⟩
 ·rw [h]; rfl
 ·rw [h]; exact World.ownsRow_nil _ _ _ _
theorem Zsv (p q t:ByteArray) (w:World) (hp:p.size≤maxLen) (hq:q.size≤maxLen) (ht:t.size≤maxLen):Calls Tryz.prog 22 #[.string p,.string q,.string t] w (Zlp p q t w):=by
 obtain ⟨W0,hW0⟩:∃ W0,W0=w.alloc (.cells #[.int .i64 0,.int .i64 0] 60):=⟨_,rfl⟩
 have HB:=Zac (Zle p q W0 hp hq)
 have hE0:Ext w W0:=by rw [hW0]; exact (Ext.of (by repeat' (first | with_reducible(first|exact Qx _ _|apply Kept.drew|apply Kept.drewN|apply Qz|refine Qy ?_ ?_ _)|exact fun h=>absurd h (by simp <;> omega))))
 have hb0:W0.heap[w.heap.size]?=some (.cells #[.int .i64 0,.int .i64 0] 60 (0,0)):=by rw [hW0]; exact heap_alloc_new w _
 have hs0:W0.heap.size=w.heap.size+1:=by rw [hW0]; simp
 have HW0:=Zac hW0
 have HE0:=Zac hE0
 have Hb0:=Zac hb0
 unfold maxLen at ht
 clear hp hq hW0 hE0 hb0
 go_enter Tryz.func22,Tryz.ntmps22
 go_wp2_with fail
 rw [← HW0.out]
 refine HB.out.mono ?_
 rintro e w1 ⟨hE1,hB⟩
 have hs1:=hE1.size
 have hb1:=(hE1.block _ (by omega)).trans Hb0.out
 obtain ⟨f0,f1,ff⟩:=box2 hb1
 have hfl:=Zab hb1
 have HE1:=Zac (HE0.out.trans (hE1.mono HE0.out.size))
 have Hb1:=Zac hb1
 clear hE1 hb1 HB
 have Hno:Hid (∀ w2 er pl,allN p q t=([],er,pl)→Kept (only w.heap.size) w1 w2→Zlp p q t w (.returned (.tuple #[.slice none 0 0,.agg #[.int .i64 (er:Nat),.int .i64 (pl:Nat)]])) w2):=fun w2 er pl ha hK=>Zlq ha (Zdj HE1.out hK (Qe _))
 rcases hB with ⟨hno,rfl⟩ | ⟨⟨cs,hsome⟩,hno,rfl⟩ | ⟨cs,a,l1,lc,xs,h1,h2,h3,b1,bc,n1,nc,hsome,hask,rfl,hP,hT,hns⟩
 ·have Hh:Hid (allN p q t=([],4,0)):=by show _=_; simp [allN,hno]
  clear hno
  go_wp2
  refine bodyPost_ret (v := .tuple #[.slice none 0 0,.agg #[.int .i64 4,.int .i64 0]]) (by simp [results,Tryz.results22,go_sem,f0,f1,ff,hfl]) rfl ?_
  exact Hno.out _ 4 0 Hh.out (by repeat (first | exact Qx _ _ | apply Qz | apply Kept.put | apply Kept.drew))
 ·have Hh:Hid (allN p q t=([],5,0)):=by show _=_; simp [allN,hno,hsome]
  clear hno hsome
  go_wp2
  refine bodyPost_ret (v := .tuple #[.slice none 0 0,.agg #[.int .i64 5,.int .i64 0]]) (by simp [results,Tryz.results22,go_sem,f0,f1,ff,hfl]) rfl ?_
  exact Hno.out _ 5 0 Hh.out (by repeat (first | exact Qx _ _ | apply Qz | apply Kept.put | apply Kept.drew))
 ·by_cases ht2:20000<t.size
  ·have Hh:Hid (allN p q t=([],1,0)):=by show _=_; simp [allN,hsome,hask,ht2]
   have ht3:(20000:Int)<(t.size:Int):=by omega
   clear hP hT hns hsome hask ht2
   go_wp2
   refine bodyPost_ret (v := .tuple #[.slice none 0 0,.agg #[.int .i64 1,.int .i64 0]]) (by simp [results,Tryz.results22,go_sem,f0,f1,ff,hfl]) rfl ?_
   exact Hno.out _ 1 0 Hh.out (by repeat (first | exact Qx _ _ | apply Qz | apply Kept.put | apply Kept.drew))
  ·have ht3:¬ (20000:Int)<(t.size:Int):=by omega
   obtain ⟨W2,hW2⟩:∃ W2,W2=w1.alloc (.cells #[.slice h1 h2 h3,.slice b1 a.1.length bc,.slice n1 a.2.length nc] 74):=⟨_,rfl⟩
   have hE2:Ext w1 W2:=by rw [hW2]; exact (Ext.of (by repeat' (first | with_reducible(first|exact Qx _ _|apply Kept.drew|apply Kept.drewN|apply Qz|refine Qy ?_ ?_ _)|exact fun h=>absurd h (by simp <;> omega))))
   have hbW2:W2.heap[w1.heap.size]?=some (.cells #[.slice h1 h2 h3,.slice b1 a.1.length bc,.slice n1 a.2.length nc] 74 (0,0)):=by rw [hW2]; exact heap_alloc_new w1 _
   have hs2:W2.heap.size=w1.heap.size+1:=by rw [hW2]; simp
   have HCf:=Zac (Zoi t W2 (by omega))
   have HW2:=Zac hW2
   cases hsh:Zff t.data.toList with
   | some pl =>
    have Hh:Hid (allN p q t=([],6,pl)):=by show _=_; simp [allN,hsome,hask,ht2,hsh]
    unfold Zsp at HCf
    rw [hsh] at HCf
    simp only at HCf
    have HE2:=Zac hE2
    have hb2:=(hE2.block _ hfl).trans Hb1.out
    have Hb2:=Zac hb2
    clear hP hT hns hsome hask ht2 hsh hE2 hbW2 hW2 hb2
    go_wp2_with fail
    rw [← HW2.out]
    refine HCf.out.mono ?_
    rintro e w3 ⟨hE3,rfl⟩
    have hs3:=hE3.size
    have hb3:=(hE3.block _ (by omega)).trans Hb2.out
    have HE3:=Zac (HE2.out.trans (hE3.mono HE2.out.size))
    clear hE3 HCf f0 f1 ff
    obtain ⟨f0,f1,ff⟩:=box2 hb3
    have Hfin:Hid (∀ w4,Kept (only w.heap.size) w3 w4→Zlp p q t w (.returned (.tuple #[.slice none 0 0,.agg #[.int .i64 6,.int .i64 pl]])) w4):=fun w4 hK=>Zlq Hh.out (Zdj (HE1.out.trans (HE3.out.mono HE1.out.size)) hK (Qe _))
    have hfl3:=Zab hb3
    clear hb3
    go_wp2_with fail
    go_region
    all_goals
     go_wp2
     refine bodyPost_ret (v := .tuple #[.slice none 0 0,.agg #[.int .i64 6,.int .i64 pl]]) (by simp [results,Tryz.results22,go_sem,f0,f1,ff,hfl3]) rfl ?_
     exact Hfin.out _ (by repeat (first | exact Qx _ _ | apply Qz | apply Kept.put | apply Kept.drew))
   | none =>
    obtain ⟨R,hR⟩:∃ R,R=Zlw cs a t.data.toList:=⟨_,rfl⟩
    have hG:=Zql cs a hsh
    rw [← hR] at hG
    have Hh:Hid (allN p q t=if R.wrong=true then ([],7,R.at') else (R.ans,0,0)):=by show _=_; simp [allN,hsome,hask,ht2,hsh,hR]
    unfold Zsp at HCf
    rw [hsh] at HCf
    simp only at HCf
    obtain ⟨_,_,_,hcs,hcl⟩:=Zcp hsome
    obtain ⟨_,_,_,hOk,hNm,ha1,ha2,ha3,ha8⟩:=Zcm hask
    have ha6:=Zlh hask
    have hFw:=Zsb hask
    have hHoP:HoP w1 l1 lc (.slice n1 a.2.length nc) cs a.2:=⟨⟨xs,hP⟩,hcs,Zoa hsome,hcl,hns,ha6,ha8⟩
    have HTop:Hid (∀ u,Ext w1 u→Calls Tryz.prog 26 #[.agg #[.slice h1 h2 h3,.slice b1 a.1.length bc,.slice n1 a.2.length nc]] u _):=fun u hu=>Znw u (.slice h1 h2 h3) (.slice b1 a.1.length bc) (.slice n1 a.2.length nc) a.1 a.2 ⟨_,_,_,rfl⟩ (hT.ext hu) (Zaj hns (fun j hj=>hu.block j (hns.lt j hj).2)) (by omega) (by omega) (Ydp hOk ha3)
    have Hst:Hid (∀ u g1 gc v1 vc b,HoIn w1 u b (.slice l1 cs.length lc) (.slice n1 a.2.length nc) t 0 [] []→TermsIn u (.slice g1 a.1.length gc) a.1→TermsIn u (.slice v1 a.2.length vc) ((List.range a.2.length).map vr)→Calls Tryz.prog 35 #[.pointer (some ⟨b,0,none⟩),.agg #[.slice g1 a.1.length gc,.slice v1 a.2.length vc,.slice none 0 0,.int .i64 a.2.length]] u (Zok w1 u R)):=fun u g1 gc v1 vc b hI hg hv=>by
     have hCN:CNode u (.slice g1 a.1.length gc) (.slice v1 a.2.length vc) (.slice none 0 0) (.int .i64 a.2.length) (topN a):=by
      refine ⟨topN a,⟨?_,hv,⟨[],TermsAt.nil _ _⟩⟩,rfl,hOk,hNm,hFw,Same.refl hOk⟩
      have:(topN a).goals.map (·.1)=a.1:=by unfold topN; rw [List.map_map]; exact (List.map_congr_left (fun _ _=>rfl)).trans (List.map_id _)
      rw [this]; exact hg
     exact Zlo w1 u b l1 lc _ t cs a.2 _ _ _ _ (topN a) R hHoP hI hCN (by simp [topN]) (by omega) hG
    have HE2:=Zac hE2
    have Hb2:=Zac ((hE2.block _ hfl).trans Hb1.out)
    have HbW2:=Zac hbW2
    clear hP hT hns hsome hask ht2 hsh hE2 hbW2 hW2 hcs hOk hNm ha1 ha2 ha3 ha6 ha8 hFw hHoP hG hR
    go_wp2_with fail
    rw [← HW2.out]
    refine HCf.out.mono ?_
    rintro e w3 ⟨hE3,rfl⟩
    have hs3:=hE3.size
    have Hb3:=Zac ((hE3.block _ (by omega)).trans Hb2.out)
    have hc3:=(hE3.block _ (by omega)).trans HbW2.out
    have HE3:=Zac (HE2.out.trans (hE3.mono HE2.out.size))
    obtain ⟨W5,hW5⟩:∃ W5,W5=(w3.alloc (.cells #[.int .i64 0,.int .i64 0] 60)).alloc (.cells #[.slice l1 cs.length lc,.slice n1 a.2.length nc,.string t,.int .i64 0,.slice none 0 0,.slice none 0 0] 88):=⟨_,rfl⟩
    have hE5:Ext w3 W5:=by rw [hW5]; exact (Ext.of (by repeat' (first | with_reducible(first|exact Qx _ _|apply Kept.drew|apply Kept.drewN|apply Qz|refine Qy ?_ ?_ _)|exact fun h=>absurd h (by simp <;> omega))))
    have hb5:W5.heap[w3.heap.size+1]?=some (.cells #[.slice l1 cs.length lc,.slice n1 a.2.length nc,.string t,.int .i64 0,.slice none 0 0,.slice none 0 0] 88 (0,0)):=by rw [hW5]; exact heap_alloc2_new w3 _ _
    have hE15:Ext w1 W5:=HE3.out.trans (hE5.mono HE3.out.size)
    have HI5:Hid (HoIn w1 W5 (w3.heap.size+1) (.slice l1 cs.length lc) (.slice n1 a.2.length nc) t 0 [] []):=⟨none,0,none,0,hE15,by omega,hb5,⟨[],⟨World.ownsRow_nil _ _ _ _,fun i d h=>by simp at h⟩⟩,World.ownsRow_nil _ _ _ _⟩
    obtain ⟨c0,c1,c2,cf⟩:=box3' hc3
    have hcl3:=Zab hc3
    have HT5:=Zac (HTop.out W5 hE15)
    have Hb5:=Zac ((hE5.block _ (by omega)).trans Hb3.out)
    have HE15:=Zac hE15
    have HW5:=Zac hW5
    have hs5:=hE5.size
    clear hE3 HCf f0 f1 ff hc3 hE5 hb5 hE15 hW5 HTop
    go_wp2_with fail
    rw [← HW5.out]
    refine HT5.out.mono ?_
    rintro e w6 ⟨hE6,g1,gc,v1,vc,rfl,hg,hv⟩
    have hs6:=hE6.size
    obtain ⟨W7,hW7⟩:∃ W7,W7=w6.alloc (.cells #[.slice g1 a.1.length gc,.slice v1 a.2.length vc,.slice none 0 0,.int .i64 a.2.length] 65):=⟨_,rfl⟩
    have hE7:Ext w6 W7:=by rw [hW7]; exact (Ext.of (by repeat' (first | with_reducible(first|exact Qx _ _|apply Kept.drew|apply Kept.drewN|apply Qz|refine Qy ?_ ?_ _)|exact fun h=>absurd h (by simp <;> omega))))
    have hE57:Ext W5 W7:=hE6.trans (hE7.mono hE6.size)
    have H7:=Zac (Hst.out W7 g1 gc v1 vc (w3.heap.size+1) (HI5.out.grow hE57) (hg.ext hE7) (hv.ext hE7))
    have Hb7:=Zac ((hE57.block _ (Zab Hb5.out)).trans Hb5.out)
    have HW7:=Zac hW7
    clear hE6 hg hv hE7 hE57 hW7 Hst HT5 c0 c1 c2 cf
    go_wp2_with fail
    rw [← HW7.out]
    refine H7.out.mono ?_
    rintro e w8 ⟨hF8,hE8,hout⟩
    have hb8:=hF8 _ _ _ _ Hb7.out (by simp [HoTy])
    obtain ⟨f0,f1,ff⟩:=box2 hb8
    have hfl8:=Zab hb8
    have HEw:=Zac (HE1.out.trans (hE8.mono HE1.out.size))
    have Hb8:=Zac hb8
    clear hF8 hE8 hb8 H7
    rcases hout with ⟨hw,rfl⟩ | ⟨hw,va,vc',rfl,ho⟩
    ·have Hfin:Hid (∀ w9,Kept (only w.heap.size) w8 w9→Zlp p q t w (.returned (.tuple #[.slice none 0 0,.agg #[.int .i64 7,.int .i64 R.at']])) w9):=fun w9 hK=>Zlq (by rw [Hh.out,if_pos hw]) (Zdj HEw.out hK (Qe _))
     clear hw
     go_wp2
     refine bodyPost_ret (v := .tuple #[.slice none 0 0,.agg #[.int .i64 7,.int .i64 R.at']]) (by simp [results,Tryz.results22,go_sem,f0,f1,ff,hfl8]) rfl ?_
     exact Hfin.out _ (by repeat (first | exact Qx _ _ | apply Qz | apply Kept.put | apply Kept.drew))
    ·have Hfin:Hid (∀ w9,Kept (only w.heap.size) w8 w9→Zlp p q t w (.returned (.tuple #[.slice va R.ans.length vc',.agg #[.int .i64 0,.int .i64 0]])) w9):=fun w9 hK=>by
      have e:allN p q t=(R.ans,0,0):=by rw [Hh.out,if_neg (by rw [hw]; simp)]
      refine ⟨Zdj HEw.out hK (Qe _),va,vc',by rw [e]; rfl,?_⟩
      rw [e]
      exact Zbd (Zaj ho (fun k hj=>hK.block k (ho.lt k hj).2 (Zes ho Hb8.out (by decide) k hj))) HE1.out.size
     clear hw ho
     go_wp2
     refine bodyPost_ret (v := .tuple #[.slice va R.ans.length vc',.agg #[.int .i64 0,.int .i64 0]]) (by simp [results,Tryz.results22,go_sem,f0,f1,ff,hfl8]) rfl ?_
     exact Hfin.out _ (by repeat (first | exact Qx _ _ | apply Qz | apply Kept.put | apply Kept.drew))
theorem Yfa (p q t:ByteArray):((allN p q t).2.1≠0→(allN p q t).1=[])∧((allN p q t).2.1=0→(allN p q t).2.2=0):=by
 unfold allN
 split
 ·exact ⟨fun _=>rfl,fun h=>by simp at h⟩
 ·split
  ·exact ⟨fun _=>rfl,fun h=>by simp at h⟩
  ·split
   ·exact ⟨fun _=>rfl,fun h=>by simp at h⟩
   ·split
    ·exact ⟨fun _=>rfl,fun h=>by simp at h⟩
    ·split
     ·exact ⟨fun _=>rfl,fun h=>by simp at h⟩
     ·exact ⟨fun h=>absurd rfl h,fun _=>rfl⟩
theorem Ycz (p q t:ByteArray) (w:World) (hp:p.size≤maxLen) (hq:q.size≤maxLen) (ht:t.size≤maxLen):Calls Tryz.prog 11 #[.string p,.string q,.string t] w (Zqk p q t w):=by
 have HA:=Zac (Zsv p q t w hp hq ht)
 unfold Zlp at HA
 obtain ⟨hX3,hX4⟩:=Yfa p q t
 obtain ⟨X,hX⟩:∃ X,X=allN p q t:=⟨_,rfl⟩
 rw [← hX] at HA hX3 hX4
 have HX:=Zac hX
 clear hp hq ht hX
 obtain ⟨A,er,pl⟩:=X
 simp only at HA hX3 hX4
 go_enter Tryz.func11,Tryz.ntmps11
 go_wp2_with fail
 refine HA.out.mono ?_
 rintro e w1 ⟨hE1,va,vc,rfl,ho⟩
 have hs1:=hE1.size
 have HE1:=Zac hE1
 have Ho:=Zac ho
 clear hE1 ho HA
 by_cases he:er=0
 ·obtain rfl:=hX4 he
  subst he
  have Hfin:Hid (∀ o,Zqk p q t w (.returned (.tuple #[.slice va A.length vc,.int .i64 0,.int .i64 0])) (w1.alloc o)):=fun o=>by
   have hEo:Ext w1 (w1.alloc o):=(Ext.of (by repeat' (first | with_reducible(first|exact Qx _ _|apply Kept.drew|apply Kept.drewN|apply Qz|refine Qy ?_ ?_ _)|exact fun h=>absurd h (by simp <;> omega))))
   refine ⟨HE1.out.trans (hEo.mono hs1),va,vc,by rw [← HX.out]; rfl,?_⟩
   rw [← HX.out]
   exact Zaj Ho.out (fun k hk=>hEo.block k (Ho.out.lt k hk).2)
  clear hX3 hX4
  go_wp2
  go_ret3
  exact Hfin.out _
 ·have hb:((er:Int) != 0)=true:=by rw [bne_iff_ne]; omega
  obtain rfl:=hX3 he
  have Hfin:Hid (∀ w2,Ext w1 w2→Zqk p q t w (.returned (.tuple #[.slice none 0 0,.int .i64 er,.int .i64 pl])) w2):=fun w2 hE2=>Yac HX.out.symm (HE1.out.trans (hE2.mono hs1))
  clear hX3 hX4 he
  go_wp2_with fail
  go_quiet (fail)
  go_wp2
  go_ret3
  exact Hfin.out _ (Ext.of (by repeat' (first | with_reducible(first|exact Qx _ _|apply Kept.drew|apply Kept.drewN|apply Qz|refine Qy ?_ ?_ _)|exact fun h=>absurd h (by simp <;> omega))))
def Zmy (cs:List Cls) (n:ND):Nat→Nat→Option (Option (Nat × Cls × ND × Nat))
 | 0,_=>some none
 | f+1,k=>match cs[k]? with
  | none=>some none
  | some c=>match tryC n c k with
   | none=>none
   | some (ch,q)=>if q=0 then Zmy cs n f (k+1) else some (some (k,c,ch,q))
theorem Yda {cs:List Cls} (hcs:∀ c ∈ cs,COk c) {n m:ND} (hn:NOk n) (hs:Same n m):∀ {f k:Nat} {o:Option (Nat × Cls × ND × Nat)},Zmy cs n f k=some o →
  (o=none→Zec cs m f k=none)∧(∀ j c ch q,o=some (j,c,ch,q)→Zec cs m f k=some (j,c)∧q=(tryN m c j).2∧(q=1∨q=2→NOk ch∧Same ch (tryN m c j).1)):=by
 intro f
 induction f with
 | zero =>
  intro k o h
  simp [Zmy] at h
  subst h
  exact ⟨fun _=>rfl,fun _ _ _ _ h=>by simp at h⟩
 | succ f ih =>
  intro k o h
  unfold Zmy at h
  unfold Zec
  cases hc:cs[k]? with
  | none =>
   rw [hc] at h
   simp at h
   subst h
   exact ⟨fun _=>rfl,fun _ _ _ _ h=>by simp at h⟩
  | some c =>
   rw [hc] at h
   simp only at h ⊢
   cases hq:tryC n c k with
   | none=>rw [hq] at h; simp at h
   | some cq =>
    obtain ⟨ch,q⟩:=cq
    rw [hq] at h
    simp only at h
    have hcc:=hcs c (Qh hc)
    obtain ⟨e1,e2⟩:=Zeo hn hs hcc (Zoc hn hcc hq)
    rw [← e1]
    split at h
    ·rename_i h0
     rw [if_pos h0]
     exact ih h
    ·rename_i h0
     rw [if_neg h0]
     simp at h
     subst h
     refine ⟨fun h=>by simp at h,fun j c' ch' q' h => ?_⟩
     simp at h
     obtain ⟨rfl,rfl,rfl,rfl⟩:=h
     exact ⟨rfl,e1,e2⟩
theorem Ydb {cs:List Cls} {n:ND}:∀ {f k j:Nat} {c:Cls},Zec cs n f k=some (j,c)→(tryN n c j).2≠0:=by
 intro f
 induction f with
 | zero=>intro k j c h; simp [Zec] at h
 | succ f ih =>
  intro k j c h
  unfold Zec at h
  cases hc:cs[k]? with
  | none=>rw [hc] at h; simp at h
  | some d =>
   rw [hc] at h
   simp only at h
   split at h
   ·exact ih h
   ·rename_i h0
    simp at h
    obtain ⟨rfl,rfl⟩:=h
    exact h0
structure RelM (M N:HM):Prop where
 ok:M.ok=N.ok
 at':M.at'=N.at'
 way:RelW M.way N.way
 ans:M.ans=N.ans
theorem Zqr {names:Names} {l:List UInt8} {n m:ND} (hn:NOk n) (hs:Same n m) {way way':List (ND × Nat)} (hw:RelW way way') (p:Nat) (A:List (List UInt8)):RelM (Zca names l n p way A) (Zca names l m p way' A):=by
 have hg:=hs.gl
 unfold Zca
 by_cases he:n.goals=[]
 ·have he':m.goals=[]:=List.eq_nil_of_length_eq_zero (by rw [← hg,he]; rfl)
  rw [if_pos he,if_pos he']
  split
  ·exact ⟨rfl,rfl,hw,by simp only; rw [show Zbb names n=Zbb names m by unfold Zbb; rw [hs.valsC hn]]⟩
  ·exact ⟨rfl,rfl,hw,rfl⟩
 ·have he':m.goals≠[]:=fun e=>he (List.eq_nil_of_length_eq_zero (by rw [hg,e]; rfl))
  rw [if_neg he,if_neg he']
  split
  ·exact ⟨rfl,rfl,⟨⟨hn,hs,rfl⟩,hw⟩,rfl⟩
  ·exact ⟨rfl,rfl,hw,rfl⟩
def goCa (cs:List Cls) (names:Names) (l:List UInt8) (n:ND) (k p:Nat) (r:List (ND × Nat)) (A:List (List UInt8)):Option HM :=
 match Zmy cs n (cs.length - k) k with
 | none=>none
 | some none=>some (if l[p]?=some 41 then ⟨true,p+1,r,A⟩ else ⟨false,p,(n,cs.length)::r,A⟩)
 | some (some (j,_,ch,q))=>some (if q=3∨(Zak (l.drop p)).2=0∨(Zak (l.drop p)).1≠j then ⟨false,p,(n,j+1)::r,A⟩ else Zca names l ch (p+(Zak (l.drop p)).2) ((n,j+1)::r) A)
theorem Yfx {cs:List Cls} (hcs:∀ c ∈ cs,COk c) {names:Names} {l:List UInt8} {n m:ND} (hn:NOk n) (hs:Same n m) {r r':List (ND × Nat)} (hw:RelW r r') {k p:Nat} {A:List (List UInt8)} {M:HM} (h:goCa cs names l n k p r A=some M):RelM M (goM cs names l m k p r' A):=by
 unfold goCa at h
 unfold goM
 cases hx:Zmy cs n (cs.length - k) k with
 | none=>rw [hx] at h; simp at h
 | some o =>
  rw [hx] at h
  obtain ⟨h1,h2⟩:=Yda hcs hn hs hx
  cases o with
  | none =>
   simp only at h
   rw [h1 rfl]
   simp only
   simp at h
   subst h
   split
   ·exact ⟨rfl,rfl,hw,rfl⟩
   ·exact ⟨rfl,rfl,⟨⟨hn,hs,rfl⟩,hw⟩,rfl⟩
  | some x =>
   obtain ⟨j,c,ch,q⟩:=x
   obtain ⟨e1,e2,e3⟩:=h2 j c ch q rfl
   rw [e1]
   simp only at h ⊢
   simp only [Qo] at h
   subst h
   rw [← e2]
   split
   ·exact ⟨rfl,rfl,⟨⟨hn,hs,rfl⟩,hw⟩,rfl⟩
   ·rename_i hno
    have hq0:q≠0:=by
     intro h0
     have h4:=Ydb e1
     rw [← e2] at h4
     exact h4 h0
    have hk:=Zfx m c j
    rw [← e2] at hk
    have h12:q=1∨q=2:=by omega
    exact Zqr (e3 h12).1 (e3 h12).2 (way:=(n,j+1)::r) (way':=(m,j+1)::r') ⟨⟨hn,hs,rfl⟩,hw⟩ _ _
def Zxa (cs:List Cls) (names:Names) (l:List UInt8):Nat→HM→Option HN
 | 0,_=>none
 | f+1,M=>if M.ok=false then some ⟨M.at',true,[]⟩ else match M.way with
  | []=>some ⟨M.at',false,M.ans⟩
  | (n,k)::r=>match goCa cs names l n k M.at' r M.ans with
   | none=>none
   | some M'=>Zxa cs names l f M'
theorem Yfb {cs:List Cls} (hcs:∀ c ∈ cs,COk c) {names:Names} {l:List UInt8} {R:HN}:∀ {f:Nat} {M N:HM} {R':HN},RelM M N→Zof cs names l N R→Zxa cs names l f M=some R'→R'.wrong=R.wrong∧R'.at'=R.at'∧(R.wrong=false→R'.ans=R.ans):=by
 intro f
 induction f with
 | zero=>intro M N R' _ _ h; simp [Zxa] at h
 | succ f ih =>
  intro M N R' hr hg h
  unfold Zxa at h
  split at h
  ·rename_i hok
   obtain ⟨g1,g2⟩:=hg.2 (by rw [← hr.ok]; exact hok)
   simp at h
   subst h
   exact ⟨g1.symm,by simp only; rw [g2,hr.at'],fun e=>by rw [g1] at e; simp at e⟩
  ·rename_i hok
   have hgo:=hg.1 (by rw [← hr.ok]; simpa using hok)
   have hw:=hr.way
   cases hm:M.way with
   | nil =>
    rw [hm] at h hw
    have hn:N.way=[]:=by
     cases hx:N.way with
     | nil=>rfl
     | cons y q=>rw [hx] at hw; exact hw.elim
    rw [hn] at hgo
    have:=Zuc hgo
    simp at h
    subst h
    rw [this]
    exact ⟨rfl,hr.at',fun _=>hr.ans⟩
   | cons x r =>
    rw [hm] at h hw
    cases hx:N.way with
    | nil=>rw [hx] at hw; exact hw.elim
    | cons y q =>
     rw [hx] at hw hgo
     obtain ⟨n,k⟩:=x
     obtain ⟨m,j⟩:=y
     obtain ⟨⟨h1,h2,h3⟩,h4⟩:=hw
     simp only at h1 h2 h3
     subst h3
     simp only at h
     cases hgc:goCa cs names l n k M.at' r M.ans with
     | none=>rw [hgc] at h; simp at h
     | some M' =>
      rw [hgc] at h
      simp only at h
      have hrel:=Yfx hcs h1 h2 h4 hgc
      rw [hr.at',hr.ans] at hrel
      exact ih hrel (Zsn hgo) h
def Ydc (p q t:List UInt8):Option (List (List UInt8) × Nat × Nat):=match Zcl ⟨p.toArray⟩,Zdt ⟨q.toArray⟩ with
 | some cs,some a=>if 20000<t.length then none else match Zff t with
  | some pl=>some ([],6,pl)
  | none=>match Zxa cs a.2 t (t.length+2) (Zca a.2 t (topN a) 0 [] []) with
   | none=>none
   | some R=>some (if R.wrong=true then ([],7,R.at') else (R.ans,0,0))
 | _,_=>none
theorem Ydd {p q t:List UInt8} {r:List (List UInt8) × Nat × Nat} (h:Ydc p q t=some r):allN ⟨p.toArray⟩ ⟨q.toArray⟩ ⟨t.toArray⟩=r∧p.length≤800∧q.length≤120∧t.length≤20000:=by
 unfold Ydc at h
 cases hp:Zcl ⟨p.toArray⟩ with
 | none=>rw [hp] at h; simp at h
 | some cs =>
  cases hq:Zdt ⟨q.toArray⟩ with
  | none=>rw [hp,hq] at h; simp at h
  | some a =>
   rw [hp,hq] at h
   simp only at h
   obtain ⟨hps,_,_,hcs,_⟩:=Zcp hp
   obtain ⟨hqs,_,_,hOk,_,_,_,_,_⟩:=Zcm hq
   split at h
   ·simp at h
   ·rename_i hx
    have hx':¬ 20000<(⟨t.toArray⟩:ByteArray).size:=by simpa [ByteArray.size] using hx
    refine ⟨?_,by simpa [ByteArray.size] using hps,by simpa [ByteArray.size] using hqs,by omega⟩
    unfold allN
    rw [hp,hq]
    simp only
    rw [if_neg hx']
    cases hsh:Zff t with
    | some pl=>rw [hsh] at h; simp at h; subst h; rfl
    | none =>
     rw [hsh] at h
     simp only at h ⊢
     cases hr:Zxa cs a.2 t (t.length+2) (Zca a.2 t (topN a) 0 [] []) with
     | none=>rw [hr] at h; simp at h
     | some R =>
      rw [hr] at h
      simp only [Qo] at h
      obtain ⟨g1,g2,g3⟩:=Yfb (fun c hc=>(hcs c hc).1) (Zqr hOk (Same.refl hOk) (way:=[]) (way':=[]) trivial 0 []) (Zql cs a hsh) hr
      subst h
      rw [g1,g2]
      split
      ·rfl
      ·rename_i hw
       rw [g3 (by simpa using hw)]
theorem Yde {p q t:List UInt8} {r:List (List UInt8) × Nat × Nat} (h:Ydc p q t=some r) (w:World) :
  Calls Tryz.prog 11 #[.string ⟨p.toArray⟩,.string ⟨q.toArray⟩,.string ⟨t.toArray⟩] w fun e w'=>Ext w w'∧∃ va vc,e = .returned (.tuple #[.slice va r.1.length vc,.int .i64 r.2.1,.int .i64 r.2.2])∧w'.ownsRow w.heap.size 9 1 (.slice va r.1.length vc) r.1.length (strs r.1):=by
 obtain ⟨h1,h2,h3,h4⟩:=Ydd h
 have:=Ycz ⟨p.toArray⟩ ⟨q.toArray⟩ ⟨t.toArray⟩ w (by simp only [maxLen,ByteArray.size,List.size_toArray]; omega) (by simp only [maxLen,ByteArray.size,List.size_toArray]; omega) (by simp only [maxLen,ByteArray.size,List.size_toArray]; omega)
 unfold Zqk at this
 rw [h1] at this
 exact this
theorem Zuf {w:World} {B e size n:Nat} {v:Value} {xs:List Value} (h:w.ownsRow B e size v n xs):∀ k,Zbj v k→∃ cl fr,w.heap[k]?=some (.cells cl e fr):=fun k hk=>by
 rcases h.2 with ⟨rfl,_⟩ | ⟨g,cap,cur,rfl,_,hg,_⟩
 ·simp [Zbj,Value.ownBlock] at hk
 ·simp [Zbj,Value.ownBlock] at hk
  subst hk
  exact ⟨_,_,hg⟩
def OfTy (S:Nat→Prop) (w:World) (t:TypeId):Prop:=∀ k,S k→∃ cl fr,w.heap[k]?=some (.cells cl t fr)
theorem OfTy.block {S:Nat→Prop} {w w':World} {t t':TypeId} {k:Nat} {cl:Array Value} {fr:Nat × Nat} (hS:OfTy S w t) (hk:Kept S w w') (h:w.heap[k]?=some (.cells cl t' fr)) (ht:t'≠t):w'.heap[k]?=some (.cells cl t' fr) :=
 (hk.block k (Zab h) (fun hs=>by
  obtain ⟨cl',fr',h1⟩:=hS k hs
  rw [h] at h1
  simp at h1
  exact ht h1.2.1)).trans h
theorem OfTy.row {S:Nat→Prop} {w w':World} {t B e size n:Nat} {v:Value} {xs:List Value} (hS:OfTy S w t) (hk:Kept S w w') (h:w.ownsRow B e size v n xs) (ht:e≠t):w'.ownsRow B e size v n xs :=
 Zaj h (fun k hj=>by
  obtain ⟨cl,fr,h1⟩:=Zuf h k hj
  rw [hS.block hk h1 ht,h1])
end Go.Proofs.YtlmjilpjmgjjcabGreatDoor
