/-
  PROVED HERE: what a number that can be read as data is (the conditions stand in each statement).
-/
import Derived.Test.YtlmjilpjmgjjcaaDoorT9
import Derived.BigQuiet
import Derived.Test.YtlmjilpjmgjjcaaDoorRows
import Derived.Test.YtlmjilpjmgjjcaaDoorCards
import Derived.Test.YtlmjilpjmgjjcaaDoorTie
import Derived.ProofKit
import Derived.LaidMore
import Derived.OpenShut
import Derived.Stop.Joined
import Derived.SevenTiedAt
import Derived.Deep.Slices
import Derived.Carry
set_option linter.unusedSimpArgs false
set_option linter.unusedVariables false
set_option maxRecDepth 10000
set_option maxHeartbeats 4000000
namespace Go.Proofs.YtlmjilpjmgjjcaaDoor
open Go.RowKit
noncomputable def sweN (m:SN):Nat:=open Classical in if m.way=[] then 2 else if 3000≤m.tries then 3 else 0
theorem Yhc (w:World) (b:Nat) (x:CX) (cs:List Cls) (a:List (List Sym) × Names) (m:SN) (h:CSr w b x cs a m) :
  Calls Tryd.prog 37 #[.pointer (some ⟨b,0,none⟩)] w fun e w'=>e = .returned (.int .i64 (sweN m))∧w'=w:=by
 have hbx:=h.box
 obtain ⟨ca,cc,na,nc,wa,wc,va,vl,vc,fa,fl,fc⟩:=x
 simp only [CX.cells] at hbx
 obtain ⟨b0,b1,b2,b3,b4,b5,b6,b7,bf⟩:=box8 hbx
 obtain ⟨z,hz⟩:∃ z,z=m.way.length:=⟨_,rfl⟩
 obtain ⟨tr,htr⟩:∃ z,z=m.tries:=⟨_,rfl⟩
 rw [← hz] at b2
 rw [← htr] at b3
 have hbl:=Zab hbx
 by_cases hz0:z=0
 ·have hs:sweN m=2:=by unfold sweN; rw [if_pos (List.eq_nil_of_length_eq_zero (by omega))]
  rw [hs]
  subst hz0
  clear h hbx hz htr hs
  go_enter Tryd.func37,Tryd.ntmps37
  go_wp2
  go_ret
  exact ⟨rfl,rfl⟩
 ·have hw:m.way≠[]:=fun e=>hz0 (by rw [hz,e]; rfl)
  have hz1:((z:Int) == 0)=false:=by rw [Qu]; omega
  by_cases ht:3000≤tr
  ·have hs:sweN m=3:=by unfold sweN; rw [if_neg hw,if_pos (by omega)]
   have ht':(3000:Int)≤(tr:Int):=by omega
   rw [hs]
   clear h hbx hz htr hs hw ht hz0
   go_enter Tryd.func37,Tryd.ntmps37
   go_wp2
   go_ret
   exact ⟨rfl,rfl⟩
  ·have hs:sweN m=0:=by unfold sweN; rw [if_neg hw,if_neg (by omega)]
   have ht':¬ (3000:Int)≤(tr:Int):=by omega
   rw [hs]
   clear h hbx hz htr hs hw ht hz0
   go_enter Tryd.func37,Tryd.ntmps37
   go_wp2
   go_ret
   exact ⟨rfl,rfl⟩
theorem CSr.full {w w':World} {b:Nat} {x:CX} {cs:List Cls} {a:List (List Sym) × Names} {m:SN} (h:CSr w b x cs a m) (hk:Kept (only b) w w') (hb:w'.heap[b]?=some (.cells #[.slice x.ca cs.length x.cc,.slice x.na a.2.length x.nc,.slice none 0 0,.int .i64 m.tries,.int .i64 3,.slice x.va x.vl x.vc,.slice x.fa x.fl x.fc,.string ⟨#[]⟩] 70 (0,0))):CSr w' b { x with wa:=none,wc:=0 } cs a (Zgf m) :=
 h.upd hk hb ⟨rfl,rfl,rfl,rfl⟩ ⟨[],RowL.nil _⟩ (fun h=>by simp [Zgf] at h)
theorem CSr.stat {w w':World} {b:Nat} {x:CX} {cs:List Cls} {a:List (List Sym) × Names} {m:SN} (h:CSr w b x cs a m) (st:Nat) (hst:st≠1) (hk:Kept (only b) w w') (hb:w'.heap[b]?=some (.cells (x.cells cs.length a.2.length m.way.length m.tries st m.tree) 70 (0,0))):CSr w' b x cs a { m with status:=st } :=
 h.upd hk hb ⟨rfl,rfl,rfl,rfl⟩ h.way (fun h=>absurd h hst)
theorem Zym {m:SN} (h:m.status=0):m = { m with status:=0 }:=by
 obtain ⟨p1,p2,p3,p4,p5⟩:=m
 simp only at h
 subst h
 rfl
theorem Ycm {w:World} {b:Nat} {x x':CX} (h:Zgq w x x') {i:Nat} (hi:i<w.heap.size) (ho:ownS b x' i):ownS b x i:=by
 rcases ho with rfl | ho
 ·exact Or.inl rfl
 ·rcases h.1 i ho with h | h
  ·exact Or.inr h
  ·omega
set_option maxRecDepth 20000 in
theorem Yev (w:World) (b:Nat) (x:CX) (cs:List Cls) (a:List (List Sym) × Names) (m:SN) (n:Nat) (h:CSr w b x cs a m) (hI:InvN cs a m) (hcs:∀ c ∈ cs,COk c∧CNm c) (hcf:∀ c ∈ cs,CFew c) (hcl:cs.length≤24) (hn:n≤3000) (hm:m.status≠2∧m.status≠3) :
  Calls Tryd.prog 25 #[.pointer (some ⟨b,0,none⟩),.int .i64 n] w fun e w'=>e = .returned (.tuple #[.int .i64 (Zbb cs n m).2,.int .i64 0])∧∃ x',Kept (ownS b x) w w'∧CSr w' b x' cs a (Zbb cs n m).1∧Zgq w x x':=by
 obtain ⟨st0,hst0⟩:∃ z,z=m.status:=⟨_,rfl⟩
 have hm2:((st0:Int) == 2)=false:=by rw [Qu]; omega
 have hm3:((st0:Int) == 3)=false:=by rw [Qu]; omega
 have hbx:=h.box
 obtain ⟨ca,cc,na,nc,wa,wc,va,vl,vc,fa,fl,fc⟩:=x
 simp only [CX.cells] at hbx
 rw [← hst0] at hbx
 obtain ⟨b0,b1,b2,b3,b4,b5,b6,b7,bf⟩:=box8 hbx
 have hbl:=Zab hbx
 obtain ⟨W0,hW0⟩:∃ W0,W0=((w.setCell ⟨b,4,none⟩ (.int .i64 0)).setCell ⟨b,5,none⟩ (.slice none 0 0)).setCell ⟨b,6,none⟩ (.slice none 0 0):=⟨_,rfl⟩
 have hK0:Kept (only b) w W0:=by rw [hW0]; exact (((Qx _ _).put 4 _).put 5 _).put 6 _
 have hC0:CSr W0 b ⟨ca,cc,na,nc,wa,wc,none,0,0,none,0,0⟩ cs a { m with status:=0 }:=h.upd hK0 (by rw [hW0]; exact Zai (Zai (Zai hbx 4 _) 5 _) 6 _) ⟨rfl,rfl,rfl,rfl⟩ h.way (fun h=>by simp at h)
 have HK0:=Zac (hK0.mono (S':=ownS b ⟨ca,cc,na,nc,wa,wc,va,vl,vc,fa,fl,fc⟩) (fun i _ e=>Or.inl e))
 have HC0:=Zac hC0
 have HI0:=Zac (hI.seek hm.2)
 have HW0:=Zac hW0
 have Hcs:=Zac hcs
 have Hcf:=Zac hcf
 have Hm:=Zac hm
 clear h hI hcs hcf hm hbx hK0 hC0 hW0 hst0
 go_enter Tryd.func25,Tryd.ntmps25
 go_wp2
 rw [← HW0.out]
 go_loopg [6] (n+1) (fun gk mv wr=>∃ (j:Nat) (x':CX) (m':SN),mv = .int .i64 j∧j≤n∧n - j<gk∧Kept (ownS b ⟨ca,cc,na,nc,wa,wc,va,vl,vc,fa,fl,fc⟩) w wr∧CSr wr b x' cs a m'∧Zgq w ⟨ca,cc,na,nc,wa,wc,va,vl,vc,fa,fl,fc⟩ x'∧InvN cs a m'∧Zbz cs n { m with status:=0 }=((Zbz cs (n - j) m').1,(Zbz cs (n - j) m').2+j)∧m'.status≠2)
 case atStart=>exact ⟨0,_,{ m with status:=0 },by go_num,by omega,by omega,HK0.out,HC0.out,⟨fun k hk=>Or.inl hk,rfl,rfl,rfl,rfl⟩,HI0.out,by simp,by simp⟩
 case round =>
  clear b0 b1 b2 b3 b4 b5 b6 b7 bf HK0 HC0 HI0 HW0
  obtain ⟨j,⟨ca1,cc1,na1,nc1,wa1,wc1,va1,vl1,vc1,fa1,fl1,fc1⟩,m',rfl,hjn,hgk,hK,hC,hN,hI,hloop,hst2⟩:=hrel
  obtain ⟨st,hst⟩:∃ z,z=m'.status:=⟨_,rfl⟩
  obtain ⟨tr,htr⟩:∃ z,z=m'.tries:=⟨_,rfl⟩
  obtain ⟨zl,hzl⟩:∃ z,z=m'.way.length:=⟨_,rfl⟩
  have hst3:=hI.st
  have hT:=hI.tries
  have hbx:=hC.box
  simp only [CX.cells] at hbx
  rw [← hst,← htr,← hzl] at hbx
  obtain ⟨b0,b1,b2,b3,b4,b5,b6,b7,bf⟩:=box8 hbx
  have hbl1:=Zab hbx
  have Hm':Hid (st=m'.status∧tr=m'.tries∧zl=m'.way.length):=⟨hst,htr,hzl⟩
  have hstv:st=0∨st=1∨st=3:=by omega
  have hzlb:zl≤100000:=by have:=hI.len; omega
  have HK:=Zac hK
  have HC:=Zac hC
  have HN:=Zac hN
  have HI:=Zac hI
  have Hloop:=Zac hloop
  have Hbx:=Zac hbx
  have Hend:Hid (Zbz cs (n - j) m'=(m',0)→∀ w',(∃ x',Kept (only b) wr w'∧CSr w' b x' cs a (endN m')∧(x'.wa=wa1∨x'.wa=none)∧x'.ca=ca1∧x'.cc=cc1∧x'.na=na1∧x'.nc=nc1)→(Ending.returned (.tuple #[.int .i64 j,.int .i64 0])) = .returned (.tuple #[.int .i64 (Zbb cs n m).2,.int .i64 0])∧∃ x',Kept (ownS b ⟨ca,cc,na,nc,wa,wc,va,vl,vc,fa,fl,fc⟩) w w'∧CSr w' b x' cs a (Zbb cs n m).1∧Zgq w ⟨ca,cc,na,nc,wa,wc,va,vl,vc,fa,fl,fc⟩ x'):=fun hl w' ⟨x',h1,h2,h3,h4,h5,h6,h7⟩=>by
   rw [Yeu (n:=n) (j:=j) Hm.out hloop hl]
   refine ⟨rfl,x',hK.trans (h1.mono (fun i _ e=>Or.inl e)),h2,⟨fun k hk => ?_,h4.trans hN.2.1,h5.trans hN.2.2.1,h6.trans hN.2.2.2.1,h7.trans hN.2.2.2.2⟩⟩
   rcases h3 with h3 | h3
   ·rw [h3] at hk; exact hN.1 k hk
   ·rw [h3] at hk; obtain ⟨p,hp,_⟩:=hk; simp at hp
  clear hK hC hN hI hloop hbx hst htr hzl hst2 hst3 hT
  by_cases hs0:st=0
  ·subst hs0
   have HM0:Hid (m'.status=0):=Hm'.out.1.symm
   have HSw:=Zac (Yhc wr b ⟨ca1,cc1,na1,nc1,wa1,wc1,va1,vl1,vc1,fa1,fl1,fc1⟩ cs a m' HC.out)
   by_cases hlt:j<n
   ·by_cases hz0:zl=0
    ·have HW:Hid (m'.way=[]):=List.eq_nil_of_length_eq_zero (by rw [← Hm'.out.2.2]; exact hz0)
     subst hz0
     have hl0:=Zfk (cs:=cs) (n:=n - j) (s:=m') (Or.inr (Or.inr (Or.inl HW.out)))
     have hsw:sweN m'=2:=by unfold sweN; rw [if_pos HW.out]
     rw [hsw] at HSw
     have hK5:Kept (only b) wr (wr.setCell ⟨b,4,none⟩ (.int .i64 2)):=(Qx _ _).put 4 _
     have Hfin:Hid (_∧_):=Hend.out hl0 _ ⟨⟨ca1,cc1,na1,nc1,wa1,wc1,va1,vl1,vc1,fa1,fl1,fc1⟩,hK5,by
      have e:endN m' = { m' with status:=2 }:=by unfold endN; rw [if_neg (by rw [HM0.out]; decide),if_pos HM0.out,if_pos HW.out]
      rw [e]
      exact HC.out.stat 2 (by decide) hK5 (by rw [← Hm'.out.2.1,← Hm'.out.2.2]; exact Zai Hbx.out 4 _),Or.inl rfl,rfl,rfl,rfl,rfl⟩
     clear hl0 hsw hK5 Hend HC HI HN Hloop Hm'
     go_wp2_with fail
     refine HSw.out.mono ?_
     rintro e w1 ⟨rfl,rfl⟩
     go_wp2
     go_ret2
     exact Hfin.out
    ·have hwn:m'.way≠[]:=fun e=>hz0 (by rw [Hm'.out.2.2,e]; rfl)
     have hzi:(0:Int)<(zl:Int):=by omega
     have hz1:((zl:Int) == 0)=false:=by rw [Qu]; omega
     have Hwn:=Zac hwn
     clear hwn hz0
     by_cases ht3:tr<3000
     ·have hgT:(tr:Int)<3000:=by omega
      have HMk:=Zac (Zuh wr b ⟨ca1,cc1,na1,nc1,wa1,wc1,va1,vl1,vc1,fa1,fl1,fc1⟩ cs a m' HC.out HI.out HM0.out Hwn.out (by rw [← Hm'.out.2.1]; exact ht3) Hcs.out Hcf.out hcl)
      obtain ⟨n',k,r,c,hw1,hw2,hw3⟩:=HI.out.head Hwn.out
      obtain ⟨e1,e2,e3,e4⟩:=Zjm hw1 hw2 HM0.out
      have Hinv:Hid (InvN cs a (Zaq cs m')∧(Zaq cs m').status≠2):=⟨HI.out.try' hcl HM0.out hw1 hw2 (by rw [← Hm'.out.2.1]; exact ht3),by rw [e2]; exact Ycl _ _ _⟩
      have Hlp:Hid (Zbz cs n { m with status:=0 }=((Zbz cs (n - (j+1)) (Zaq cs m')).1,(Zbz cs (n - (j+1)) (Zaq cs m')).2+(j+1))):=by
       have h1:=Hloop.out
       rw [show n - j=(n - (j+1))+1 by omega,Yet HM0.out Hwn.out (by rw [← Hm'.out.2.1]; exact ht3)] at h1
       show _=_
       rw [h1]
       simp; omega
      clear ht3 hw1 hw2 hw3 e1 e2 e3 e4
      go_wp2_with fail
      refine HMk.out.mono ?_
      rintro e w1 ⟨rfl,x1,hK1,hC1,hN1⟩
      have HK1:=Zac hK1
      have HC1:=Zac hC1
      have HN1:=Zac hN1
      clear hK1 hC1 hN1 b0 b1 b2 b3 b4 b5 b6 b7 bf
      go_wp2
      go_roundg (n - j)
      case measure=>omega
      case rel =>
       refine ⟨j+1,x1,Zaq cs m',by go_num,by omega,by omega,HK.out.then HK1.out (fun i hi ho=>Ycm HN.out hi ho),HC1.out,⟨fun i hi => ?_,HN1.out.2.1.trans HN.out.2.1,HN1.out.2.2.1.trans HN.out.2.2.1,HN1.out.2.2.2.1.trans HN.out.2.2.2.1,HN1.out.2.2.2.2.trans HN.out.2.2.2.2⟩,Hinv.out.1,Hlp.out,Hinv.out.2⟩
       rcases HN1.out.1 i hi with h | h
       ·exact HN.out.1 i h
       ·exact Or.inr (Qq HK.out.size h)
     ·have hgT:¬ (tr:Int)<3000:=by omega
      have ht3':3000≤tr:=by omega
      clear ht3
      have hl0:=Zfk (cs:=cs) (n:=n - j) (s:=m') (Or.inr (Or.inr (Or.inr (by rw [← Hm'.out.2.1]; exact ht3'))))
      have hsw:sweN m'=3:=by unfold sweN; rw [if_neg Hwn.out,if_pos (by rw [← Hm'.out.2.1]; exact ht3')]
      rw [hsw] at HSw
      have hK5:Kept (only b) wr (((wr.setCell ⟨b,4,none⟩ (.int .i64 3)).setCell ⟨b,2,none⟩ (.slice none 0 0)).setCell ⟨b,7,none⟩ (.string ⟨#[]⟩)):=(((Qx _ _).put 4 _).put 2 _).put 7 _
      have Hfin:Hid (_∧_):=Hend.out hl0 _ ⟨_,hK5,by
       have e:endN m'=Zgf m':=by unfold endN; rw [if_neg (by rw [HM0.out]; decide),if_pos HM0.out,if_neg Hwn.out,if_pos (by rw [← Hm'.out.2.1]; exact ht3')]
       rw [e]
       exact HC.out.full hK5 (by rw [← Hm'.out.2.1]; exact Zai (Zai (Zai Hbx.out 4 _) 2 _) 7 _),Or.inr rfl,rfl,rfl,rfl,rfl⟩
      clear hl0 hsw hK5 Hend HC HI HN Hloop Hm' ht3'
      go_wp2_with fail
      refine HSw.out.mono ?_
      rintro e w1 ⟨rfl,rfl⟩
      go_wp2
      go_ret2
      exact Hfin.out
   ·by_cases hz0:zl=0
    ·have HW:Hid (m'.way=[]):=List.eq_nil_of_length_eq_zero (by rw [← Hm'.out.2.2]; exact hz0)
     subst hz0
     have hl0:=Zfk (cs:=cs) (n:=n - j) (s:=m') (Or.inl (by omega))
     have hsw:sweN m'=2:=by unfold sweN; rw [if_pos HW.out]
     rw [hsw] at HSw
     have hK5:Kept (only b) wr (wr.setCell ⟨b,4,none⟩ (.int .i64 2)):=(Qx _ _).put 4 _
     have Hfin:Hid (_∧_):=Hend.out hl0 _ ⟨⟨ca1,cc1,na1,nc1,wa1,wc1,va1,vl1,vc1,fa1,fl1,fc1⟩,hK5,by
      have e:endN m' = { m' with status:=2 }:=by unfold endN; rw [if_neg (by rw [HM0.out]; decide),if_pos HM0.out,if_pos HW.out]
      rw [e]
      exact HC.out.stat 2 (by decide) hK5 (by rw [← Hm'.out.2.1,← Hm'.out.2.2]; exact Zai Hbx.out 4 _),Or.inl rfl,rfl,rfl,rfl,rfl⟩
     clear hl0 hsw hK5 Hend HC HI HN Hloop Hm'
     go_wp2_with fail
     refine HSw.out.mono ?_
     rintro e w1 ⟨rfl,rfl⟩
     go_wp2
     go_ret2
     exact Hfin.out
    ·have hwn:m'.way≠[]:=fun e=>hz0 (by rw [Hm'.out.2.2,e]; rfl)
     have Hwn:=Zac hwn
     clear hwn hz0
     by_cases ht3':3000≤tr
     ·have hl0:=Zfk (cs:=cs) (n:=n - j) (s:=m') (Or.inl (by omega))
      have hsw:sweN m'=3:=by unfold sweN; rw [if_neg Hwn.out,if_pos (by rw [← Hm'.out.2.1]; exact ht3')]
      rw [hsw] at HSw
      have hK5:Kept (only b) wr (((wr.setCell ⟨b,4,none⟩ (.int .i64 3)).setCell ⟨b,2,none⟩ (.slice none 0 0)).setCell ⟨b,7,none⟩ (.string ⟨#[]⟩)):=(((Qx _ _).put 4 _).put 2 _).put 7 _
      have Hfin:Hid (_∧_):=Hend.out hl0 _ ⟨_,hK5,by
       have e:endN m'=Zgf m':=by unfold endN; rw [if_neg (by rw [HM0.out]; decide),if_pos HM0.out,if_neg Hwn.out,if_pos (by rw [← Hm'.out.2.1]; exact ht3')]
       rw [e]
       exact HC.out.full hK5 (by rw [← Hm'.out.2.1]; exact Zai (Zai (Zai Hbx.out 4 _) 2 _) 7 _),Or.inr rfl,rfl,rfl,rfl,rfl⟩
      clear hl0 hsw hK5 Hend HC HI HN Hloop Hm' ht3'
      go_wp2_with fail
      refine HSw.out.mono ?_
      rintro e w1 ⟨rfl,rfl⟩
      go_wp2
      go_ret2
      exact Hfin.out
     ·have hl0:=Zfk (cs:=cs) (n:=n - j) (s:=m') (Or.inl (by omega))
      have hsw:sweN m'=0:=by unfold sweN; rw [if_neg Hwn.out,if_neg (by rw [← Hm'.out.2.1]; exact ht3')]
      rw [hsw] at HSw
      have hK5:Kept (only b) wr (wr.setCell ⟨b,4,none⟩ (.int .i64 0)):=(Qx _ _).put 4 _
      have Hfin:Hid (_∧_):=Hend.out hl0 _ ⟨⟨ca1,cc1,na1,nc1,wa1,wc1,va1,vl1,vc1,fa1,fl1,fc1⟩,hK5,by
       have e:endN m' = { m' with status:=0 }:=by
        unfold endN
        rw [if_neg (by rw [HM0.out]; decide),if_pos HM0.out,if_neg Hwn.out,if_neg (by rw [← Hm'.out.2.1]; exact ht3')]
        exact Zym HM0.out
       rw [e]
       exact HC.out.stat 0 (by decide) hK5 (by rw [← Hm'.out.2.1,← Hm'.out.2.2]; exact Zai Hbx.out 4 _),Or.inl rfl,rfl,rfl,rfl,rfl⟩
      clear hl0 hsw hK5 Hend HC HI HN Hloop Hm' ht3'
      go_wp2_with fail
      refine HSw.out.mono ?_
      rintro e w1 ⟨rfl,rfl⟩
      go_wp2
      go_ret2
      exact Hfin.out
  ·have hne':m'.status≠0:=by rw [← Hm'.out.1]; exact hs0
   have hl0:=Zfk (cs:=cs) (n:=n - j) (s:=m') (Or.inr (Or.inl hne'))
   rcases hstv with rfl | rfl | rfl
   ·exact absurd rfl hs0
   ·have Hfin:Hid (_∧_):=Hend.out hl0 wr ⟨⟨ca1,cc1,na1,nc1,wa1,wc1,va1,vl1,vc1,fa1,fl1,fc1⟩,Qx _ _,by
     have e:endN m'=m':=by simp [endN,show m'.status=1 from Hm'.out.1.symm]
     rw [e]; exact HC.out,Or.inl rfl,rfl,rfl,rfl,rfl⟩
    clear hs0 hne' hl0 Hend HC HI HN Hloop Hm'
    by_cases hlt:j<n
    all_goals
     go_wp2
     go_ret2
     exact Hfin.out
   ·have hK5:Kept (only b) wr ((wr.setCell ⟨b,2,none⟩ (.slice none 0 0)).setCell ⟨b,7,none⟩ (.string ⟨#[]⟩)):=((Qx _ _).put 2 _).put 7 _
    have Hfin:Hid (_∧_):=Hend.out hl0 _ ⟨_,hK5,by
     have e:endN m'=Zgf m':=by unfold endN; rw [if_pos Hm'.out.1.symm]
     rw [e]
     exact HC.out.full hK5 (by rw [← Hm'.out.2.1]; exact Zai (Zai Hbx.out 2 _) 7 _),Or.inr rfl,rfl,rfl,rfl,rfl⟩
    clear hs0 hne' hl0 hK5 Hend HC HI HN Hloop Hm'
    by_cases hlt:j<n
    all_goals
     go_wp2
     go_ret2
     exact Hfin.out
theorem Yew (w:World) (ua:Option Addr) (uc:Nat) (ks:List Nat) (h:w.ownsRow 0 3 1 (.slice ua ks.length uc) ks.length (ints ks)) (hl:ks.length≤1000) (hk:∀ k ∈ ks,k<24) :
  Calls Tryd.prog 39 #[.slice ua ks.length uc] w fun e w'=>e = .returned (.string ⟨(Zfq [] ks).toArray⟩)∧w'=w:=by
 obtain ⟨F,hF⟩:∃ F,F=Zfq [] ks:=⟨_,rfl⟩
 rw [← hF]
 have hFl:F.length≤200000:=by
  have:=Zxi ks [] (by simp) (fun k hk'=>by have:=hk k hk'; omega)
  rw [← hF] at this
  omega
 obtain ⟨L,hL⟩:∃ L,L=ks.length:=⟨_,rfl⟩
 rw [← hL] at h hl ⊢
 have HU:=Zac h
 have HF:=Zac hF
 have Hk:=Zac hk
 have HL:=Zac hL
 clear h hF hk hL
 go_enter Tryd.func39,Tryd.ntmps39
 go_wp2
 go_loopg [3,8] (L+1) (fun gk tx i wr=>∃ (j:Nat) (dt:List UInt8),i = .int .i64 j∧j≤L∧L - j<gk∧tx = .string ⟨dt.toArray⟩∧wr=w ∧
  dt++Zfq (if j=0 then [] else [46]) (ks.drop j)=F)
 case atStart=>exact ⟨0,[],by go_num,Qm _,by omega,rfl,rfl,by simp [HF.out]⟩
 case round =>
  obtain ⟨j,dt,rfl,hj,hgk,rfl,rfl,hdt⟩:=hrel
  have hdl:dt.length≤200000:=by
   have h1:=congrArg List.length hdt
   simp only [Qg] at h1
   omega
  have Hdt:=Zac hdt
  clear hdt
  by_cases hlt:j<L
  ·have hlt':j<ks.length:=by rw [← HL.out]; exact hlt
   obtain ⟨u,hu⟩:∃ u,ks[j]?=some u:=⟨_,Qb hlt'⟩
   have hdu:ks.drop j=u::ks.drop (j+1):=by
    rw [List.drop_eq_getElem_cons hlt',(Qa.1 hu).2]
   obtain ⟨ub,ucap',ucur,hue,hBu,hub,hucp⟩:=Zat HU.out (by omega)
   simp only [Value.slice.injEq] at hue
   obtain ⟨rfl,_,rfl⟩:=hue
   have z0:wr.cell? ⟨ub,j,none⟩=some (.int .i64 u):=Zag HU.out j _ (by simp only [ints,Qj,hu,Option.map_some])
   have hu24:=Hk.out u (Qh hu)
   have HD:=Zac (Zol u wr (by omega))
   obtain ⟨X,hX⟩:∃ X,X=Lib.decDigits u:=⟨_,rfl⟩
   rw [← hX] at HD
   have hul1:X.length≤30:=by rw [hX]; have:=Zjv u; omega
   by_cases h0:j=0
   ·have hk0:¬ (0:Int)<(j:Int):=by omega
    have Hd0:Hid ((dt++X)++Zfq [46] (ks.drop (j+1))=F):=by
     have h1:=Hdt.out
     rw [hdu,if_pos h0] at h1
     simp only [Zfq] at h1
     show _=_
     rw [← h1,hX]; simp
    have Hstr:=Zac (Zaw dt X)
    clear h0 hu hdu hub Hdt hX hlt'
    go_wp2_with fail
    refine HD.out.mono ?_
    rintro e w1 ⟨rfl,rfl⟩
    go_wp2
    go_roundg (L - j)
    case measure=>omega
    case rel=>exact ⟨j+1,dt++X,by go_num,by omega,by omega,by rw [← Hstr.out],rfl,by simpa using Hd0.out⟩
   ·have hk0:(0:Int)<(j:Int):=by omega
    have Hd0:Hid ((dt++[46]++X)++Zfq [46] (ks.drop (j+1))=F):=by
     have h1:=Hdt.out
     rw [hdu,if_neg h0] at h1
     simp only [Zfq] at h1
     show _=_
     rw [← h1,hX]; simp
    have Hstr:=Zac (Zaw (dt++[46]) X)
    have Hstr1:=Zac (Zaw dt [46])
    clear h0 hu hdu hub Hdt hX hlt'
    go_wp2_with fail
    refine HD.out.mono ?_
    rintro e w1 ⟨rfl,rfl⟩
    go_wp2
    go_roundg (L - j)
    case measure=>omega
    case rel=>exact ⟨j+1,dt++[46]++X,by go_num,by omega,by omega,by rw [← Hstr.out,← Hstr1.out],rfl,by simpa using Hd0.out⟩
  ·have he:j=L:=by omega
   have Hfin:Hid (dt=F):=by
    have h1:=Hdt.out
    rw [he,HL.out,List.drop_length] at h1
    show _=_
    simpa [Zfq] using h1
   clear Hdt he
   go_wp2
   go_ret
   rw [Hfin.out]
   exact ⟨rfl,rfl⟩
theorem Zmq (w:World) (b:Nat) (x:CX) (cs:List Cls) (a:List (List Sym) × Names) (m:SN) (h:CSr w b x cs a m) :
  Calls Tryd.prog 26 #[.pointer (some ⟨b,0,none⟩)] w fun e w'=>e = .returned (.int .i64 m.status)∧w'=w:=by
 have hbx:=h.box
 obtain ⟨ca,cc,na,nc,wa,wc,va,vl,vc,fa,fl,fc⟩:=x
 simp only [CX.cells] at hbx
 obtain ⟨b0,b1,b2,b3,b4,b5,b6,b7,bf⟩:=box8 hbx
 have hbl:=Zab hbx
 clear h hbx
 go_enter Tryd.func26,Tryd.ntmps26
 go_wp2
 go_ret
 exact ⟨rfl,rfl⟩
theorem Zmr (w:World) (b:Nat) (x:CX) (cs:List Cls) (a:List (List Sym) × Names) (m:SN) (h:CSr w b x cs a m) :
  Calls Tryd.prog 29 #[.pointer (some ⟨b,0,none⟩)] w fun e w'=>e = .returned (.string ⟨(Zdh a m.status m.found m.tree).2.2.toArray⟩)∧w'=w:=by
 have hbx:=h.box
 obtain ⟨ca,cc,na,nc,wa,wc,va,vl,vc,fa,fl,fc⟩:=x
 simp only [CX.cells] at hbx
 obtain ⟨b0,b1,b2,b3,b4,b5,b6,b7,bf⟩:=box8 hbx
 have hbl:=Zab hbx
 obtain ⟨st,hst⟩:∃ z,z=m.status:=⟨_,rfl⟩
 rw [← hst] at b4 ⊢
 clear h hbx hst
 by_cases h2:st=2
 ·subst h2
  have Ht:Hid ((Zdh a 2 m.found m.tree).2.2=m.tree):=by show _=_; simp [Zdh]
  rw [Ht.out]
  go_enter Tryd.func29,Tryd.ntmps29
  go_wp2
  go_ret
  exact ⟨rfl,rfl⟩
 ·have Ht:Hid ((Zdh a st m.found m.tree).2.2=[]):=by
   show _=_
   unfold Zdh
   split
   ·rfl
   ·rfl
  rw [Ht.out]
  have hb:((st:Int) != 2)=true:=by rw [bne_iff_ne]; omega
  clear h2 Ht
  go_enter Tryd.func29,Tryd.ntmps29
  go_wp2
  go_ret
  exact ⟨rfl,rfl⟩
theorem Zku (w:World) (b:Nat) (x:CX) (cs:List Cls) (a:List (List Sym) × Names) (m:SN) (h:CSr w b x cs a m) (hI:InvN cs a m) (hcl:cs.length≤24) :
  Calls Tryd.prog 28 #[.pointer (some ⟨b,0,none⟩)] w fun e w'=>e = .returned (.string ⟨(Zdh a m.status m.found m.tree).2.1.toArray⟩)∧w'=w:=by
 have hbx:=h.box
 obtain ⟨ca,cc,na,nc,wa,wc,va,vl,vc,fa,fl,fc⟩:=x
 simp only [CX.cells] at hbx
 obtain ⟨b0,b1,b2,b3,b4,b5,b6,b7,bf⟩:=box8 hbx
 have hbl:=Zab hbx
 by_cases h1:m.status=1
 ·obtain ⟨⟨n,_,hOk,_,hS⟩,ho⟩:=h.found h1
  have hu:=(hI.found h1).2.2
  have hul:m.found.used.length≤1000:=by rw [← hS.used]; have:=hOk.ul; omega
  obtain ⟨g1,g2,he⟩:=Zad ho
  simp only [Value.slice.injEq] at he
  obtain ⟨rfl,hfl,rfl⟩:=he
  rw [hfl] at ho b6
  have HX:=Zac (Yew w fa fc m.found.used ho hul (fun k hk=>by have:=hu k hk; omega))
  have Ht:Hid ((Zdh a m.status m.found m.tree).2.1=Zfq [] m.found.used):=by show _=_; simp [Zdh,h1,Zla]
  rw [Ht.out]
  rw [h1] at b4
  clear h hI hbx h1 ho hu hul hOk hS Ht
  go_enter Tryd.func28,Tryd.ntmps28
  go_wp2_with fail
  refine HX.out.mono ?_
  rintro e w1 ⟨rfl,rfl⟩
  go_wp2
  go_ret
  exact ⟨rfl,rfl⟩
 ·obtain ⟨st,hst⟩:∃ z,z=m.status:=⟨_,rfl⟩
  rw [← hst] at b4 h1 ⊢
  have Ht:Hid ((Zdh a st m.found m.tree).2.1=[]):=by
   show _=_
   unfold Zdh
   rw [if_neg h1]
   split <;> rfl
  rw [Ht.out]
  have hb:((st:Int) != 1)=true:=by rw [bne_iff_ne]; omega
  clear h hI hbx h1 Ht hst
  go_enter Tryd.func28,Tryd.ntmps28
  go_wp2
  go_ret
  exact ⟨rfl,rfl⟩
def OnePh (W:World) (A:Value):List Value→World→Prop
 | [],y=>y=W
 | [v],y=>v=A∧Ext W y
 | _,_=>False
theorem OnePh.at {W:World} {A:Value} {vs:List Value} {y:World} (h:OnePh W A vs y):vs.length≤0→y=W:=by
 match vs,h with
 | [],h=>exact fun _=>h
 | [v],h=>exact fun h=>by simp at h
theorem Zms (w:World) (b:Nat) (x:CX) (cs:List Cls) (q:ByteArray) (a:List (List Sym) × Names) (m:SN) (h:CSr w b x cs a m) (hI:InvN cs a m) (hask:Zeb q=some a) :
  Calls Tryd.prog 27 #[.pointer (some ⟨b,0,none⟩)] w fun e w'=>e = .returned (.string ⟨(Zdh a m.status m.found m.tree).1.toArray⟩)∧Ext w w':=by
 have hbx:=h.box
 obtain ⟨ca,cc,na,nc,wa,wc,va,vl,vc,fa,fl,fc⟩:=x
 simp only [CX.cells] at hbx
 obtain ⟨b0,b1,b2,b3,b4,b5,b6,b7,bf⟩:=box8 hbx
 have hbl:=Zab hbx
 by_cases h1:m.status=1
 ·obtain ⟨⟨n,hv,hOk,hNm,hS⟩,ho⟩:=h.found h1
  obtain ⟨_,hvl,_⟩:=hI.found h1
  obtain ⟨_,_,_,_,_,_,_,_,ha8⟩:=Zfh hask
  have ha6:=Yci hask
  have hnl:n.vals.length=a.2.length:=by rw [hS.vl,hvl]
  have hnm:=h.names
  simp only at hnm hv
  have hans:Zgv a.2 n=Zgv a.2 m.found:=by unfold Zgv; rw [hS.valsC hOk]
  have HA:Hid (Calls Tryd.prog 38 #[.slice na a.2.length nc,.slice va vl vc] w.drew fun e w'=>Ext w.drew w'∧e = .returned (.string ⟨(Zgv a.2 n).toArray⟩)):=by
   have hE:Ext w w.drew:=⟨rfl,rfl,rfl,Qe _,fun _ _=>rfl⟩
   exact Zmz _ _ _ a.2 n.vals (Zak hnm (fun j hj=>hE.block j (hnm.lt j hj).2)) (hv.ext hE) (Yhb hOk hNm (by omega)) hnl.symm (Zyk hOk hNm (by omega) ha6 ha8)
  have Ht:Hid ((Zdh a m.status m.found m.tree).1=Zgv a.2 m.found):=by show _=_; simp [Zdh,h1]
  rw [Ht.out,← hans]
  obtain ⟨Y,hY⟩:∃ Y,Y=Zgv a.2 n:=⟨_,rfl⟩
  rw [← hY] at HA ⊢
  rw [h1] at b4
  clear h hI hbx h1 ho hOk hNm hS hv hvl ha8 ha6 hnl hnm hans Ht hY hask
  go_enter Tryd.func27,Tryd.ntmps27
  go_wp2_with fail
  refine Zgp (by kernel_rfl) [.rd 0 1 (fun _ => .pointer (some ⟨b,0,none⟩)),.rd 0 1 (fun _ => .pointer (some ⟨b,0,none⟩)),.rd 0 1 (fun _ => .pointer (some ⟨b,1,none⟩)),.rd 0 0 (fun _ => .slice na a.2.length nc),.rd 0 1 (fun _ => .pointer (some ⟨b,0,none⟩)),.rd 0 1 (fun _ => .pointer (some ⟨b,0,none⟩)),.rd 0 1 (fun _ => .pointer (some ⟨b,5,none⟩)),.rd 0 0 (fun _ => .slice va vl vc),.st 0,.rd 1 1 (fun _ => .string ⟨Y.toArray⟩)] 1 7 (by kernel_rfl) (OnePh w.drew (.string ⟨Y.toArray⟩)) rfl ?_ ?_
  ·refine ⟨⟨trivial,fun vs y _ hl hS => ?_⟩,⟨trivial,fun vs y _ hl hS => ?_⟩,⟨trivial,fun vs y _ hl hS => ?_⟩,⟨trivial,fun vs y _ hl hS => ?_⟩,⟨trivial,fun vs y _ hl hS => ?_⟩,⟨trivial,fun vs y _ hl hS => ?_⟩,⟨trivial,fun vs y _ hl hS => ?_⟩,⟨trivial,fun vs y _ hl hS => ?_⟩,⟨trivial,fun vs y hl hS => ?_⟩,⟨trivial,fun vs y hl0 hl hS => ?_⟩,trivial⟩
   ·simp [phAll,phA,pa,Ph.kd,Ph.val,Kd.val,go_sem]
   ·simp [phAll,phA,pa,Ph.kd,Ph.val,Kd.val,go_sem]
   ·simp [phAll,phA,pa,Ph.kd,Ph.val,Kd.val,go_sem]
   ·obtain rfl:=hS.at hl
    simp [phAll,phA,pa,Ph.kd,Ph.val,Kd.val,go_sem,b1]
   ·simp [phAll,phA,pa,Ph.kd,Ph.val,Kd.val,go_sem]
   ·simp [phAll,phA,pa,Ph.kd,Ph.val,Kd.val,go_sem]
   ·simp [phAll,phA,pa,Ph.kd,Ph.val,Kd.val,go_sem]
   ·obtain rfl:=hS.at hl
    simp [phAll,phA,pa,Ph.kd,Ph.val,Kd.val,go_sem,b5]
   ·obtain rfl:=List.length_eq_zero_iff.1 hl
    obtain rfl:y=w.drew:=hS
    refine .call 38 #[.slice na a.2.length nc,.slice va vl vc] _ (by simp [phAll,phA,pa,Ph.kd,Ph.val,Kd.val,go_sem]) (HA.out.mono ?_)
    rintro e u ⟨hE,rfl⟩
    exact ⟨_,rfl,rfl,hE⟩
   ·obtain ⟨v,rfl⟩:=List.length_eq_one_iff.1 (show vs.length=1 by omega)
    obtain ⟨rfl,_⟩:=hS
    simp [phAll,phA,pa,Ph.kd,Ph.val,Kd.val,go_sem]
  rintro vs y hl hS
  obtain ⟨v,rfl⟩:=List.length_eq_one_iff.1 hl
  obtain ⟨hv,hy⟩:=hS
  have Hy:=Zac hy
  simp only [phAll,phA,paAll,pa,Ph.kd,Ph.val,Kd.val,List.map_cons,List.map_nil,if_true,Act.put,List.setIfInBounds_toArray,List.set_cons_succ,List.set_cons_zero]
  clear hv hy b0 b1 b2 b3 b4 b5 b6 b7 bf
  go_wp2
  go_ret
  exact ⟨rfl,Hy.out.undrew⟩
 ·obtain ⟨st,hst⟩:∃ z,z=m.status:=⟨_,rfl⟩
  rw [← hst] at b4 h1 ⊢
  have Ht:Hid ((Zdh a st m.found m.tree).1=[]):=by
   show _=_
   unfold Zdh
   rw [if_neg h1]
   split <;> rfl
  rw [Ht.out]
  have hb:((st:Int) != 1)=true:=by rw [bne_iff_ne]; omega
  clear h hI hbx h1 Ht hst
  go_enter Tryd.func27,Tryd.ntmps27
  go_wp2
  go_ret
  exact ⟨rfl,Ext.of (Qx _ _)⟩
theorem Zsj {S:Nat→Prop} {w w':World} (h:Ext w w'):Kept S w w':=⟨h.os,h.tape,h.output,h.size,fun k hk _=>h.block k hk⟩
theorem OfTy.terms {S:Nat→Prop} {w w':World} {v:Value} {ls:List (List Sym)} (hS:OfTy S w 9) (hk:Kept S w w') (h:TermsIn w v ls):TermsIn w' v ls:=by
 obtain ⟨vs,h⟩:=h
 exact ⟨vs,hS.row hk h.owns (by decide),fun i l hl=>by
  obtain ⟨x,h1,h2⟩:=h.all i l hl
  exact ⟨x,h1,hS.row hk h2 (by decide)⟩⟩
theorem OfTy.rowL {S:Nat→Prop} {w w':World} {v:Value} {ds:List (ND × Nat)} {xs:List Value} (hS:OfTy S w 9) (hk:Kept S w w') (h:RowL w v ds xs):RowL w' v ds xs :=
 ⟨hS.row hk h.owns (by decide),fun i d hd=>by
  obtain ⟨x0,x1,x2,x3,y0,y1,y2,y3,y4,n,h1,h2⟩:=h.all i d hd
  exact ⟨x0,x1,x2,x3,y0,y1,y2,y3,y4,n,⟨hS.terms hk h1.goals,hS.terms hk h1.vals,hS.terms hk h1.done⟩,h2⟩⟩
theorem CSr.texts {w0 w w':World} {b:Nat} {x0 x:CX} {cs:List Cls} {a:List (List Sym) × Names} {m0 m:SN} {S:Nat→Prop} (h0:CSr w0 b x0 cs a m0) (hK0:Kept (ownS b x0) w0 w) (h:CSr w b x cs a m) (hN:Zgq w0 x0 x) (hk:Kept S w w') (hS:OfTy S w 9) (hge:∀ k,S k→w0.heap.size≤k):CSr w' b x cs a m:=by
 have hK:Kept (ownS b x0) w0 w':=hK0.then hk (fun i hi hs=>absurd (hge i hs) (by omega))
 obtain ⟨xs,h1⟩:=h0.prog
 obtain ⟨ys,h2⟩:=h.way
 obtain ⟨_,e1,e2,e3,e4⟩:=hN
 refine ⟨hS.block hk h.box (by decide),⟨xs,by rw [e1,e2]; exact h0.offS.prog hK h1⟩,by rw [e3,e4]; exact h0.offS.own (by simp [Zcm]) hK h0.names,⟨ys,hS.rowL hk h2⟩,fun hs => ?_⟩
 obtain ⟨⟨n,g1,g2⟩,g3⟩:=h.found hs
 exact ⟨⟨n,hS.terms hk g1,g2⟩,hS.row hk g3 (by decide)⟩
theorem CSr.not {w:World} {b k:Nat} {x:CX} {cs:List Cls} {a:List (List Sym) × Names} {m:SN} {cl:Array Value} {t:TypeId} {fr:Nat × Nat} (h:CSr w b x cs a m) (hb:w.heap[k]?=some (.cells cl t fr)) (h1:t≠70) (h2:t≠89):¬ ownS b x k:=by
 rintro (rfl | hk)
 ·have:=h.box
  rw [hb] at this
  simp at this
  exact h1 this.2.1
 ·obtain ⟨ys,h3⟩:=h.way
  obtain ⟨cl',fr',h4⟩:=Zvf h3.owns k (Zkh.2 hk)
  rw [hb] at h4
  simp at h4
  exact h2 h4.2.1
structure AftAt (w0 w:World) (b bt:Nat) (x0 x:CX) (cs:List Cls) (a:List (List Sym) × Names) (m:SN) (c0 c1:Value) (tr st:Nat) (av:Value) (A:List (List UInt8)) (wv:Value) (W:List (List UInt8)):Prop where
 kept:Kept (ownS b x0) w0 w
 sr0:∃ m0,CSr w0 b x0 cs a m0
 sr:CSr w b x cs a m
 new:Zgq w0 x0 x
 inv:InvN cs a m
 fw:Zfa m
 bt0:w0.heap.size≤bt
 box:w.heap[bt]?=some (.cells #[c0,c1,.int .i64 tr,.int .i64 st,.string ⟨#[]⟩] 41 (0,0))
 ans:w.ownsRow w0.heap.size 9 1 av A.length (strs A)
 wts:w.ownsRow w0.heap.size 9 1 wv W.length (strs W)
 ap:∀ k,Zbt av k→¬ Zbt wv k
theorem AftAt.ext {w0 w w':World} {b bt:Nat} {x0 x:CX} {cs:List Cls} {a:List (List Sym) × Names} {m:SN} {c0 c1:Value} {tr st:Nat} {av:Value} {A:List (List UInt8)} {wv:Value} {W:List (List UInt8)} (h:AftAt w0 w b bt x0 x cs a m c0 c1 tr st av A wv W) (e:Ext w w'):AftAt w0 w' b bt x0 x cs a m c0 c1 tr st av A wv W :=
 ⟨h.kept.trans (Zsj e),h.sr0,h.sr.ext e,h.new,h.inv,h.fw,h.bt0,(e.block _ (Zab h.box)).trans h.box,Zak h.ans (fun k hk=>e.block k (h.ans.lt k hk).2),Zak h.wts (fun k hk=>e.block k (h.wts.lt k hk).2),h.ap⟩
theorem AftAt.step {w0 w w':World} {b bt:Nat} {x0 x x':CX} {cs:List Cls} {a:List (List Sym) × Names} {m:SN} {c0 c1:Value} {tr st n:Nat} {av:Value} {A:List (List UInt8)} {wv:Value} {W:List (List UInt8)} (h:AftAt w0 w b bt x0 x cs a m c0 c1 tr st av A wv W) (hcl:cs.length≤24) (hK:Kept (ownS b x) w w') (hC:CSr w' b x' cs a (Zbb cs n m).1) (hN:Zgq w x x'):AftAt w0 w' b bt x0 x' cs a (Zbb cs n m).1 c0 c1 tr st av A wv W:=by
 refine ⟨h.kept.then hK (fun i hi ho=>Ycm h.new hi ho),h.sr0,hC,⟨fun k hk => ?_,hN.2.1.trans h.new.2.1,hN.2.2.1.trans h.new.2.2.1,hN.2.2.2.1.trans h.new.2.2.2.1,hN.2.2.2.2.trans h.new.2.2.2.2⟩,h.inv.step hcl,Zto h.fw,h.bt0,?_,h.sr.offS.own (by simp [Zcm]) hK h.ans,h.sr.offS.own (by simp [Zcm]) hK h.wts,h.ap⟩
 ·rcases hN.1 k hk with h1 | h1
  ·exact h.new.1 k h1
  ·exact Or.inr (by have:=h.kept.size; omega)
 ·exact (hK.block bt (Zab h.box) (h.sr.not h.box (by decide) (by decide))).trans h.box
theorem AftAt.put {w0 w w':World} {b bt:Nat} {x0 x:CX} {cs:List Cls} {a:List (List Sym) × Names} {m:SN} {c0 c1 c0' c1':Value} {tr st tr' st':Nat} {av:Value} {A:List (List UInt8)} {wv:Value} {W:List (List UInt8)} (h:AftAt w0 w b bt x0 x cs a m c0 c1 tr st av A wv W) (hK:Kept (only bt) w w')
  (hb:w'.heap[bt]?=some (.cells #[c0',c1',.int .i64 tr',.int .i64 st',.string ⟨#[]⟩] 41 (0,0))):AftAt w0 w' b bt x0 x cs a m c0' c1' tr' st' av A wv W:=by
 have hS:OfTy (only bt) w 41:=fun k e=>by
  have e:k=bt:=e
  subst e
  exact ⟨_,_,h.box⟩
 have hO:OffCode (only bt) w:=fun k e=>by
  obtain ⟨cl,fr,h1⟩:=hS k e
  exact ⟨_,_,_,h1,by simp [Zcm]⟩
 refine ⟨h.kept.then hK (fun i hi e => ?_),h.sr0,h.sr.keep hK hO (fun k hk e => ?_),h.new,h.inv,h.fw,h.bt0,hb,hS.row hK h.ans (by decide),hS.row hK h.wts (by decide),h.ap⟩
 ·have e:i=bt:=e
  have:=h.bt0
  omega
 ·have e:k=bt:=e
  subst e
  exact h.sr.not h.box (by decide) (by decide) hk
theorem AftAt.app1 {w0 w w':World} {b bt:Nat} {x0 x:CX} {cs:List Cls} {a:List (List Sym) × Names} {m:SN} {c0 c1:Value} {tr st:Nat} {av av':Value} {A:List (List UInt8)} {X:List UInt8} {wv:Value} {W:List (List UInt8)} (h:AftAt w0 w b bt x0 x cs a m c0 c1 tr st av A wv W) (hA:Appended w w0.heap.size 9 1 av (A.length+1) (strs A++[.string ⟨X.toArray⟩]) av' w') :
  AftAt w0 w' b bt x0 x cs a m c0 c1 tr st av' (A++[X]) wv W:=by
 have hS:OfTy (Zbt av) w 9:=Zvf h.ans
 have hge:∀ k,Zbt av k→w0.heap.size≤k:=fun k hk=>(h.ans.lt k hk).1
 obtain ⟨m0,h0⟩:=h.sr0
 refine ⟨h.kept.then hA.kept (fun i hi e=>absurd (hge i e) (by omega)),h.sr0,h0.texts h.kept h.sr h.new hA.kept hS hge,h.new,h.inv,h.fw,h.bt0,hS.block hA.kept h.box (by decide),?_,?_,fun k hk hk2 => ?_⟩
 ·have:=hA.owns
  simpa [strs] using this
 ·exact Zak h.wts (fun k hk=>hA.kept.block k (h.wts.lt k hk).2 (fun e=>h.ap k e hk))
 ·rcases hA.where_ with e | ⟨g,e,hg⟩
  ·exact h.ap k (by unfold Zbt at hk ⊢; rw [← e]; exact hk) hk2
  ·unfold Zbt at hk
   rw [e] at hk
   simp at hk
   have:=(h.wts.lt k hk2).2
   omega
theorem AftAt.app2 {w0 w w':World} {b bt:Nat} {x0 x:CX} {cs:List Cls} {a:List (List Sym) × Names} {m:SN} {c0 c1:Value} {tr st:Nat} {av wv':Value} {A:List (List UInt8)} {X:List UInt8} {wv:Value} {W:List (List UInt8)} (h:AftAt w0 w b bt x0 x cs a m c0 c1 tr st av A wv W) (hA:Appended w w0.heap.size 9 1 wv (W.length+1) (strs W++[.string ⟨X.toArray⟩]) wv' w') :
  AftAt w0 w' b bt x0 x cs a m c0 c1 tr st av A wv' (W++[X]):=by
 have hS:OfTy (Zbt wv) w 9:=Zvf h.wts
 have hge:∀ k,Zbt wv k→w0.heap.size≤k:=fun k hk=>(h.wts.lt k hk).1
 obtain ⟨m0,h0⟩:=h.sr0
 refine ⟨h.kept.then hA.kept (fun i hi e=>absurd (hge i e) (by omega)),h.sr0,h0.texts h.kept h.sr h.new hA.kept hS hge,h.new,h.inv,h.fw,h.bt0,hS.block hA.kept h.box (by decide),?_,?_,fun k hk hk2 => ?_⟩
 ·exact Zak h.ans (fun k hk=>hA.kept.block k (h.ans.lt k hk).2 (fun e=>h.ap k hk e))
 ·have:=hA.owns
  simpa [strs] using this
 ·rcases hA.where_ with e | ⟨g,e,hg⟩
  ·exact h.ap k hk (by unfold Zbt at hk2 ⊢; rw [← e]; exact hk2)
  ·unfold Zbt at hk2
   rw [e] at hk2
   simp at hk2
   have:=(h.ans.lt k hk).2
   omega
def Zmt (w:World) (b:Nat) (x:CX) (cs:List Cls) (a:List (List Sym) × Names) (R:SN × Tr) (e:Ending) (w':World):Prop :=
 Kept (ownS b x) w w'∧(∃ x',CSr w' b x' cs a R.1∧Zgq w x x')∧InvN cs a R.1∧∃ aa ac wa wc,e = .returned (.tuple #[.agg #[.slice aa R.2.ans.length ac,.slice wa R.2.wts.length wc,.int .i64 R.2.tries,.int .i64 R.2.status,.string ⟨(Zdh a R.1.status R.1.found R.1.tree).2.2.toArray⟩],.bool true]) ∧
  w'.ownsRow w.heap.size 9 1 (.slice aa R.2.ans.length ac) R.2.ans.length (strs R.2.ans)∧w'.ownsRow w.heap.size 9 1 (.slice wa R.2.wts.length wc) R.2.wts.length (strs R.2.wts)
theorem AftAt.fin {w V wr Z:World} {b bt br:Nat} {x x1:CX} {cs:List Cls} {a:List (List Sym) × Names} {m:SN} {c0 c1:Value} {tr st:Nat} {av:Value} {A:List (List UInt8)} {wv:Value} {W:List (List UInt8)} {cl:Array Value} (h:AftAt V wr b bt x x1 cs a m c0 c1 tr st av A wv W) (hbr:wr.heap[br]?=some (.cells cl 41 (0,0))) (hw:w.heap.size≤br) (hEV:Ext w V) (hZ:Kept (fun k=>k=bt∨k=br) wr Z) :
  Kept (ownS b x) w Z∧(∃ x',CSr Z b x' cs a m∧Zgq w x x')∧InvN cs a m∧Z.ownsRow w.heap.size 9 1 av A.length (strs A)∧Z.ownsRow w.heap.size 9 1 wv W.length (strs W):=by
 have hs:=hEV.size
 have hS:OfTy (fun k=>k=bt∨k=br) wr 41:=fun k e=>by
  rcases e with rfl | rfl
  ·exact ⟨_,_,h.box⟩
  ·exact ⟨_,_,hbr⟩
 have hO:OffCode (fun k=>k=bt∨k=br) wr:=fun k e=>by
  obtain ⟨cl,fr,h1⟩:=hS k e
  exact ⟨_,_,_,h1,by simp [Zcm]⟩
 refine ⟨((Zsj hEV).trans (h.kept)).then hZ (fun i hi e => ?_),⟨x1,h.sr.keep hZ hO (fun k hk e => ?_),fun k hk => ?_,h.new.2⟩,h.inv,Zbd (hS.row hZ h.ans (by decide)) hs,Zbd (hS.row hZ h.wts (by decide)) hs⟩
 ·have:=h.bt0
  omega
 ·obtain ⟨cl,fr,h1⟩:=hS k e
  exact h.sr.not h1 (by decide) (by decide) hk
 ·rcases h.new.1 k hk with h1 | h1
  ·exact Or.inl h1
  ·exact Or.inr (by omega)
theorem Zsk (w:World) (b:Nat) (x:CX) (cs:List Cls) (q:ByteArray) (a:List (List Sym) × Names) (m:SN) (tries size:Nat) (h:CSr w b x cs a m) (hI:InvN cs a m) (hF:Zfa m) (hm:m.status=0) (hcs:∀ c ∈ cs,COk c∧CNm c) (hcf:∀ c ∈ cs,CFew c) (hcl:cs.length≤24) (hask:Zeb q=some a) (ht:tries≤3001) (hs:0<size) (hs2:size≤3000) :
  Calls Tryd.prog 12 #[.pointer (some ⟨b,0,none⟩),.int .i64 tries,.int .i64 size] w (Zmt w b x cs a (aftN cs a tries size (tries+1) m ⟨[],[],0,0⟩)):=by
 have hbl:=Zab h.box
 obtain ⟨V,hV⟩:∃ V,V=w.alloc (.cells #[.slice none 0 0,.slice none 0 0,.int .i64 0,.int .i64 0,.string ⟨#[]⟩] 41):=⟨_,rfl⟩
 have hEV:Ext w V:=by rw [hV]; exact (Ext.of (by repeat' (first | with_reducible(first|exact Qx _ _|apply Kept.drew|apply Kept.drewN|apply Qz|refine Qy ?_ ?_ _)|exact fun h=>absurd h (by simp <;> omega))))
 have hVs:V.heap.size=w.heap.size+1:=by rw [hV]; simp
 have hbr:V.heap[w.heap.size]?=some (.cells #[.slice none 0 0,.slice none 0 0,.int .i64 0,.int .i64 0,.string ⟨#[]⟩] 41 (0,0)):=by rw [hV]; exact heap_alloc_new w _
 have hCV:=h.ext hEV
 have H0:Hid (AftAt V (V.alloc (.cells #[.slice none 0 0,.slice none 0 0,.int .i64 0,.int .i64 0,.string ⟨#[]⟩] 41)) b (w.heap.size+1) x x cs a m (.slice none 0 0) (.slice none 0 0) 0 0 (.slice none 0 0) [] (.slice none 0 0) []) :=
  ⟨(Qx _ _).alloc _,⟨m,hCV⟩,hCV.ext (Ext.of (by repeat' (first | with_reducible(first|exact Qx _ _|apply Kept.drew|apply Kept.drewN|apply Qz|refine Qy ?_ ?_ _)|exact fun h=>absurd h (by simp <;> omega)))),⟨fun k hk=>Or.inl hk,rfl,rfl,rfl,rfl⟩,hI,hF,by omega,by rw [← hVs]; exact heap_alloc_new V _,World.ownsRow_nil _ _ _ _,World.ownsRow_nil _ _ _ _,fun k hk=>by simp [Zbt,Value.ownBlock] at hk⟩
 have Hbr:Hid (∀ u,Kept (ownS b x) V u→u.heap[w.heap.size]?=some (.cells #[.slice none 0 0,.slice none 0 0,.int .i64 0,.int .i64 0,.string ⟨#[]⟩] 41 (0,0))):=fun u hu=>(hu.block _ (Zab hbr) (hCV.not hbr (by decide) (by decide))).trans hbr
 have HV:=Zac hV
 have HEV:=Zac hEV
 have Hcs:=Zac hcs
 have Hcf:=Zac hcf
 have Hask:=Zac hask
 obtain ⟨R,hR⟩:∃ R,R=aftN cs a tries size (tries+1) m ⟨[],[],0,0⟩:=⟨_,rfl⟩
 have HR:=Zac hR
 rw [← hR]
 clear h hI hF hcs hcf hask hR hV hEV hbr hCV hVs
 go_enter Tryd.func12,Tryd.ntmps12
 go_wp2
 go_loopg [] (tries+1) (fun gk wr=>∃ (m':SN) (x':CX) (t:Tr) (aa:Option Addr) (ac:Nat) (wa:Option Addr) (wc:Nat),t.tries≤tries∧tries - t.tries<gk∧(m'.status=0∨m'.status=1)∧t.status=m'.status∧t.ans.length≤t.tries∧t.wts.length≤t.tries∧R=aftN cs a tries size gk m' t∧AftAt V wr b (w.heap.size+1) x x' cs a m' (.slice aa t.ans.length ac) (.slice wa t.wts.length wc) t.tries t.status (.slice aa t.ans.length ac) t.ans (.slice wa t.wts.length wc) t.wts)
 case atStart=>exact ⟨m,x,⟨[],[],0,0⟩,none,0,none,0,Qm _,by simp,Or.inl hm,hm.symm,by simp,by simp,HR.out,by rw [← HV.out]; exact H0.out⟩
 case round =>
  obtain ⟨m1,x1,⟨A,W,T,st⟩,aa,ac,wa,wc,hT,hgk,hst,hst2,hAl,hWl,hRe,hA⟩:=hrel
  simp only at hT hgk hst hst2 hAl hWl hA
  have c2:wr.cell? ⟨w.heap.size+1,2,none⟩=some (.int .i64 T):=Zaa hA.box 2 _ rfl
  have hbt:=Zab hA.box
  have HA:=Zac hA
  have HRe:=Zac hRe
  have Hst:=Zac hst2
  have hst1:st=0∨st=1:=by omega
  clear hA hRe H0 hst hst2
  by_cases hlt:T<tries
  ·have tf:=fun i=>Zae HA.out.box i
   obtain ⟨N,hN⟩:∃ N,N=Zdk size (tries - T):=⟨_,rfl⟩
   have hN0:0<N∧N≤3000∧N≤tries - T:=by rw [hN]; unfold Zdk; split <;> omega
   have hI2:(T:Int)<(tries:Int):=by omega
   obtain ⟨M,d,hr⟩:∃ M d,Zbb cs N m1=(M,d):=⟨_,_,rfl⟩
   have HS:=Zac (Yev wr b x1 cs a m1 N HA.out.sr HA.out.inv Hcs.out Hcf.out hcl hN0.2.1 (by rw [← Hst.out]; omega))
   have HA1:=Zac (fun (w1:World) (x2:CX) (hK:Kept (ownS b x1) wr w1) (hC:CSr w1 b x2 cs a (Zbb cs N m1).1) (hN:Zgq wr x1 x2)=>HA.out.step hcl hK hC hN)
   have hdN:d≤N:=by have:=Zpk (cs:=cs) (n:=N) (s:=m1); rw [hr] at this; exact this
   have hless:d<N→M.status≠0:=fun h=>by have:=Zxl (cs:=cs) (n:=N) (s:=m1); rw [hr] at this; exact this h
   have hsome:M.status=0∨M.status=1→d≠0:=fun h=>by have:=Zkc (cs:=cs) (n:=N) (s:=m1) hN0.1 (by rw [← Hst.out]; omega); rw [hr] at this; exact this h
   rw [hr] at HS HA1
   simp only at HS HA1
   have Hrec:Hid (R=if M.status=2∨M.status=3 then (M,addN a ⟨A,W,T,st⟩ (M,d)) else aftN cs a tries size (gk - 1) M (addN a ⟨A,W,T,st⟩ (M,d))):=by
    show _=_
    rw [HRe.out]
    obtain ⟨f,rfl⟩:∃ f,gk=f+1:=⟨gk - 1,by omega⟩
    simp only [aftN]
    rw [if_pos hlt,← hN,hr]
    rfl
   rcases Nat.lt_or_ge (tries - T) size with hsz | hsz
   ·have hI1:(tries:Int) - (T:Int)<(size:Int):=by omega
    have hNt:(tries:Int) - (T:Int)=(N:Int):=by rw [hN]; unfold Zdk; rw [if_pos hsz]; omega
    clear hN
    go_wp2_with fail
    refine HS.out.mono ?_
    rintro e w1 ⟨rfl,x2,hK,hC,hNw⟩
    have HB:=Zac (HA1.out w1 x2 hK hC hNw)
    clear hK hC hNw HS HA1
    have b2:w1.cell? ⟨w.heap.size+1,2,none⟩=some (.int .i64 T):=Zaa HB.out.box 2 _ rfl
    have b3:w1.cell? ⟨w.heap.size+1,3,none⟩=some (.int .i64 st):=Zaa HB.out.box 3 _ rfl
    have bf:=fun i=>Zae HB.out.box i
    have bl:=Zab HB.out.box
    have g1:¬ (d:Int)<0:=by omega
    have g2:¬ (N:Int)<(d:Int):=by omega
    clear c2 tf
    obtain ⟨TD,hTD,hTD2⟩:∃ TD:Nat,(T:Int)+(d:Int)=(TD:Int)∧TD=T+d:=⟨T+d,by omega,rfl⟩
    have HTD2:=Zac hTD2
    have hTDb:TD≤6001:=by omega
    clear hTD2
    obtain ⟨sM,hsM⟩:∃ z,z=M.status:=⟨_,rfl⟩
    have hsM3:sM≤3:=by rw [hsM]; exact HB.out.inv.st
    rw [← hsM] at hless hsome
    have HsM:=Zac hsM
    have HB2:Hid (AftAt V (w1.setCell ⟨w.heap.size+1,2,none⟩ (.int .i64 TD)) b (w.heap.size+1) x x2 cs a M (.slice aa A.length ac) (.slice wa W.length wc) TD st (.slice aa A.length ac) A (.slice wa W.length wc) W):=HB.out.put ((Qx _ _).put 2 _) (Zai HB.out.box 2 _)
    have HSt:=Zac (Zmq _ b x2 cs a M HB2.out.sr)
    rw [← hsM] at HSt
    have HB3:Hid (AftAt V ((w1.setCell ⟨w.heap.size+1,2,none⟩ (.int .i64 TD)).setCell ⟨w.heap.size+1,3,none⟩ (.int .i64 sM)) b (w.heap.size+1) x x2 cs a M (.slice aa A.length ac) (.slice wa W.length wc) TD sM (.slice aa A.length ac) A (.slice wa W.length wc) W):=HB2.out.put ((Qx _ _).put 3 _) (Zai HB2.out.box 3 _)
    have HAn:=Zac (Zms _ b x2 cs q a M HB3.out.sr HB3.out.inv Hask.out)
    obtain ⟨hX,hY,hZ⟩:=Zkd HB3.out.inv HB3.out.fw
    rw [← hsM] at hX hY hZ
    rw [← hsM] at HAn
    obtain ⟨X,hXe⟩:∃ X,X=(Zdh a sM M.found M.tree).1:=⟨_,rfl⟩
    obtain ⟨Y,hYe⟩:∃ Y,Y=(Zdh a sM M.found M.tree).2.1:=⟨_,rfl⟩
    rw [← hXe] at HAn hX
    rw [← hYe] at hY
    have HXY:Hid (X=(Zdh a sM M.found M.tree).1∧Y=(Zdh a sM M.found M.tree).2.1):=⟨hXe,hYe⟩
    clear hXe hYe hsM hN0
    go_wp2_with fail
    refine HSt.out.mono ?_
    rintro e w2 ⟨rfl,rfl⟩
    go_wp2_with fail
    refine HAn.out.mono ?_
    rintro e w4 ⟨rfl,hE4⟩
    have HB4:=Zac (HB3.out.ext hE4)
    have HWa:=Zac (Zku w4 b x2 cs a M HB4.out.sr HB4.out.inv hcl)
    rw [← HsM.out,← HXY.out.2] at HWa
    obtain ⟨d0,d1,d2,d3,d4⟩:w4.cell? ⟨w.heap.size+1,0,none⟩=some (.slice aa A.length ac)∧w4.cell? ⟨w.heap.size+1,1,none⟩=some (.slice wa W.length wc)∧w4.cell? ⟨w.heap.size+1,2,none⟩=some (.int .i64 TD)∧w4.cell? ⟨w.heap.size+1,3,none⟩=some (.int .i64 sM)∧w4.cell? ⟨w.heap.size+1,4,none⟩=some (.string ⟨#[]⟩):=⟨Zaa HB4.out.box 0 _ rfl,Zaa HB4.out.box 1 _ rfl,Zaa HB4.out.box 2 _ rfl,Zaa HB4.out.box 3 _ rfl,Zaa HB4.out.box 4 _ rfl⟩
    have df:=fun i=>Zae HB4.out.box i
    have dl:=Zab HB4.out.box
    clear hE4 HB HB2 HB3 HAn HSt b2 b3 bf bl g1 g2
    go_wp2_with fail
    refine HWa.out.mono ?_
    rintro e w5 ⟨rfl,h5⟩
    obtain rfl:w4=w5:=h5.symm
    by_cases h1:sM=1
    ·subst h1
     have hXn:X≠[]:=fun e=>by have:=hX.1 e; omega
     have hYn:Y≠[]:=fun e=>by have:=hY.1 e; omega
     have hXi:X.isEmpty=false:=by simpa using hXn
     have hYi:Y.isEmpty=false:=by simpa using hYn
     have hd0:d≠0:=hsome (Or.inr rfl)
     have hd1:((d:Int) == 0)=false:=by rw [Qu]; omega
     have dV:V.heap.size≤w4.heap.size:=HB4.out.kept.size
     have HE:Hid (∀ w9 aa' ac' wa' wc',AftAt V w9 b (w.heap.size+1) x x2 cs a M (.slice aa' (A.length+1) ac') (.slice wa' (W.length+1) wc') TD 1 (.slice aa' (A.length+1) ac') (A++[X]) (.slice wa' (W.length+1) wc') (W++[Y])→∃ (m':SN) (x':CX) (t:Tr) (aa:Option Addr) (ac:Nat) (wa:Option Addr) (wc:Nat),t.tries≤tries∧tries - t.tries<gk - 1∧(m'.status=0∨m'.status=1)∧t.status=m'.status∧t.ans.length≤t.tries∧t.wts.length≤t.tries∧R=aftN cs a tries size (gk - 1) m' t∧AftAt V w9 b (w.heap.size+1) x x' cs a m' (.slice aa t.ans.length ac) (.slice wa t.wts.length wc) t.tries t.status (.slice aa t.ans.length ac) t.ans (.slice wa t.wts.length wc) t.wts):=fun w9 aa' ac' wa' wc' h9=>by
      have e:=HTD2.out
      refine ⟨M,x2,⟨A++[X],W++[Y],TD,1⟩,aa',ac',wa',wc',by simp only; omega,by simp only; omega,Or.inr HsM.out.symm,HsM.out,by simp only [Qg,Qn]; omega,by simp only [Qg,Qn]; omega,?_,by simpa using h9⟩
      rw [Hrec.out,if_neg (by rw [← HsM.out]; omega)]
      unfold addN
      simp only
      rw [if_pos HsM.out.symm,← HsM.out,← HXY.out.1,← HXY.out.2,← e]
     clear hX hY hZ hless hsome hd0
     go_wp2_with (at_builtin; go_loud (refine Zan w4 rfl (.tmp 76) (.tmp 78) 39 rfl V.heap.size 9 Tryd.infoStr Tryd.underlying39 rfl (by decide) (.slice aa A.length ac) A.length (strs A) rfl HB4.out.ans #[.string ⟨X.toArray⟩] (N:=w4.heap.size) rfl rfl rfl (by simp [Value.oneCell']) ?_ ?_ ?_))
     ·omega
     ·exact dV
     intro av' w6 hA6
     obtain ⟨aa6,ac6,rfl⟩:=Zad hA6.owns
     have HB6:=Zac (HB4.out.app1 hA6)
     have e0:w6.cell? ⟨w.heap.size+1,0,none⟩=some (.slice aa A.length ac):=Zaa HB6.out.box 0 _ rfl
     have e1:w6.cell? ⟨w.heap.size+1,1,none⟩=some (.slice wa W.length wc):=Zaa HB6.out.box 1 _ rfl
     have ef:=fun i=>Zae HB6.out.box i
     have el:=Zab HB6.out.box
     have HB7:Hid (AftAt V (w6.setCell ⟨w.heap.size+1,0,none⟩ (.slice aa6 (A.length+1) ac6)) b (w.heap.size+1) x x2 cs a M (.slice aa6 (A.length+1) ac6) (.slice wa W.length wc) TD 1 (.slice aa6 (A.length+1) ac6) (A++[X]) (.slice wa W.length wc) W):=HB6.out.put ((Qx _ _).put 0 _) (Zai HB6.out.box 0 _)
     have kV:=HB7.out.kept.size
     have HW7:=Zac HB7.out.wts
     clear hA6 d0 d1 d2 d3 d4 df dl dV
     go_wp2_with (at_builtin; go_loud (refine Zan (w6.setCell ⟨w.heap.size+1,0,none⟩ (.slice aa6 (A.length+1) ac6)) rfl (.tmp 82) (.tmp 84) 39 rfl V.heap.size 9 Tryd.infoStr Tryd.underlying39 rfl (by decide) (.slice wa W.length wc) W.length (strs W) rfl HW7.out #[.string ⟨Y.toArray⟩] rfl (by simp) rfl (by simp [Value.oneCell']) ?_ ?_ ?_))
     ·omega
     ·exact kV
     intro wv' w8 hA8
     obtain ⟨wa8,wc8,rfl⟩:=Zad hA8.owns
     have HB8:=Zac (HB7.out.app2 hA8)
     have i1:w8.cell? ⟨w.heap.size+1,1,none⟩=some (.slice wa W.length wc):=Zaa HB8.out.box 1 _ rfl
     have i3:w8.cell? ⟨w.heap.size+1,3,none⟩=some (.int .i64 1):=Zaa HB8.out.box 3 _ rfl
     have if':=fun i=>Zae HB8.out.box i
     have il:=Zab HB8.out.box
     have HB9:Hid (AftAt V (w8.setCell ⟨w.heap.size+1,1,none⟩ (.slice wa8 (W.length+1) wc8)) b (w.heap.size+1) x x2 cs a M (.slice aa6 (A.length+1) ac6) (.slice wa8 (W.length+1) wc8) TD 1 (.slice aa6 (A.length+1) ac6) (A++[X]) (.slice wa8 (W.length+1) wc8) (W++[Y])):=HB8.out.put ((Qx _ _).put 1 _) (Zai HB8.out.box 1 _)
     clear hA8 e0 e1 ef el kV
     go_wp2
     all_goals
      go_roundg (gk - 1)
      case measure=>omega
      case rel=>exact HE.out _ _ _ _ _ HB9.out
    ·obtain rfl:X=[]:=hX.2 h1
     obtain rfl:Y=[]:=hY.2 h1
     by_cases h0:sM=0
     ·subst h0
      have hd0:d≠0:=hsome (Or.inl rfl)
      have hd1:((d:Int) == 0)=false:=by rw [Qu]; omega
      obtain rfl:d=N:=by
       rcases Nat.lt_or_ge d N with h | h
       ·exact absurd rfl (hless h)
       ·omega
      have HE:Hid (∃ (m':SN) (x':CX) (t:Tr) (aa:Option Addr) (ac:Nat) (wa:Option Addr) (wc:Nat),t.tries≤tries∧tries - t.tries<gk - 1∧(m'.status=0∨m'.status=1)∧t.status=m'.status∧t.ans.length≤t.tries∧t.wts.length≤t.tries∧R=aftN cs a tries size (gk - 1) m' t∧AftAt V w4 b (w.heap.size+1) x x' cs a m' (.slice aa t.ans.length ac) (.slice wa t.wts.length wc) t.tries t.status (.slice aa t.ans.length ac) t.ans (.slice wa t.wts.length wc) t.wts):=by
       have e:=HTD2.out
       refine ⟨M,x2,⟨A,W,TD,0⟩,aa,ac,wa,wc,by simp only; omega,by simp only; omega,Or.inl HsM.out.symm,HsM.out,by simp only; omega,by simp only; omega,?_,HB4.out⟩
       rw [Hrec.out,if_neg (by rw [← HsM.out]; omega)]
       unfold addN
       simp only
       rw [if_neg (by rw [← HsM.out]; omega),← HsM.out,← e]
      clear hX hY hZ hless hsome hd0
      go_wp2
      all_goals
       go_roundg (gk - 1)
       case measure=>omega
       case rel=>exact HE.out
     ·have hsM2:sM=2∨sM=3:=by omega
      have HTr:=Zac (Zmr w4 b x2 cs a M HB4.out.sr)
      rw [← HsM.out] at HTr
      obtain ⟨Q,hQ⟩:∃ Q,Q=(Zdh a sM M.found M.tree).2.2:=⟨_,rfl⟩
      rw [← hQ] at HTr hZ
      have HQ:=Zac hQ
      have hbb:=Hbr.out w4 HB4.out.kept
      have Hbb:=Zac hbb
      obtain ⟨r0,r1,r2,r3,r4⟩:w4.cell? ⟨w.heap.size,0,none⟩=some (.slice none 0 0)∧w4.cell? ⟨w.heap.size,1,none⟩=some (.slice none 0 0)∧w4.cell? ⟨w.heap.size,2,none⟩=some (.int .i64 0)∧w4.cell? ⟨w.heap.size,3,none⟩=some (.int .i64 0)∧w4.cell? ⟨w.heap.size,4,none⟩=some (.string ⟨#[]⟩):=⟨Zaa hbb 0 _ rfl,Zaa hbb 1 _ rfl,Zaa hbb 2 _ rfl,Zaa hbb 3 _ rfl,Zaa hbb 4 _ rfl⟩
      have rf:=fun i=>Zae hbb i
      have Hfin:Hid (∀ Z,Kept (fun k=>k=w.heap.size+1∨k=w.heap.size) w4 Z→Zmt w b x cs a R (.returned (.tuple #[.agg #[.slice aa A.length ac,.slice wa W.length wc,.int .i64 TD,.int .i64 sM,.string ⟨Q.toArray⟩],.bool true])) Z):=fun Z hZ=>by
       have e:R=(M,⟨A,W,TD,sM⟩):=by
        have e:=HTD2.out
        rw [Hrec.out,if_pos (by rw [← HsM.out]; exact hsM2)]
        unfold addN
        simp only
        rw [if_neg (by rw [← HsM.out]; exact h1),← HsM.out,← e]
       obtain ⟨k1,k2,k3,k4,k5⟩:=HB4.out.fin Hbb.out (Qe _) HEV.out hZ
       rw [e]
       exact ⟨k1,k2,k3,aa,ac,wa,wc,by simp only; rw [← HsM.out,← HQ.out],k4,k5⟩
      clear hbb hQ
      rcases hsM2 with rfl | rfl
      ·have hQi:Q.isEmpty=false:=by
        have:Q≠[]:=fun e=>absurd rfl (hZ.1 e)
        simpa using this
       clear hX hY hZ hless hsome h1 h0
       go_wp2_with fail
       refine HTr.out.mono ?_
       rintro e w6 ⟨rfl,h6⟩
       obtain rfl:w4=w6:=h6.symm
       go_wp2_with fail
       go_region
       go_wp2
       refine bodyPost_ret (v := .tuple #[.agg #[.slice aa A.length ac,.slice wa W.length wc,.int .i64 TD,.int .i64 (2:Nat),.string ⟨Q.toArray⟩],.bool true]) (by simp [results,Tryd.results12,go_sem,r0,r1,r2,r3,r4,d0,d1,d2,d3,d4,rf,df,dl]) rfl ?_
       exact Hfin.out _ (by repeat (first | with_reducible exact Qx _ _ | with_reducible apply Kept.drew | with_reducible refine Qy ?_ (fun _=>by simp) _))
      ·obtain rfl:Q=[]:=hZ.2 (by omega)
       clear hX hY hZ hless hsome h1 h0
       go_wp2_with fail
       refine HTr.out.mono ?_
       rintro e w6 ⟨rfl,h6⟩
       obtain rfl:w4=w6:=h6.symm
       go_wp2_with fail
       go_region
       go_wp2
       refine bodyPost_ret (v := .tuple #[.agg #[.slice aa A.length ac,.slice wa W.length wc,.int .i64 TD,.int .i64 (3:Nat),.string ⟨#[]⟩],.bool true]) (by simp [results,Tryd.results12,go_sem,r0,r1,r2,r3,r4,d0,d1,d2,d3,d4,rf,df,dl]) rfl ?_
       exact Hfin.out _ (by repeat (first | with_reducible exact Qx _ _ | with_reducible apply Kept.drew | with_reducible refine Qy ?_ (fun _=>by simp) _))
   ·have hI1:¬ (tries:Int) - (T:Int)<(size:Int):=by omega
    obtain rfl:size=N:=by rw [hN]; unfold Zdk; rw [if_neg (by omega)]
    clear hN
    go_wp2_with fail
    refine HS.out.mono ?_
    rintro e w1 ⟨rfl,x2,hK,hC,hNw⟩
    have HB:=Zac (HA1.out w1 x2 hK hC hNw)
    clear hK hC hNw HS HA1
    have b2:w1.cell? ⟨w.heap.size+1,2,none⟩=some (.int .i64 T):=Zaa HB.out.box 2 _ rfl
    have b3:w1.cell? ⟨w.heap.size+1,3,none⟩=some (.int .i64 st):=Zaa HB.out.box 3 _ rfl
    have bf:=fun i=>Zae HB.out.box i
    have bl:=Zab HB.out.box
    have g1:¬ (d:Int)<0:=by omega
    have g2:¬ (size:Int)<(d:Int):=by omega
    clear c2 tf
    obtain ⟨TD,hTD,hTD2⟩:∃ TD:Nat,(T:Int)+(d:Int)=(TD:Int)∧TD=T+d:=⟨T+d,by omega,rfl⟩
    have HTD2:=Zac hTD2
    have hTDb:TD≤6001:=by omega
    clear hTD2
    obtain ⟨sM,hsM⟩:∃ z,z=M.status:=⟨_,rfl⟩
    have hsM3:sM≤3:=by rw [hsM]; exact HB.out.inv.st
    rw [← hsM] at hless hsome
    have HsM:=Zac hsM
    have HB2:Hid (AftAt V (w1.setCell ⟨w.heap.size+1,2,none⟩ (.int .i64 TD)) b (w.heap.size+1) x x2 cs a M (.slice aa A.length ac) (.slice wa W.length wc) TD st (.slice aa A.length ac) A (.slice wa W.length wc) W):=HB.out.put ((Qx _ _).put 2 _) (Zai HB.out.box 2 _)
    have HSt:=Zac (Zmq _ b x2 cs a M HB2.out.sr)
    rw [← hsM] at HSt
    have HB3:Hid (AftAt V ((w1.setCell ⟨w.heap.size+1,2,none⟩ (.int .i64 TD)).setCell ⟨w.heap.size+1,3,none⟩ (.int .i64 sM)) b (w.heap.size+1) x x2 cs a M (.slice aa A.length ac) (.slice wa W.length wc) TD sM (.slice aa A.length ac) A (.slice wa W.length wc) W):=HB2.out.put ((Qx _ _).put 3 _) (Zai HB2.out.box 3 _)
    have HAn:=Zac (Zms _ b x2 cs q a M HB3.out.sr HB3.out.inv Hask.out)
    obtain ⟨hX,hY,hZ⟩:=Zkd HB3.out.inv HB3.out.fw
    rw [← hsM] at hX hY hZ
    rw [← hsM] at HAn
    obtain ⟨X,hXe⟩:∃ X,X=(Zdh a sM M.found M.tree).1:=⟨_,rfl⟩
    obtain ⟨Y,hYe⟩:∃ Y,Y=(Zdh a sM M.found M.tree).2.1:=⟨_,rfl⟩
    rw [← hXe] at HAn hX
    rw [← hYe] at hY
    have HXY:Hid (X=(Zdh a sM M.found M.tree).1∧Y=(Zdh a sM M.found M.tree).2.1):=⟨hXe,hYe⟩
    clear hXe hYe hsM hN0
    go_wp2_with fail
    refine HSt.out.mono ?_
    rintro e w2 ⟨rfl,rfl⟩
    go_wp2_with fail
    refine HAn.out.mono ?_
    rintro e w4 ⟨rfl,hE4⟩
    have HB4:=Zac (HB3.out.ext hE4)
    have HWa:=Zac (Zku w4 b x2 cs a M HB4.out.sr HB4.out.inv hcl)
    rw [← HsM.out,← HXY.out.2] at HWa
    obtain ⟨d0,d1,d2,d3,d4⟩:w4.cell? ⟨w.heap.size+1,0,none⟩=some (.slice aa A.length ac)∧w4.cell? ⟨w.heap.size+1,1,none⟩=some (.slice wa W.length wc)∧w4.cell? ⟨w.heap.size+1,2,none⟩=some (.int .i64 TD)∧w4.cell? ⟨w.heap.size+1,3,none⟩=some (.int .i64 sM)∧w4.cell? ⟨w.heap.size+1,4,none⟩=some (.string ⟨#[]⟩):=⟨Zaa HB4.out.box 0 _ rfl,Zaa HB4.out.box 1 _ rfl,Zaa HB4.out.box 2 _ rfl,Zaa HB4.out.box 3 _ rfl,Zaa HB4.out.box 4 _ rfl⟩
    have df:=fun i=>Zae HB4.out.box i
    have dl:=Zab HB4.out.box
    clear hE4 HB HB2 HB3 HAn HSt b2 b3 bf bl g1 g2
    go_wp2_with fail
    refine HWa.out.mono ?_
    rintro e w5 ⟨rfl,h5⟩
    obtain rfl:w4=w5:=h5.symm
    by_cases h1:sM=1
    ·subst h1
     have hXn:X≠[]:=fun e=>by have:=hX.1 e; omega
     have hYn:Y≠[]:=fun e=>by have:=hY.1 e; omega
     have hXi:X.isEmpty=false:=by simpa using hXn
     have hYi:Y.isEmpty=false:=by simpa using hYn
     have hd0:d≠0:=hsome (Or.inr rfl)
     have hd1:((d:Int) == 0)=false:=by rw [Qu]; omega
     have dV:V.heap.size≤w4.heap.size:=HB4.out.kept.size
     have HE:Hid (∀ w9 aa' ac' wa' wc',AftAt V w9 b (w.heap.size+1) x x2 cs a M (.slice aa' (A.length+1) ac') (.slice wa' (W.length+1) wc') TD 1 (.slice aa' (A.length+1) ac') (A++[X]) (.slice wa' (W.length+1) wc') (W++[Y])→∃ (m':SN) (x':CX) (t:Tr) (aa:Option Addr) (ac:Nat) (wa:Option Addr) (wc:Nat),t.tries≤tries∧tries - t.tries<gk - 1∧(m'.status=0∨m'.status=1)∧t.status=m'.status∧t.ans.length≤t.tries∧t.wts.length≤t.tries∧R=aftN cs a tries size (gk - 1) m' t∧AftAt V w9 b (w.heap.size+1) x x' cs a m' (.slice aa t.ans.length ac) (.slice wa t.wts.length wc) t.tries t.status (.slice aa t.ans.length ac) t.ans (.slice wa t.wts.length wc) t.wts):=fun w9 aa' ac' wa' wc' h9=>by
      have e:=HTD2.out
      refine ⟨M,x2,⟨A++[X],W++[Y],TD,1⟩,aa',ac',wa',wc',by simp only; omega,by simp only; omega,Or.inr HsM.out.symm,HsM.out,by simp only [Qg,Qn]; omega,by simp only [Qg,Qn]; omega,?_,by simpa using h9⟩
      rw [Hrec.out,if_neg (by rw [← HsM.out]; omega)]
      unfold addN
      simp only
      rw [if_pos HsM.out.symm,← HsM.out,← HXY.out.1,← HXY.out.2,← e]
     clear hX hY hZ hless hsome hd0
     go_wp2_with (at_builtin; go_loud (refine Zan w4 rfl (.tmp 76) (.tmp 78) 39 rfl V.heap.size 9 Tryd.infoStr Tryd.underlying39 rfl (by decide) (.slice aa A.length ac) A.length (strs A) rfl HB4.out.ans #[.string ⟨X.toArray⟩] (N:=w4.heap.size) rfl rfl rfl (by simp [Value.oneCell']) ?_ ?_ ?_))
     ·omega
     ·exact dV
     intro av' w6 hA6
     obtain ⟨aa6,ac6,rfl⟩:=Zad hA6.owns
     have HB6:=Zac (HB4.out.app1 hA6)
     have e0:w6.cell? ⟨w.heap.size+1,0,none⟩=some (.slice aa A.length ac):=Zaa HB6.out.box 0 _ rfl
     have e1:w6.cell? ⟨w.heap.size+1,1,none⟩=some (.slice wa W.length wc):=Zaa HB6.out.box 1 _ rfl
     have ef:=fun i=>Zae HB6.out.box i
     have el:=Zab HB6.out.box
     have HB7:Hid (AftAt V (w6.setCell ⟨w.heap.size+1,0,none⟩ (.slice aa6 (A.length+1) ac6)) b (w.heap.size+1) x x2 cs a M (.slice aa6 (A.length+1) ac6) (.slice wa W.length wc) TD 1 (.slice aa6 (A.length+1) ac6) (A++[X]) (.slice wa W.length wc) W):=HB6.out.put ((Qx _ _).put 0 _) (Zai HB6.out.box 0 _)
     have kV:=HB7.out.kept.size
     have HW7:=Zac HB7.out.wts
     clear hA6 d0 d1 d2 d3 d4 df dl dV
     go_wp2_with (at_builtin; go_loud (refine Zan (w6.setCell ⟨w.heap.size+1,0,none⟩ (.slice aa6 (A.length+1) ac6)) rfl (.tmp 82) (.tmp 84) 39 rfl V.heap.size 9 Tryd.infoStr Tryd.underlying39 rfl (by decide) (.slice wa W.length wc) W.length (strs W) rfl HW7.out #[.string ⟨Y.toArray⟩] rfl (by simp) rfl (by simp [Value.oneCell']) ?_ ?_ ?_))
     ·omega
     ·exact kV
     intro wv' w8 hA8
     obtain ⟨wa8,wc8,rfl⟩:=Zad hA8.owns
     have HB8:=Zac (HB7.out.app2 hA8)
     have i1:w8.cell? ⟨w.heap.size+1,1,none⟩=some (.slice wa W.length wc):=Zaa HB8.out.box 1 _ rfl
     have i3:w8.cell? ⟨w.heap.size+1,3,none⟩=some (.int .i64 1):=Zaa HB8.out.box 3 _ rfl
     have if':=fun i=>Zae HB8.out.box i
     have il:=Zab HB8.out.box
     have HB9:Hid (AftAt V (w8.setCell ⟨w.heap.size+1,1,none⟩ (.slice wa8 (W.length+1) wc8)) b (w.heap.size+1) x x2 cs a M (.slice aa6 (A.length+1) ac6) (.slice wa8 (W.length+1) wc8) TD 1 (.slice aa6 (A.length+1) ac6) (A++[X]) (.slice wa8 (W.length+1) wc8) (W++[Y])):=HB8.out.put ((Qx _ _).put 1 _) (Zai HB8.out.box 1 _)
     clear hA8 e0 e1 ef el kV
     go_wp2
     all_goals
      go_roundg (gk - 1)
      case measure=>omega
      case rel=>exact HE.out _ _ _ _ _ HB9.out
    ·obtain rfl:X=[]:=hX.2 h1
     obtain rfl:Y=[]:=hY.2 h1
     by_cases h0:sM=0
     ·subst h0
      have hd0:d≠0:=hsome (Or.inl rfl)
      have hd1:((d:Int) == 0)=false:=by rw [Qu]; omega
      obtain rfl:size=d:=by
       rcases Nat.lt_or_ge d size with h | h
       ·exact absurd rfl (hless h)
       ·omega
      have HE:Hid (∃ (m':SN) (x':CX) (t:Tr) (aa:Option Addr) (ac:Nat) (wa:Option Addr) (wc:Nat),t.tries≤tries∧tries - t.tries<gk - 1∧(m'.status=0∨m'.status=1)∧t.status=m'.status∧t.ans.length≤t.tries∧t.wts.length≤t.tries∧R=aftN cs a tries size (gk - 1) m' t∧AftAt V w4 b (w.heap.size+1) x x' cs a m' (.slice aa t.ans.length ac) (.slice wa t.wts.length wc) t.tries t.status (.slice aa t.ans.length ac) t.ans (.slice wa t.wts.length wc) t.wts):=by
       have e:=HTD2.out
       refine ⟨M,x2,⟨A,W,TD,0⟩,aa,ac,wa,wc,by simp only; omega,by simp only; omega,Or.inl HsM.out.symm,HsM.out,by simp only; omega,by simp only; omega,?_,HB4.out⟩
       rw [Hrec.out,if_neg (by rw [← HsM.out]; omega)]
       unfold addN
       simp only
       rw [if_neg (by rw [← HsM.out]; omega),← HsM.out,← e]
      clear hX hY hZ hless hsome hd0
      go_wp2
      all_goals
       go_roundg (gk - 1)
       case measure=>omega
       case rel=>exact HE.out
     ·have hsM2:sM=2∨sM=3:=by omega
      have HTr:=Zac (Zmr w4 b x2 cs a M HB4.out.sr)
      rw [← HsM.out] at HTr
      obtain ⟨Q,hQ⟩:∃ Q,Q=(Zdh a sM M.found M.tree).2.2:=⟨_,rfl⟩
      rw [← hQ] at HTr hZ
      have HQ:=Zac hQ
      have hbb:=Hbr.out w4 HB4.out.kept
      have Hbb:=Zac hbb
      obtain ⟨r0,r1,r2,r3,r4⟩:w4.cell? ⟨w.heap.size,0,none⟩=some (.slice none 0 0)∧w4.cell? ⟨w.heap.size,1,none⟩=some (.slice none 0 0)∧w4.cell? ⟨w.heap.size,2,none⟩=some (.int .i64 0)∧w4.cell? ⟨w.heap.size,3,none⟩=some (.int .i64 0)∧w4.cell? ⟨w.heap.size,4,none⟩=some (.string ⟨#[]⟩):=⟨Zaa hbb 0 _ rfl,Zaa hbb 1 _ rfl,Zaa hbb 2 _ rfl,Zaa hbb 3 _ rfl,Zaa hbb 4 _ rfl⟩
      have rf:=fun i=>Zae hbb i
      have Hfin:Hid (∀ Z,Kept (fun k=>k=w.heap.size+1∨k=w.heap.size) w4 Z→Zmt w b x cs a R (.returned (.tuple #[.agg #[.slice aa A.length ac,.slice wa W.length wc,.int .i64 TD,.int .i64 sM,.string ⟨Q.toArray⟩],.bool true])) Z):=fun Z hZ=>by
       have e:R=(M,⟨A,W,TD,sM⟩):=by
        have e:=HTD2.out
        rw [Hrec.out,if_pos (by rw [← HsM.out]; exact hsM2)]
        unfold addN
        simp only
        rw [if_neg (by rw [← HsM.out]; exact h1),← HsM.out,← e]
       obtain ⟨k1,k2,k3,k4,k5⟩:=HB4.out.fin Hbb.out (Qe _) HEV.out hZ
       rw [e]
       exact ⟨k1,k2,k3,aa,ac,wa,wc,by simp only; rw [← HsM.out,← HQ.out],k4,k5⟩
      clear hbb hQ
      rcases hsM2 with rfl | rfl
      ·have hQi:Q.isEmpty=false:=by
        have:Q≠[]:=fun e=>absurd rfl (hZ.1 e)
        simpa using this
       clear hX hY hZ hless hsome h1 h0
       go_wp2_with fail
       refine HTr.out.mono ?_
       rintro e w6 ⟨rfl,h6⟩
       obtain rfl:w4=w6:=h6.symm
       go_wp2_with fail
       go_region
       go_wp2
       refine bodyPost_ret (v := .tuple #[.agg #[.slice aa A.length ac,.slice wa W.length wc,.int .i64 TD,.int .i64 (2:Nat),.string ⟨Q.toArray⟩],.bool true]) (by simp [results,Tryd.results12,go_sem,r0,r1,r2,r3,r4,d0,d1,d2,d3,d4,rf,df,dl]) rfl ?_
       exact Hfin.out _ (by repeat (first | with_reducible exact Qx _ _ | with_reducible apply Kept.drew | with_reducible refine Qy ?_ (fun _=>by simp) _))
      ·obtain rfl:Q=[]:=hZ.2 (by omega)
       clear hX hY hZ hless hsome h1 h0
       go_wp2_with fail
       refine HTr.out.mono ?_
       rintro e w6 ⟨rfl,h6⟩
       obtain rfl:w4=w6:=h6.symm
       go_wp2_with fail
       go_region
       go_wp2
       refine bodyPost_ret (v := .tuple #[.agg #[.slice aa A.length ac,.slice wa W.length wc,.int .i64 TD,.int .i64 (3:Nat),.string ⟨#[]⟩],.bool true]) (by simp [results,Tryd.results12,go_sem,r0,r1,r2,r3,r4,d0,d1,d2,d3,d4,rf,df,dl]) rfl ?_
       exact Hfin.out _ (by repeat (first | with_reducible exact Qx _ _ | with_reducible apply Kept.drew | with_reducible refine Qy ?_ (fun _=>by simp) _))
  ·have HTr:=Zac (Zmr wr b x1 cs a m1 HA.out.sr)
   have hbb:=Hbr.out wr HA.out.kept
   have Hbb:=Zac hbb
   obtain ⟨r0,r1,r2,r3,r4⟩:wr.cell? ⟨w.heap.size,0,none⟩=some (.slice none 0 0)∧wr.cell? ⟨w.heap.size,1,none⟩=some (.slice none 0 0)∧wr.cell? ⟨w.heap.size,2,none⟩=some (.int .i64 0)∧wr.cell? ⟨w.heap.size,3,none⟩=some (.int .i64 0)∧wr.cell? ⟨w.heap.size,4,none⟩=some (.string ⟨#[]⟩):=⟨Zaa hbb 0 _ rfl,Zaa hbb 1 _ rfl,Zaa hbb 2 _ rfl,Zaa hbb 3 _ rfl,Zaa hbb 4 _ rfl⟩
   have rf:=fun i=>Zae hbb i
   have tf:=fun i=>Zae HA.out.box i
   have c0:wr.cell? ⟨w.heap.size+1,0,none⟩=some (.slice aa A.length ac):=Zaa HA.out.box 0 _ rfl
   have c1:wr.cell? ⟨w.heap.size+1,1,none⟩=some (.slice wa W.length wc):=Zaa HA.out.box 1 _ rfl
   have c3:wr.cell? ⟨w.heap.size+1,3,none⟩=some (.int .i64 st):=Zaa HA.out.box 3 _ rfl
   have c4:wr.cell? ⟨w.heap.size+1,4,none⟩=some (.string ⟨#[]⟩):=Zaa HA.out.box 4 _ rfl
   have Htold:Hid ((Zdh a m1.status m1.found m1.tree).2.2=[]):=(Zkd HA.out.inv HA.out.fw).2.2.2 (by rw [← Hst.out]; omega)
   rw [Htold.out] at HTr
   have hst3:((st:Int) != 2)=true:=by rw [bne_iff_ne]; omega
   clear hbb
   have Hfin:Hid (∀ Z,Kept (fun k=>k=w.heap.size+1∨k=w.heap.size) wr Z→Zmt w b x cs a R (.returned (.tuple #[.agg #[.slice aa A.length ac,.slice wa W.length wc,.int .i64 T,.int .i64 st,.string ⟨#[]⟩],.bool true])) Z):=fun Z hZ=>by
    have e:R=(m1,⟨A,W,T,st⟩):=by
     rw [HRe.out]
     obtain ⟨f,rfl⟩:∃ f,gk=f+1:=⟨gk - 1,by omega⟩
     simp only [aftN]
     rw [if_neg hlt]
    obtain ⟨k1,k2,k3,k4,k5⟩:=HA.out.fin Hbb.out (Qe _) HEV.out hZ
    rw [e]
    exact ⟨k1,k2,k3,aa,ac,wa,wc,by simp only; rw [Htold.out],k4,k5⟩
   go_wp2_with fail
   refine HTr.out.mono ?_
   rintro e w1 ⟨rfl,rfl⟩
   go_wp2_with fail
   go_region
   go_wp2
   refine bodyPost_ret (v := .tuple #[.agg #[.slice aa A.length ac,.slice wa W.length wc,.int .i64 T,.int .i64 st,.string ⟨#[]⟩],.bool true]) (by simp [results,Tryd.results12,go_sem,r0,r1,r2,r3,r4,c0,c1,c2,c3,c4,rf,tf,hst3,hbt]) rfl ?_
   exact Hfin.out _ (by repeat (first | with_reducible exact Qx _ _ | with_reducible apply Kept.drew | with_reducible refine Qy ?_ (fun _=>by simp) _))
def NewC (p q:ByteArray) (w:World) (e:Ending) (w':World):Prop:=Ext w w' ∧
 ((Zcp p=none∧e = .returned (.tuple #[.pointer none,.int .i64 4])) ∨
 ((∃ cs,Zcp p=some cs)∧Zeb q=none∧e = .returned (.tuple #[.pointer none,.int .i64 5])) ∨
 (∃ cs a b,∃ x:CX,Zcp p=some cs∧Zeb q=some a∧e = .returned (.tuple #[.pointer (some ⟨b,0,none⟩),.int .i64 0])∧(∀ k,ownS b x k→w.heap.size≤k)∧CSr w' b x cs a (newN cs a)))
theorem Yib {a:List (List Sym) × Names} (hN:NOk (topN a)) (han:a.2.length≤121):∀ l ∈ a.1,TmOk l:=fun l hl=>by
 have hlt:l ∈ (topN a).terms:=by
  unfold ND.terms topN
  refine List.mem_append_left _ ?_
  simp
  exact hl
 have hg:=(hN.gs (l,0) (by unfold topN; simp; exact hl)).1
 exact Zmy (hN.wf l hlt) (by have h':l.length≤30:=hg; omega) (hN.occ l hlt) (by have:(topN a).vars=a.2.length:=rfl; omega)
theorem Zvt (p q:ByteArray) (w:World) (hp:p.size≤maxLen) (hq:q.size≤maxLen):Calls Tryd.prog 11 #[.string p,.string q] w (NewC p q w):=by
 have HB:=Zac (Ycd p q w hp hq)
 clear hp hq
 go_enter Tryd.func11,Tryd.ntmps11
 go_wp2_with fail
 refine HB.out.mono ?_
 rintro e w1 ⟨hE1,hB⟩
 have HE1:=Zac hE1
 have hs1:=hE1.size
 clear hE1
 rcases hB with ⟨hno,rfl⟩ | ⟨⟨cs,hsome⟩,hno,rfl⟩ | ⟨cs,a,l1,lc,xs,h1,h2,h3,b1,bc,n1,nc,hsome,hask,rfl,hP,hT,hns⟩
 ·have Hno:=Zac hno
  clear hno
  go_wp2
  go_ret2
  exact ⟨HE1.out.trans (((Ext.of (by repeat' (first | with_reducible(first|exact Qx _ _|apply Kept.drew|apply Kept.drewN|apply Qz|refine Qy ?_ ?_ _)|exact fun h=>absurd h (by simp <;> omega)))):Ext w1 (w1.alloc _)).mono hs1),Or.inl ⟨Hno.out,rfl⟩⟩
 ·have Hno:=Zac hno
  have Hsome:=Zac hsome
  clear hno hsome
  go_wp2
  go_ret2
  exact ⟨HE1.out.trans (((Ext.of (by repeat' (first | with_reducible(first|exact Qx _ _|apply Kept.drew|apply Kept.drewN|apply Qz|refine Qy ?_ ?_ _)|exact fun h=>absurd h (by simp <;> omega)))):Ext w1 (w1.alloc _)).mono hs1),Or.inr (Or.inl ⟨⟨cs,Hsome.out⟩,Hno.out,rfl⟩)⟩
 ·obtain ⟨_,_,_,hcs,hcl⟩:=Zdu hsome
  obtain ⟨_,_,_,hOk,hNm,ha1,ha2,ha3,_⟩:=Zfh hask
  have hFw:=Ygz hask
  obtain ⟨W2,hW2⟩:∃ W2,W2=(w1.alloc (.cells #[.slice h1 h2 h3,.slice b1 a.1.length bc,.slice n1 a.2.length nc] 62)).alloc (.cells #[.slice l1 cs.length lc,.slice n1 a.2.length nc,.slice none 0 0,.int .i64 0,.int .i64 0,.slice none 0 0,.slice none 0 0,.string ⟨#[]⟩] 70):=⟨_,rfl⟩
  have hE12:Ext w1 W2:=by rw [hW2]; exact (Ext.of (by repeat' (first | with_reducible(first|exact Qx _ _|apply Kept.drew|apply Kept.drewN|apply Qz|refine Qy ?_ ?_ _)|exact fun h=>absurd h (by simp <;> omega))))
  have hs2:W2.heap.size=w1.heap.size+2:=by rw [hW2]; simp
  have hbx:W2.heap[w1.heap.size+1]?=some (.cells #[.slice l1 cs.length lc,.slice n1 a.2.length nc,.slice none 0 0,.int .i64 0,.int .i64 0,.slice none 0 0,.slice none 0 0,.string ⟨#[]⟩] 70 (0,0)):=by rw [hW2]; exact heap_alloc2_new w1 _ _
  have hC2:CSr W2 (w1.heap.size+1) ⟨l1,lc,n1,nc,none,0,none,0,0,none,0,0⟩ cs a ⟨[],0,0,⟨[],[],[],[],0⟩,[]⟩:=⟨hbx,⟨xs,hP.ext hE12⟩,Zak hns (fun j hj=>hE12.block j (hns.lt j hj).2),⟨[],RowL.nil _⟩,fun h=>by simp at h⟩
  have HTop:=Zac (Yel W2 (.slice h1 h2 h3) (.slice b1 a.1.length bc) (.slice n1 a.2.length nc) a.1 a.2 ⟨_,_,_,rfl⟩ (hT.ext hE12) (Zak hns (fun j hj=>hE12.block j (hns.lt j hj).2)) (by omega) (by omega) (Yib hOk ha3))
  have Hst:Hid (∀ w3 g1 gc v1 vc,Ext W2 w3→TermsIn w3 (.slice g1 a.1.length gc) a.1→TermsIn w3 (.slice v1 a.2.length vc) ((List.range a.2.length).map vr)→∀ o,CSr (w3.alloc o) (w1.heap.size+1) ⟨l1,lc,n1,nc,none,0,none,0,0,none,0,0⟩ cs a ⟨[],0,0,⟨[],[],[],[],0⟩,[]⟩∧Ext w (w3.alloc o)∧Calls Tryd.prog 23 #[.pointer (some ⟨w1.heap.size+1,0,none⟩),.agg #[.slice g1 a.1.length gc,.slice v1 a.2.length vc,.slice none 0 0,.int .i64 a.2.length]] (w3.alloc o) fun e w'=>e = .returned (.tuple #[])∧∃ x',Kept (ownS (w1.heap.size+1) ⟨l1,lc,n1,nc,none,0,none,0,0,none,0,0⟩) (w3.alloc o) w'∧CSr w' (w1.heap.size+1) x' cs a (Zcd ⟨[],0,0,⟨[],[],[],[],0⟩,[]⟩ (topN a))∧Zgq (w3.alloc o) ⟨l1,lc,n1,nc,none,0,none,0,0,none,0,0⟩ x'):=fun w3 g1 gc v1 vc hE3 hg hv o=>by
   have hE34:Ext w3 (w3.alloc o):=(Ext.of (by repeat' (first | with_reducible(first|exact Qx _ _|apply Kept.drew|apply Kept.drewN|apply Qz|refine Qy ?_ ?_ _)|exact fun h=>absurd h (by simp <;> omega))))
   have hE24:Ext W2 (w3.alloc o):=hE3.trans (hE34.mono hE3.size)
   have hC:=hC2.ext hE24
   have hEw:Ext w (w3.alloc o):=(HE1.out.trans (hE12.mono HE1.out.size)).trans (hE24.mono (by omega))
   have hCN:CNode (w3.alloc o) (.slice g1 a.1.length gc) (.slice v1 a.2.length vc) (.slice none 0 0) (.int .i64 a.2.length) (topN a):=by
    refine ⟨topN a,⟨?_,hv.ext hE34,⟨[],TermsAt.nil _ _⟩⟩,rfl,hOk,hNm,hFw,Same.refl hOk⟩
    have:(topN a).goals.map (·.1)=a.1:=by unfold topN; rw [List.map_map]; exact (List.map_congr_left (fun _ _=>rfl)).trans (List.map_id _)
    rw [this]; exact hg.ext hE34
   exact ⟨hC,hEw,Zog (w3.alloc o) _ _ cs a _ _ _ _ _ _ hC hCN (by simp) (Zfi ha2) (by simp)⟩
  have HL:Hid (∀ u (xx:CX),CSr u (w1.heap.size+1) xx cs a (Zcd ⟨[],0,0,⟨[],[],[],[],0⟩,[]⟩ (topN a))→Calls Tryd.prog 24 #[.pointer (some ⟨w1.heap.size+1,0,none⟩)] u fun e w'=>e = .returned (.tuple #[])∧Kept (only (w1.heap.size+1)) u w'∧CSr w' (w1.heap.size+1) xx cs a (newN cs a)):=fun u xx h1=>by
   have e:Zcd ⟨[],0,0,⟨[],[],[],[],0⟩,[]⟩ (topN a)=(⟨[(topN a,0)],0,0,⟨[],[],[],[],0⟩,[40]⟩:SN):=by unfold Zcd; rw [if_neg (Zfi ha2)]; rfl
   refine Zsi u _ xx cs a _ h1 (by rw [e]; simp) (by rw [e]; intro y hy; simp at hy; subst hy; exact Qm _) hcl (by rw [e]; simp)
  have HW2:=Zac hW2
  have Hsome:=Zac hsome
  have Hask:=Zac hask
  clear hsome hask hP hT hns hcs hOk hNm ha1 ha2 ha3 hFw hE12 hbx hC2 hW2
  go_wp2_with fail
  rw [← HW2.out]
  refine HTop.out.mono ?_
  rintro e w3 ⟨hE3,g1,gc,v1,vc,rfl,hg,hv⟩
  have hs3:=hE3.size
  have H3:=Zac (Hst.out w3 g1 gc v1 vc hE3 hg hv)
  clear hE3 hg hv HTop Hst
  go_wp2_with fail
  refine (H3.out _).2.2.mono ?_
  rintro e w4 ⟨rfl,x4,hK4,hC4,hN4⟩
  have H4:=Zac (HL.out w4 x4 hC4)
  have hs4:=hK4.size
  simp at hs4
  have HK4:=Zac hK4
  have HN4:=Zac hN4
  clear hK4 hC4 hN4 HL
  go_wp2_with fail
  refine H4.out.mono ?_
  rintro e w5 ⟨rfl,hK5,hC5⟩
  have HK5:=Zac hK5
  have HC5:=Zac hC5
  clear hK5 hC5
  go_wp2
  go_ret2
  refine ⟨?_,Or.inr (Or.inr ⟨cs,a,w1.heap.size+1,x4,Hsome.out,Hask.out,rfl,fun k hk => ?_,HC5.out⟩)⟩
  ·have h1:=(H3.out (.cells #[.slice g1 a.1.length gc,.slice v1 a.2.length vc,.slice none 0 0,.int .i64 a.2.length] 72)).2.1
   refine h1.trans ((HK4.out.below h1.size (fun k hk => ?_)).trans (HK5.out.below (Qq h1.size HK4.out.size) (fun k hk => ?_)))
   ·rcases hk with rfl | ⟨p,hp,_⟩
    ·omega
    ·simp at hp
   ·have:k=w1.heap.size+1:=hk
    omega
  ·rcases hk with rfl | hk
   ·omega
   ·rcases HN4.out.1 k hk with ⟨p,hp,_⟩ | h
    ·simp at hp
    ·simp at h
     omega
theorem Zmu (cs:List Cls) {a:List (List Sym) × Names} (h:a.1≠[]):(newN cs a).status=0:=by
 unfold newN Zdb Zcd
 rw [if_neg (Zfi h)]
theorem Ycn {w:World} {B n c i:Nat} {a:Option Addr} {A:List (List UInt8)} (h:w.ownsRow B 9 1 (.slice a n c) n (strs A)) (hi:i<n):∃ g y,a=some ⟨g,0,none⟩∧g<w.heap.size∧A[i]?=some y∧w.cell? ⟨g,i,none⟩=some (.string ⟨y.toArray⟩):=by
 rcases h.2 with ⟨h1,h2⟩ | ⟨g,cap,cur,h1,h2⟩
 ·omega
 ·simp only [Value.slice.injEq] at h1
  obtain ⟨rfl,_,rfl⟩:=h1
  have hl:=h.1
  have hA:i<A.length:=by simp [strs] at hl; omega
  obtain ⟨y,hy⟩:∃ y,A[i]?=some y:=⟨_,Qb hA⟩
  exact ⟨g,y,rfl,(h.lt g rfl).2,hy,Zag h i _ (by unfold strs; rw [Qj,hy]; rfl)⟩
theorem Zvu (w:World) (B1 B2:Nat) (a1:Option Addr) (c1:Nat) (A:List (List UInt8)) (a2:Option Addr) (c2:Nat) (B:List (List UInt8)) (h1:w.ownsRow B1 9 1 (.slice a1 A.length c1) A.length (strs A)) (h2:w.ownsRow B2 9 1 (.slice a2 B.length c2) B.length (strs B)) (hA:A.length≤100000) (hB:B.length≤100000) :
  Calls Tryd.prog 13 #[.slice a1 A.length c1,.slice a2 B.length c2] w fun e w'=>e = .returned (.bool (decide (A=B)))∧Ext w w':=by
 have H1:Hid (∀ u,Ext w u→∀ i,i<A.length→∃ g y,a1=some ⟨g,0,none⟩∧g<u.heap.size∧A[i]?=some y∧u.cell? ⟨g,i,none⟩=some (.string ⟨y.toArray⟩)):=fun u hu i hi=>Ycn (Zak h1 (fun k hk=>hu.block k (h1.lt k hk).2)) hi
 have H2:Hid (∀ u,Ext w u→∀ i,i<B.length→∃ g y,a2=some ⟨g,0,none⟩∧g<u.heap.size∧B[i]?=some y∧u.cell? ⟨g,i,none⟩=some (.string ⟨y.toArray⟩)):=fun u hu i hi=>Ycn (Zak h2 (fun k hk=>hu.block k (h2.lt k hk).2)) hi
 clear h1 h2
 by_cases hl:A.length=B.length
 ·rw [← hl] at H2 ⊢
  have Hl:=Zac hl
  obtain ⟨n,hn⟩:∃ n,n=A.length:=⟨_,rfl⟩
  have Hn:=Zac hn
  rw [← hn] at H1 H2 ⊢
  rw [← hn] at hA
  obtain ⟨D,hD⟩:∃ D,D=decide (A=B):=⟨_,rfl⟩
  have HD:=Zac hD
  rw [← hD]
  clear hl hB hn hD
  go_enter Tryd.func13,Tryd.ntmps13
  go_wp2
  go_loopw [5] (fun i u=>∃ s:Nat,s≤n∧i = .int .i64 s∧Ext w u∧A.take s=B.take s) (fun i _=>n - (intOf i).toNat)
  case atStart=>exact ⟨0,Qm _,rfl,Below.refl _ _,rfl⟩
  case round =>
   obtain ⟨s,hs,rfl,hEu,htk⟩:=hrel
   have HEu:=Zac hEu
   have Htk:=Zac htk
   by_cases hlt:s<n
   ·obtain ⟨g,y,rfl,hg,hy,cy⟩:=H1.out _ hEu s hlt
    obtain ⟨g',z,rfl,hg',hz,cz⟩:=H2.out _ hEu s hlt
    have Hyz:Hid (A[s]?=some y∧B[s]?=some z):=⟨hy,hz⟩
    clear hEu htk hy hz
    by_cases hyz:y=z
    ·subst hyz
     go_wp2_with fail
     go_quiet (fail)
     go_wp2
     go_roundw
     case rel =>
      refine ⟨s+1,by omega,by go_num,HEu.out.trans ((Ext.of (by repeat' (first | with_reducible(first|exact Qx _ _|apply Kept.drew|apply Kept.drewN|apply Qz|refine Qy ?_ ?_ _)|exact fun h=>absurd h (by simp <;> omega)))).mono HEu.out.size),?_⟩
      rw [List.take_add_one,List.take_add_one,Htk.out,Hyz.out.1,Hyz.out.2]
     case measure=>simp [intOf]; omega
    ·have hne:¬ y.toArray=z.toArray:=fun e=>hyz (by simpa using e)
     have hD0:D=false:=by
      rw [HD.out,decide_eq_false_iff_not]
      rintro rfl
      exact hyz (Option.some.inj (Hyz.out.1.symm.trans Hyz.out.2))
     subst hD0
     have hb:(y == z)=false:=by rw [Qu]; exact hyz
     go_wp2_with fail
     go_quiet (fail)
     go_wp2
     go_ret
     exact ⟨rfl,HEu.out.trans ((Ext.of (by repeat' (first | with_reducible(first|exact Qx _ _|apply Kept.drew|apply Kept.drewN|apply Qz|refine Qy ?_ ?_ _)|exact fun h=>absurd h (by simp <;> omega)))).mono HEu.out.size)⟩
   ·have hD1:D=true:=by
     rw [HD.out,decide_eq_true_iff]
     have h1:=Htk.out
     rw [List.take_of_length_le (by rw [← Hn.out]; omega),List.take_of_length_le (by rw [← Hl.out,← Hn.out]; omega)] at h1
     exact h1
    subst hD1
    clear hEu htk
    go_wp2
    go_ret
    exact ⟨rfl,HEu.out⟩
 ·have hD:decide (A=B)=false:=by
   rw [decide_eq_false_iff_not]
   rintro rfl
   exact hl rfl
  rw [hD]
  have hb:((A.length:Int) != (B.length:Int))=true:=by rw [bne_iff_ne]; omega
  clear hD hl
  go_enter Tryd.func13,Tryd.ntmps13
  go_wp2
  go_ret
  exact ⟨rfl,Below.refl _ _⟩
theorem Zui {s:SN} (h:s.status=0∧s.way≠[]∧s.tries<3000):endN s=s:=by
 unfold endN
 rw [if_neg (by omega),if_pos h.1,if_neg h.2.1,if_neg (by omega)]
theorem Zmv {s:SN} (h:(endN s).status=0):s.status=0∧s.way≠[]∧s.tries<3000:=by
 unfold endN at h
 split at h
 ·simp [Zgf] at h
 ·split at h
  ·rename_i h3 h0
   split at h
   ·simp at h
   ·rename_i hw
    split at h
    ·simp [Zgf] at h
    ·rename_i ht
     exact ⟨h0,hw,by omega⟩
  ·rename_i h0
   exact absurd h h0
theorem Zyn {cs:List Cls} {n:Nat} {s:SN} (hs:s.status≠2∧s.status≠3) :
  Zbb cs (n+1) s=if (Zbb cs 1 s).1.status=0 then ((Zbb cs n (Zbb cs 1 s).1).1,(Zbb cs n (Zbb cs 1 s).1).2+1) else Zbb cs 1 s:=by
 obtain ⟨z,hz⟩:∃ z:SN,z = { s with status:=0 }:=⟨_,rfl⟩
 have e1:∀ k,Zbb cs k s=(endN (Zbz cs k z).1,(Zbz cs k z).2):=fun k=>by
  unfold Zbb
  rw [if_neg (by omega),hz]
 rw [e1 (n+1),e1 1]
 by_cases hc:z.status=0∧z.way≠[]∧z.tries<3000
 ·have l1:Zbz cs 1 z=(Zaq cs z,1):=by
   simp only [Zbz]
   rw [if_pos hc]
  have l2:Zbz cs (n+1) z=((Zbz cs n (Zaq cs z)).1,(Zbz cs n (Zaq cs z)).2+1):=by
   rw [Zbz,if_pos hc]
  rw [l1,l2]
  simp only
  by_cases h0:(endN (Zaq cs z)).status=0
  ·rw [if_pos h0]
   have hk:=Zmv h0
   rw [Zui hk]
   have e:({ Zaq cs z with status:=0 }:SN)=Zaq cs z:=by
    have:=hk.1
    cases hm:Zaq cs z
    rw [hm] at this
    simp only at this
    subst this
    rfl
   unfold Zbb
   rw [if_neg (by omega),e]
  ·rw [if_neg h0]
   have hk:¬ ((Zaq cs z).status=0∧(Zaq cs z).way≠[]∧(Zaq cs z).tries<3000):=fun hk=>h0 (by rw [Zui hk]; exact hk.1)
   have l3:Zbz cs n (Zaq cs z)=(Zaq cs z,0):=by
    cases n with
    | zero=>rfl
    | succ n=>rw [Zbz,if_neg hk]
   rw [l3]
 ·have l1:∀ k,Zbz cs k z=(z,0):=fun k=>by
   cases k with
   | zero=>rfl
   | succ k=>rw [Zbz,if_neg hc]
  rw [l1,l1]
  simp only
  have h0:(endN z).status≠0:=fun h=>hc (Zmv h)
  rw [if_neg h0]
theorem Zoh {d:Nat} (h:0<d):Zdk 1 d=1:=by
 unfold Zdk
 split
 ·omega
 ·rfl
noncomputable def aftG (cs:List Cls) (a:List (List Sym) × Names) (tries size f N:Nat) (m:SN) (t:Tr):SN × Tr :=
 if (Zbb cs N m).1.status=2∨(Zbb cs N m).1.status=3 then ((Zbb cs N m).1,addN a t (Zbb cs N m)) else aftN cs a tries size f (Zbb cs N m).1 (addN a t (Zbb cs N m))
theorem Zel {a:List (List Sym) × Names} {t:Tr} {r:SN × Nat}:(addN a t r).tries=t.tries+r.2:=by
 unfold addN
 split <;> rfl
theorem Yex {cs:List Cls} {a:List (List Sym) × Names} {tries size:Nat} (hcl:cs.length≤24) (hs:0<size):∀ (d:Nat) (m:SN) (t:Tr) (N f f':Nat),InvN cs a m→tries - t.tries=d→(m.status=0∨m.status=1)→1≤N→N≤d→d≤f→d<f'→aftG cs a tries size f N m t=aftN cs a tries 1 f' m t:=by
 intro d
 induction d using Nat.strongRecOn with
 | ind d ih =>
  intro m t N f f' hI hd hm h1 hN hf hf'
  have hlt:t.tries<tries:=by omega
  obtain ⟨g,rfl⟩:∃ g,f'=g+1:=⟨f' - 1,by omega⟩
  have hst:m.status≠2∧m.status≠3:=by omega
  have hR:aftN cs a tries 1 (g+1) m t=aftG cs a tries 1 g 1 m t:=by
   rw [aftN,if_pos hlt,Zoh (by omega)]
   rfl
  rw [hR]
  obtain ⟨n,rfl⟩:∃ n,N=n+1:=⟨N - 1,by omega⟩
  have hsp:=Zyn (cs:=cs) (n:=n) hst
  have hle:=Zpk (cs:=cs) (n:=1) (s:=m)
  have hsm:=Zkc (cs:=cs) (n:=1) (s:=m) (by omega) hst
  have go:∀ (m':SN) (t':Tr),InvN cs a m'→t.tries<t'.tries→(m'.status=0∨m'.status=1)→aftN cs a tries size f m' t'=aftN cs a tries 1 g m' t':=fun m' t' hI' ht hm'=>by
   by_cases hl:t'.tries<tries
   ·obtain ⟨k,rfl⟩:∃ k,f=k+1:=⟨f - 1,by omega⟩
    have:aftN cs a tries size (k+1) m' t'=aftG cs a tries size k (Zdk size (tries - t'.tries)) m' t':=by
     rw [aftN,if_pos hl]
     rfl
    rw [this]
    exact ih (tries - t'.tries) (by omega) m' t' _ k g hI' rfl hm' (by unfold Zdk; split <;> omega) (by unfold Zdk; split <;> omega) (by omega) (by omega)
   ·obtain ⟨k,rfl⟩:∃ k,f=k+1:=⟨f - 1,by omega⟩
    have h2:aftN cs a tries size (k+1) m' t'=(m',t'):=by rw [aftN,if_neg hl]
    have h3:aftN cs a tries 1 g m' t'=(m',t'):=by
     cases g with
     | zero=>rfl
     | succ g=>rw [aftN,if_neg hl]
    rw [h2,h3]
  by_cases h0:(Zbb cs 1 m).1.status=0
  ·rw [if_pos h0] at hsp
   have hd1:(Zbb cs 1 m).2=1:=by
    have:=hsm (Or.inl h0)
    omega
   have hG1:Zve (Zbb cs 1 m).1:=by
    have hz:(Zbb cs 1 m).1=endN (Zbz cs 1 { m with status:=0 }).1:=by
     unfold Zbb
     rw [if_neg (by omega)]
    intro _
    rw [hz] at h0 ⊢
    have:=Zmv h0
    rw [Zui this]
    exact this.2
   have hrhs:aftG cs a tries 1 g 1 m t=aftN cs a tries 1 g (Zbb cs 1 m).1 (addN a t (Zbb cs 1 m)):=by
    unfold aftG
    rw [if_neg (by omega)]
   have htr:(addN a t (Zbb cs 1 m)).tries=t.tries+1:=by rw [Zel,hd1]
   rw [hrhs]
   by_cases hn:n=0
   ·subst hn
    have e:Zbb cs (0+1) m=Zbb cs 1 m:=rfl
    unfold aftG
    rw [e,if_neg (by omega)]
    exact go _ _ (hI.step hcl) (by omega) (Or.inl h0)
   ·have hadd:addN a t (Zbb cs (n+1) m)=addN a (addN a t (Zbb cs 1 m)) (Zbb cs n (Zbb cs 1 m).1):=by
     have e0:addN a t (Zbb cs 1 m)=⟨t.ans,t.wts,t.tries+1,0⟩:=by
      unfold addN
      rw [if_neg (by omega),hd1,h0]
     rw [hsp,e0]
     unfold addN
     simp only
     rw [show t.tries+((Zbb cs n (Zbb cs 1 m).1).2+1)=t.tries+1+(Zbb cs n (Zbb cs 1 m).1).2 by omega]
    have hGG:aftG cs a tries size f (n+1) m t=aftG cs a tries size f n (Zbb cs 1 m).1 (addN a t (Zbb cs 1 m)):=by
     unfold aftG
     rw [hadd,hsp]
    rw [hGG]
    exact ih (tries - (addN a t (Zbb cs 1 m)).tries) (by omega) _ _ n f g (hI.step hcl) rfl (Or.inl h0) (by omega) (by omega) (by omega) (by omega)
  ·rw [if_neg h0] at hsp
   unfold aftG
   rw [hsp]
   by_cases h23:(Zbb cs 1 m).1.status=2∨(Zbb cs 1 m).1.status=3
   ·rw [if_pos h23,if_pos h23]
   ·rw [if_neg h23,if_neg h23]
    have h01:(Zbb cs 1 m).1.status=1:=by
     have hk:(Zbb cs 1 m).1.status≤3:=(hI.step hcl).st
     omega
    exact go _ _ (hI.step hcl) (by rw [Zel]; have:=hsm (Or.inr h01); omega) (Or.inr h01)
theorem Zvv {cs:List Cls} {a:List (List Sym) × Names} {tries size:Nat} (hcl:cs.length≤24) (hs:0<size) {m:SN} {t:Tr} (hI:InvN cs a m) (hm:m.status=0∨m.status=1) {f f':Nat} (hf:tries - t.tries<f) (hf':tries - t.tries<f'):aftN cs a tries size f m t=aftN cs a tries 1 f' m t:=by
 obtain ⟨k,rfl⟩:∃ k,f=k+1:=⟨f - 1,by omega⟩
 by_cases hl:t.tries<tries
 ·have:aftN cs a tries size (k+1) m t=aftG cs a tries size k (Zdk size (tries - t.tries)) m t:=by
   rw [aftN,if_pos hl]
   rfl
  rw [this]
  exact Yex hcl hs _ m t _ k f' hI rfl hm (by unfold Zdk; split <;> omega) (by unfold Zdk; split <;> omega) (by omega) hf'
 ·obtain ⟨g,rfl⟩:∃ g,f'=g+1:=⟨f' - 1,by omega⟩
  rw [aftN,if_neg hl,aftN,if_neg hl]
theorem Yey {cs:List Cls} {a:List (List Sym) × Names} {tries size:Nat}:∀ {f:Nat} {m:SN} {t:Tr},t.tries≤(aftN cs a tries size f m t).2.tries:=by
 intro f
 induction f with
 | zero=>intro m t; exact Qe _
 | succ f ih =>
  intro m t
  rw [aftN]
  split
  ·split
   ·simp only; rw [Zel]; omega
   ·have:=ih (m:=(Zbb cs (Zdk size (tries - t.tries)) m).1) (t:=addN a t (Zbb cs (Zdk size (tries - t.tries)) m))
    rw [Zel] at this
    omega
  ·exact Qe _
theorem Yez {cs:List Cls} {a:List (List Sym) × Names} (h:a.1≠[]) (hc:cs≠[]):(newN cs a).way≠[]:=by
 have hl:0<cs.length:=List.length_pos_iff.2 hc
 unfold newN Zdb Zcd
 rw [if_neg (Zfi h)]
 simp only [Zdr]
 rw [if_neg (by omega)]
 simp
theorem Zyo {cs:List Cls} {a:List (List Sym) × Names} (h:a.1≠[]):(newN cs a).tries=0:=by
 unfold newN Zdb Zcd
 rw [if_neg (Zfi h)]
theorem Yfa {cs:List Cls} {a:List (List Sym) × Names} {tries:Nat} (h:a.1≠[]) (hc:cs≠[]) (ht:0<tries) {f:Nat} (hf:0<f) (h0:(newN cs a).status=0):0<(aftN cs a tries 1 f (newN cs a) ⟨[],[],0,0⟩).2.tries:=by
 obtain ⟨k,rfl⟩:∃ k,f=k+1:=⟨f - 1,by omega⟩
 have hz:({ newN cs a with status:=0 }:SN)=newN cs a:=by
  cases hm:newN cs a
  rw [hm] at h0
  simp only at h0
  subst h0
  rfl
 have hs:(Zbb cs 1 (newN cs a)).2=1:=by
  unfold Zbb
  rw [if_neg (by omega),hz]
  simp only [Zbz]
  rw [if_pos ⟨h0,Yez h hc,by rw [Zyo h]; omega⟩]
 rw [aftN,if_pos ht,Zoh (by simpa using ht)]
 split
 ·simp only; rw [Zel,hs]; omega
 ·have:=Yey (cs:=cs) (a:=a) (tries:=tries) (size:=1) (f:=k) (m:=(Zbb cs 1 (newN cs a)).1) (t:=addN a ⟨[],[],0,0⟩ (Zbb cs 1 (newN cs a)))
  rw [Zel,hs] at this
  omega
theorem Yfb {c:UInt8} (h:c=40∨c=41∨c=44∨c=46):spB c=[10,c,32]:=by
 rcases h with rfl | rfl | rfl | rfl <;> decide +kernel
theorem Yhd {c:UInt8} (h:c=88∨c=89∨c=90):spB c=[c,49]:=by
 rcases h with rfl | rfl | rfl <;> decide +kernel
theorem Zyp (c:UInt8):(c=40∨c=41∨c=44∨c=46)∨c=58∨c=45∨(c=88∨c=89∨c=90)∨(((c.toNat:Int) == 40)=false∧((c.toNat:Int) == 41)=false∧((c.toNat:Int) == 44)=false∧((c.toNat:Int) == 46)=false∧((c.toNat:Int) == 58)=false∧((c.toNat:Int) == 45)=false∧(c.toNat<88∨90<c.toNat)∧spB c=[c]):=by
 have h:=Zdc (p:=fun c=>decide ((c=40∨c=41∨c=44∨c=46)∨c=58∨c=45∨(c=88∨c=89∨c=90)∨(((c.toNat:Int) == 40)=false∧((c.toNat:Int) == 41)=false∧((c.toNat:Int) == 44)=false∧((c.toNat:Int) == 46)=false∧((c.toNat:Int) == 58)=false∧((c.toNat:Int) == 45)=false∧(c.toNat<88∨90<c.toNat)∧spB c=[c]))) (by decide +kernel) c
 simpa only [decide_eq_true_eq] using h
theorem Yhe {s:ByteArray} {k:Nat} (h:k<s.size) {c:UInt8} (hc:s[k]=c):s.extract k (k+1)=⟨[c].toArray⟩:=by
 subst hc
 rw [Lib.extract_eq]
 have hl:k<s.data.toList.length:=by simpa using h
 have e:(s.data.toList.drop k).take (k+1 - k)=[s[k]]:=by
  rw [List.drop_eq_getElem_cons hl,show k+1 - k=1 by omega]
  rfl
 first
  | (rw [e])
  | (congr 1; apply Array.ext'; simpa using e)
  | simp [e]
theorem Zvw {s:ByteArray} {k:Nat} (h:k<s.size) {c:UInt8} (hc:s[k]=c):s.data.toList.take (k+1)=s.data.toList.take k++[c]:=by
 subst hc
 have hl:k<s.data.toList.length:=by simpa using h
 rw [List.take_add_one,Qb hl]
 rfl
theorem Zoi (s:ByteArray) (w:World) (hs:s.size≤1000):Calls Tryd.prog 8 #[.string s] w fun e w'=>e = .returned (.string ⟨(spT s.data.toList).toArray⟩)∧Ext w w':=by
 go_enter Tryd.func8,Tryd.ntmps8
 go_wp2
 go_loopw [3,4] (fun sv i u=>∃ (k:Nat) (J:List UInt8),k≤s.size∧i = .int .i64 k∧sv = .string ⟨J.toArray⟩∧J=spT (s.data.toList.take k)∧J.length≤1+3 * k∧Ext w u) (fun _ i _=>s.size - (intOf i).toNat)
 case atStart=>exact ⟨0,[32],Qm _,rfl,rfl,rfl,by simp,Below.refl _ _⟩
 case round =>
  obtain ⟨k,J,hk,rfl,rfl,hJ,hjl,hEu⟩:=hrel
  have HJ:=Zac hJ
  have HEu:=Zac hEu
  clear hJ hEu
  by_cases hlt:k<s.size
  ·obtain ⟨c,hc⟩:∃ c,s[k]=c:=⟨_,rfl⟩
   have hcut:=Yhe hlt hc
   have Hs:Hid (∀ X:List UInt8,X=spB c→J++X=spT (s.data.toList.take (k+1))):=fun X hX=>by
    rw [HJ.out,hX,Zvw hlt hc]
    simp [spT]
   have Hmore:Hid (∀ X:List UInt8,X=spB c→X.length≤3→(J++X).length≤1+3 * (k+1)):=fun X _ hX=>by
    rw [Qg]
    omega
   rcases Zyp c with h | h | h | h | ⟨h1,h2,h3,h4,h5,h6,h7,h8⟩
   ·have Hq:Hid ((⟨J.toArray⟩:ByteArray)++⟨#[10]⟩++⟨[c].toArray⟩++⟨#[32]⟩=⟨(J++[10,c,32]).toArray⟩):=by
     show (⟨J.toArray⟩:ByteArray)++⟨[10].toArray⟩++⟨[c].toArray⟩++⟨[32].toArray⟩=_
     rw [Zaw,Zaw,Zaw]
     simp
    have Hx:=Zac (Yfb h)
    rcases h with rfl | rfl | rfl | rfl
    all_goals
     go_wp2
     go_roundw
     case rel=>exact ⟨k+1,_,by omega,by go_num,congrArg Value.string Hq.out,Hs.out _ Hx.out.symm,Hmore.out _ Hx.out.symm (by simp),HEu.out⟩
     case measure=>simp [intOf]; omega
   ·have Hq:Hid ((⟨J.toArray⟩:ByteArray)++⟨#[10]⟩++⟨[c].toArray⟩=⟨(J++[10,c]).toArray⟩):=by
     show (⟨J.toArray⟩:ByteArray)++⟨[10].toArray⟩++⟨[c].toArray⟩=_
     rw [Zaw,Zaw]
     simp
    subst h
    have Hx:Hid (spB 58=[10,58]):=by show _=_; decide +kernel
    go_wp2
    go_roundw
    case rel=>exact ⟨k+1,_,by omega,by go_num,congrArg Value.string Hq.out,Hs.out _ Hx.out.symm,Hmore.out _ Hx.out.symm (by simp),HEu.out⟩
    case measure=>simp [intOf]; omega
   ·have Hq:Hid ((⟨J.toArray⟩:ByteArray)++⟨[c].toArray⟩++⟨#[32]⟩=⟨(J++[c,32]).toArray⟩):=by
     show (⟨J.toArray⟩:ByteArray)++⟨[c].toArray⟩++⟨[32].toArray⟩=_
     rw [Zaw,Zaw]
     simp
    subst h
    have Hx:Hid (spB 45=[45,32]):=by show _=_; decide +kernel
    go_wp2
    go_roundw
    case rel=>exact ⟨k+1,_,by omega,by go_num,congrArg Value.string Hq.out,Hs.out _ Hx.out.symm,Hmore.out _ Hx.out.symm (by simp),HEu.out⟩
    case measure=>simp [intOf]; omega
   ·have Hq:Hid ((⟨J.toArray⟩:ByteArray)++⟨[c].toArray⟩++⟨#[49]⟩=⟨(J++[c,49]).toArray⟩):=by
     show (⟨J.toArray⟩:ByteArray)++⟨[c].toArray⟩++⟨[49].toArray⟩=_
     rw [Zaw,Zaw]
     simp
    have Hx:=Zac (Yhd h)
    rcases h with rfl | rfl | rfl
    all_goals
     go_wp2
     go_roundw
     case rel=>exact ⟨k+1,_,by omega,by go_num,congrArg Value.string Hq.out,Hs.out _ Hx.out.symm,Hmore.out _ Hx.out.symm (by simp),HEu.out⟩
     case measure=>simp [intOf]; omega
   ·have Hq:Hid ((⟨J.toArray⟩:ByteArray)++⟨[c].toArray⟩=⟨(J++[c]).toArray⟩):=Zaw _ _
    have Hx:=Zac h8
    rcases h7 with h7 | h7
    ·have h9:¬ ((88:Int)≤(c.toNat:Int)):=by omega
     have h10:decide ((88:Int)≤(c.toNat:Int))=false:=by simpa using h9
     clear h8
     go_wp2
     go_roundw
     case rel=>exact ⟨k+1,_,by omega,by go_num,congrArg Value.string Hq.out,Hs.out _ Hx.out.symm,Hmore.out _ Hx.out.symm (by simp),HEu.out⟩
     case measure=>simp [intOf]; omega
    ·have h9:¬ ((c.toNat:Int)≤90):=by omega
     have h10:decide ((c.toNat:Int)≤90)=false:=by simpa using h9
     have h11:((88:Int)≤(c.toNat:Int)):=by omega
     have h12:decide ((88:Int)≤(c.toNat:Int))=true:=by simpa using h11
     clear h8
     go_wp2
     go_roundw
     case rel=>exact ⟨k+1,_,by omega,by go_num,congrArg Value.string Hq.out,Hs.out _ Hx.out.symm,Hmore.out _ Hx.out.symm (by simp),HEu.out⟩
     case measure=>simp [intOf]; omega
  ·obtain rfl:k=s.size:=by omega
   have Hs:Hid (J=spT s.data.toList):=by
    show _=_
    rw [HJ.out,List.take_of_length_le (by simp)]
   go_wp2
   go_ret
   exact ⟨by rw [← Hs.out]; rfl,HEu.out⟩
structure TrL (w:World) (bt:Nat) (T:Tr) (tree:List UInt8) (aa:Option Addr) (ac:Nat) (wa:Option Addr) (wc:Nat):Prop where
 box:w.heap[bt]?=some (.cells #[.slice aa T.ans.length ac,.slice wa T.wts.length wc,.int .i64 T.tries,.int .i64 T.status,.string ⟨tree.toArray⟩] 41 (0,0))
 ans:w.ownsRow 0 9 1 (.slice aa T.ans.length ac) T.ans.length (strs T.ans)
 wts:w.ownsRow 0 9 1 (.slice wa T.wts.length wc) T.wts.length (strs T.wts)
theorem TrL.ext {w w':World} {bt:Nat} {T:Tr} {tree:List UInt8} {aa:Option Addr} {ac:Nat} {wa:Option Addr} {wc:Nat} (h:TrL w bt T tree aa ac wa wc) (e:Ext w w'):TrL w' bt T tree aa ac wa wc :=
 ⟨(e.block _ (Zab h.box)).trans h.box,Zak h.ans (fun k hk=>e.block k (h.ans.lt k hk).2),Zak h.wts (fun k hk=>e.block k (h.wts.lt k hk).2)⟩
theorem TrL.keep {w w':World} {bt b:Nat} {x:CX} {cs:List Cls} {a:List (List Sym) × Names} {m:SN} {T:Tr} {tree:List UInt8} {aa:Option Addr} {ac:Nat} {wa:Option Addr} {wc:Nat} (h:TrL w bt T tree aa ac wa wc) (hC:CSr w b x cs a m) (hk:Kept (ownS b x) w w'):TrL w' bt T tree aa ac wa wc :=
 ⟨(hk.block bt (Zab h.box) (hC.not h.box (by decide) (by decide))).trans h.box,hC.offS.own (by simp [Zcm]) hk h.ans,hC.offS.own (by simp [Zcm]) hk h.wts⟩
theorem Yhf {w:World} {b:Nat} {x:CX} {cs:List Cls} {a:List (List Sym) × Names} {m:SN} (h:CSr w b x cs a m) {k:Nat} (hk:ownS b x k):k<w.heap.size:=by
 obtain ⟨cl,t,fr,h1,_⟩:=h.offS k hk
 exact Zab h1
theorem Yco {cs:List Cls} {a:List (List Sym) × Names} {tries size:Nat} (hcl:cs.length≤24) (hs:0<size):∀ {f:Nat} {m:SN} {t:Tr},InvN cs a m→(m.status=0∨m.status=1)→t.ans.length≤t.tries→t.wts.length≤t.tries→t.tries≤tries→(aftN cs a tries size f m t).2.ans.length≤tries∧(aftN cs a tries size f m t).2.wts.length≤tries∧(aftN cs a tries size f m t).2.tries≤tries:=by
 intro f
 induction f with
 | zero=>intro m t _ _ h1 h2 h3; exact ⟨Qq h1 h3,Qq h2 h3,h3⟩
 | succ f ih =>
  intro m t hI hm h1 h2 h3
  rw [aftN]
  split
  ·rename_i hlt
   obtain ⟨N,hN⟩:∃ N,N=Zdk size (tries - t.tries):=⟨_,rfl⟩
   have hN0:1≤N∧N≤tries - t.tries:=by rw [hN]; unfold Zdk; split <;> omega
   rw [← hN]
   have hle:=Zpk (cs:=cs) (n:=N) (s:=m)
   have hsm:=Zkc (cs:=cs) (n:=N) (s:=m) (by omega) (by omega)
   have hst:=(hI.step hcl (n:=N)).st
   have hadd:(addN a t (Zbb cs N m)).ans.length≤(addN a t (Zbb cs N m)).tries∧(addN a t (Zbb cs N m)).wts.length≤(addN a t (Zbb cs N m)).tries∧(addN a t (Zbb cs N m)).tries≤tries:=by
    rw [Zel]
    unfold addN
    split
    ·rename_i h0
     have:=hsm (Or.inr h0)
     simp only [Qg,Qn]
     omega
    ·simp only
     omega
   split
   ·simp only
    omega
   ·rename_i h23
    exact ih (hI.step hcl) (by omega) hadd.1 hadd.2.1 hadd.2.2
  ·exact ⟨Qq h1 h3,Qq h2 h3,h3⟩
theorem Zjt (l:List UInt8):(⟨l.toArray⟩:ByteArray).size=l.length:=by simp [ByteArray.size]
set_option maxHeartbeats 8000000 in
theorem Yfc (w:World) (ra:Option Addr) (rl rc:Nat) (hlen:rl≤9223372036854775807) (hraw:∀ i,i<rl→∃ (k off:Nat) (c:Int),ra=some ⟨k,off,none⟩∧k<w.heap.size∧w.cell? ⟨k,off+i,none⟩=some (.int .i64 c) ∧ -9223372036854775808≤c∧c<9223372036854775808) :
  Calls Tryd.prog 3 #[.slice ra rl rc] w fun e w'=>e = .returned (.bool true)∧Ext w w':=by
 have hE0:Ext w (w.alloc (.cells #[.slice ra rl rc,.int .i64 0] 25)):=(Ext.of (by repeat' (first | with_reducible(first|exact Qx _ _|apply Kept.drew|apply Kept.drewN|apply Qz|refine Qy ?_ ?_ _)|exact fun h=>absurd h (by simp <;> omega))))
 have HR:Hid (RawIn (w.alloc (.cells #[.slice ra rl rc,.int .i64 0] 25)) w.heap.size w.heap.size ra rl rc):=⟨0,Qe _,heap_alloc_new w _,Qm _,hlen,fun i hi=>by
  obtain ⟨k,off,c,h1,h2,h3,h4⟩:=hraw i hi
  exact ⟨k,off,c,h1,h2,(hE0.cell (p:=⟨k,off+i,none⟩) h2).trans h3,h4⟩⟩
 have HA:=Zac (Zpq _ w.heap.size w.heap.size ra rl rc HR.out)
 have HE0:=Zac hE0
 clear hraw hE0 hlen
 go_enter Tryd.func3,Tryd.ntmps3
 go_wp2_with fail
 refine HA.out.mono ?_
 rintro e w1 ⟨a1,c1,R,xs,hR1,hR8,rfl,hrls,hK1,hRw1⟩
 have HF:=Zac (Ydw w1 w.heap.size w.heap.size ra rl rc hRw1)
 have HE1:Hid (Ext w w1):=HE0.out.trans (hK1.below (by simp) (fun k e=>by have e:k=w.heap.size:=e; omega))
 have Hrls:=Zac hrls
 clear hK1 hRw1 HA hrls HR HE0
 go_wp2_with fail
 refine HF.out.mono ?_
 rintro e w2 ⟨a2,c2,l,hl1,hl2,rfl,hat,hge2,hK2,hRw2⟩
 have HE2:Hid (Ext w w2):=HE1.out.trans (hK2.below HE1.out.size (fun k e=>by have e:k=w.heap.size:=e; omega))
 have hrls2:=Hrls.out.keep (u':=w2) (fun k h1 h2=>hK2.block k h2 (fun e=>by have e:k=w.heap.size:=e; simp at h1; omega))
 have HRt:=Zac (Zpn w2 a1 c1 R xs hrls2.rules (by omega))
 have Hat:Hid (∀ u,Ext w2 u→AtomsIn u (.slice a2 l.length c2) l):=fun u hu=>hat.ext hu
 obtain ⟨cs,ds,A,e0,e1,hal,hcl,r0,r1,r2,hcnt,hAl⟩:=Yeb R hrls2.ok hR8
 obtain ⟨aq,U,f0,g0,g1,hql,hul⟩:=Ygi l hat.ok hl1 hl2
 obtain ⟨SP,hSP⟩:∃ SP:ByteArray,SP=⟨(Zcl (R.map rlG)).toArray⟩:=⟨_,rfl⟩
 obtain ⟨SQ,hSQ⟩:∃ SQ:ByteArray,SQ=⟨(Zec (l.map atG)++[46]).toArray⟩:=⟨_,rfl⟩
 obtain ⟨SW,hSW⟩:∃ SW:ByteArray,SW=⟨(spT (Zcl (R.map rlG))).toArray⟩:=⟨_,rfl⟩
 obtain ⟨SB,hSB⟩:∃ SB:ByteArray,SB=⟨(spT (Zec (l.map atG)++[46])).toArray⟩:=⟨_,rfl⟩
 obtain ⟨SA,hSA⟩:∃ SA:ByteArray,SA=⟨A.toArray⟩:=⟨_,rfl⟩
 obtain ⟨SU,hSU⟩:∃ SU:ByteArray,SU=⟨U.toArray⟩:=⟨_,rfl⟩
 have sP:SP.size≤800:=by
  obtain ⟨h,_⟩:=Zdu e0
  rw [hSP]; exact h
 have sW:SW.size≤800:=by
  obtain ⟨h,_⟩:=Zdu e1
  rw [hSW]; exact h
 have sQ:SQ.size≤120:=by
  obtain ⟨h,_⟩:=Zfh f0
  rw [hSQ]; exact h
 have sU:SQ.size≤SU.size∧SU.size≤120:=by
  rw [hSQ,hSU,Zjt,Zjt]
  exact ⟨hql,hul⟩
 have sA:SA.size≤800:=by rw [hSA,Zjt]; exact hAl
 have sB:SB.size≤1000:=by
  rw [hSB,Zjt]
  have h1:=Zha spB 3 (Zec (l.map atG)++[46]) (fun c _=>Ztv c)
  have h2:(Zec (l.map atG)++[46]).length≤120:=by rw [hSQ,Zjt] at sQ; exact sQ
  simp only [spT,Qf]
  omega
 have hcnt2:SA.data.toList.count 10=R.length:=by rw [hSA]; exact hcnt
 have HLt:Hid (∀ u,Ext w2 u→Calls Tryd.prog 7 #[.slice a2 l.length c2] u fun e w'=>e = .returned (.string SQ)∧Ext u w'):=fun u hu=>by rw [hSQ]; exact Zks u a2 c2 l (hat.ext hu) (by omega)
 have HS1:Hid (∀ u,Calls Tryd.prog 8 #[.string SP] u fun e w'=>e = .returned (.string SW)∧Ext u w'):=fun u=>by
  have:=Zoi SP u (by omega)
  rw [hSW]
  rw [show SP.data.toList=Zcl (R.map rlG) by rw [hSP]] at this
  exact this
 have HS2:Hid (∀ u,Calls Tryd.prog 8 #[.string SQ] u fun e w'=>e = .returned (.string SB)∧Ext u w'):=fun u=>by
  have:=Zoi SQ u (by omega)
  rw [hSB]
  rw [show SQ.data.toList=Zec (l.map atG)++[46] by rw [hSQ]] at this
  exact this
 have HP1:Hid (∀ u,Calls Tryd.prog 9 #[.string SP] u fun e w'=>e = .returned (.tuple #[.string SA,.int .i64 0,.int .i64 0])∧Ext u w'):=fun u=>by
  have:=Zhs SP u (by simp only [maxLen]; omega)
  rw [hSP,r0,← hSP,← hSA] at this
  exact this
 have HP2:Hid (∀ u,Calls Tryd.prog 9 #[.string SW] u fun e w'=>e = .returned (.tuple #[.string SA,.int .i64 0,.int .i64 0])∧Ext u w'):=fun u=>by
  have:=Zhs SW u (by simp only [maxLen]; omega)
  rw [hSW,r1,← hSW,← hSA] at this
  exact this
 have HP3:Hid (∀ u,Calls Tryd.prog 9 #[.string SA] u fun e w'=>e = .returned (.tuple #[.string SA,.int .i64 0,.int .i64 0])∧Ext u w'):=fun u=>by
  have:=Zhs SA u (by simp only [maxLen]; omega)
  rw [hSA,r2,← hSA] at this
  exact this
 have HQ1:Hid (∀ u,Calls Tryd.prog 10 #[.string SQ] u fun e w'=>e = .returned (.tuple #[.string SU,.int .i64 0,.int .i64 0])∧Ext u w'):=fun u=>by
  have:=Znx SQ u (by simp only [maxLen]; omega)
  rw [hSQ,g0,← hSQ,← hSU] at this
  exact this
 have HQ2:Hid (∀ u,Calls Tryd.prog 10 #[.string SB] u fun e w'=>e = .returned (.tuple #[.string SU,.int .i64 0,.int .i64 0])∧Ext u w'):=fun u=>by
  have:=Znx SB u (by simp only [maxLen]; omega)
  rw [hSB,g1,← hSB,← hSU] at this
  exact this
 have HN1:=Zac (fun u=>Zvt SP SQ u (by simp only [maxLen]; omega) (by simp only [maxLen]; omega))
 have HN2:=Zac (fun u=>Zvt SW SQ u (by simp only [maxLen]; omega) (by simp only [maxLen]; omega))
 have He0:Hid (Zcp SP=some cs):=by rw [hSP]; exact e0
 have He1:Hid (Zcp SW=some ds):=by rw [hSW]; exact e1
 have Hf0:Hid (Zeb SQ=some aq):=by rw [hSQ]; exact f0
 have Hcl:=Zac hcl
 have Hal:=Zac hal
 have Hcnt:=Zac hcnt2
 rw [← hSP] at HRt
 clear hK2 hRw2 HF hat hge2 hrls2 Hrls hSP hSQ hSW hSB hSA hSU e0 e1 f0 r0 r1 r2 g0 g1 hcnt hcnt2 hql hul hAl hal hcl
 go_wp2_with fail
 refine HRt.out.mono ?_
 rintro e w3 ⟨rfl,hE3⟩
 have HL3:=Zac (HLt.out w3 hE3)
 have HE3:Hid (Ext w w3):=HE2.out.trans (hE3.mono HE2.out.size)
 clear hE3 HRt
 go_wp2_with fail
 refine HL3.out.mono ?_
 rintro e w4 ⟨rfl,hE4⟩
 have HE4:Hid (Ext w w4):=HE3.out.trans (hE4.mono HE3.out.size)
 clear hE4 HL3
 go_wp2_with fail
 refine (HS1.out _).mono ?_
 rintro e w5 ⟨rfl,hE5⟩
 have HE5:Hid (Ext w w5):=HE4.out.trans (hE5.mono HE4.out.size)
 clear hE5
 go_wp2_with fail
 refine (HS2.out _).mono ?_
 rintro e w6 ⟨rfl,hE6⟩
 have HE6:Hid (Ext w w6):=HE5.out.trans (hE6.mono HE5.out.size)
 clear hE6
 go_wp2_with fail
 refine (HP1.out _).mono ?_
 rintro e w7 ⟨rfl,hE7⟩
 have HE7:Hid (Ext w w7):=HE6.out.trans (hE7.mono HE6.out.size)
 clear hE7
 go_wp2_with fail
 refine (HP2.out _).mono ?_
 rintro e w8 ⟨rfl,hE8⟩
 have HE8:Hid (Ext w w8):=HE7.out.trans (hE8.mono HE7.out.size)
 clear hE8
 go_wp2_with fail
 refine (HP3.out _).mono ?_
 rintro e w9 ⟨rfl,hE9⟩
 have HE9:Hid (Ext w w9):=HE8.out.trans (hE9.mono HE8.out.size)
 clear hE9 HP1 HP2 HP3 HS1 HS2 HLt HE1 HE2 HE3 HE4 HE5 HE6 HE7 HE8
 go_wp2
 go_loopw [19,20] (fun ln i u=>∃ (k c:Nat),k≤SA.size∧c=(SA.data.toList.take k).count 10∧c≤k∧i = .int .i64 k∧ln = .int .i64 c∧Ext w u) (fun _ i _=>SA.size - (intOf i).toNat)
 case atStart=>exact ⟨0,0,Qm _,rfl,Qe _,rfl,rfl,HE9.out⟩
 case round =>
  obtain ⟨k,c,hk,hc,hck,rfl,rfl,hEu⟩:=hrel
  have HEu:=Zac hEu
  have Hc:=Zac hc
  clear hEu hc
  by_cases hlt:k<SA.size
  ·obtain ⟨z,hz⟩:∃ z,SA[k]=z:=⟨_,rfl⟩
   have Ht:=Zac (Zvw hlt hz)
   by_cases h10:z=10
   ·subst h10
    go_wp2
    go_roundw
    case rel =>
     refine ⟨k+1,c+1,by omega,?_,by omega,by go_num,by go_num,HEu.out⟩
     rw [Ht.out,List.count_append,← Hc.out]
     rfl
    case measure=>simp [intOf]; omega
   ·have h10':((z.toNat:Int) == 10)=false:=by
     rw [Qu]
     intro e
     apply h10
     apply UInt8.toNat_inj.1
     have:z.toNat=10:=by omega
     rw [this]
     rfl
    go_wp2
    go_roundw
    case rel =>
     refine ⟨k+1,c,by omega,?_,by omega,by go_num,rfl,HEu.out⟩
     rw [Ht.out,List.count_append,← Hc.out]
     have:([z]:List UInt8).count 10=0:=by simp [List.count_cons,h10]
     omega
    case measure=>simp [intOf]; omega
  ·obtain rfl:k=SA.size:=by omega
   have hcR:c=R.length:=by
    rw [Hc.out,List.take_of_length_le (by simp)]
    exact Hcnt.out
   subst hcR
   clear Hc
   go_wp2_with fail
   refine (HQ1.out _).mono ?_
   rintro e v1 ⟨rfl,hF1⟩
   have HF1:Hid (Ext w v1):=HEu.out.trans (hF1.mono HEu.out.size)
   clear hF1
   go_wp2_with fail
   refine (HQ2.out _).mono ?_
   rintro e v2 ⟨rfl,hF2⟩
   have HF2:Hid (Ext w v2):=HF1.out.trans (hF2.mono HF1.out.size)
   clear hF2
   go_wp2_with fail
   refine (HN1.out _).mono ?_
   rintro e v3 ⟨hF3,⟨h1,_⟩ | ⟨_,h1,_⟩ | ⟨cs',a',b1,x1,h1,h2,rfl,hge1,hC1⟩⟩
   ·rw [He0.out] at h1; simp at h1
   ·rw [Hf0.out] at h1; simp at h1
   obtain rfl:cs'=cs:=by rw [He0.out] at h1; exact (Option.some.inj h1).symm
   obtain rfl:a'=aq:=by rw [Hf0.out] at h2; exact (Option.some.inj h2).symm
   have HF3:Hid (Ext w v3):=HF2.out.trans (hF3.mono HF2.out.size)
   have Hge1:Hid (∀ j,ownS b1 x1 j→w.heap.size≤j):=fun j hj=>Qq HF2.out.size (hge1 j hj)
   have HC1:=Zac hC1
   clear h1 h2 hF3 hge1 hC1
   go_wp2_with fail
   refine (HN2.out _).mono ?_
   rintro e v4 ⟨hF4,⟨h1,_⟩ | ⟨_,h1,_⟩ | ⟨ds',a'',b2,x2,h1,h2,rfl,hge2,hC2⟩⟩
   ·rw [He1.out] at h1; simp at h1
   ·rw [Hf0.out] at h1; simp at h1
   obtain rfl:ds'=ds:=by rw [He1.out] at h1; exact (Option.some.inj h1).symm
   obtain rfl:a''=a':=by rw [Hf0.out] at h2; exact (Option.some.inj h2).symm
   have hs34:=hF4.size
   have HF4:Hid (Ext w v4):=HF3.out.trans (hF4.mono HF3.out.size)
   have Hge2:Hid (∀ j,ownS b2 x2 j→v3.heap.size≤j):=hge2
   have HC1':=Zac (HC1.out.ext hF4)
   have HC2:=Zac hC2
   have Hlt1:Hid (∀ j,ownS b1 x1 j→j<v3.heap.size):=fun j hj=>Yhf HC1.out hj
   clear h1 h2 hF4 hge2 hC2
   obtain ⟨Rr,hRr⟩:∃ Rr,Rr=aftN cs' a'' 150 1 151 (newN cs' a'') ⟨[],[],0,0⟩:=⟨_,rfl⟩
   obtain ⟨_,_,_,hcs,hcl24⟩:=Zdu He0.out
   obtain ⟨_,_,_,hds,hdl24⟩:=Zdu He1.out
   obtain ⟨_,_,_,_,_,_,hane,_,_⟩:=Zfh Hf0.out
   have hI0:=InvN.new cs' hane
   have hI1:=InvN.new ds' hane
   have hs0:=Zmu cs' hane
   have hs1:=Zmu ds' hane
   have hF0:Zfa (newN cs' a''):=fun h=>by rw [hs0] at h; simp at h
   have hF1':Zfa (newN ds' a''):=fun h=>by rw [hs1] at h; simp at h
   have HAf1:Hid (∀ (u:World) (bb:Nat) (xx:CX),CSr u bb xx cs' a'' (newN cs' a'')→Calls Tryd.prog 12 #[.pointer (some ⟨bb,0,none⟩),.int .i64 150,.int .i64 150] u (Zmt u bb xx cs' a'' Rr)):=fun u bb xx hC=>by
    have:=Zsk u bb xx cs' _ a'' (newN cs' a'') 150 150 hC hI0 hF0 hs0 hcs (Zvs He0.out) (by omega) Hf0.out (by omega) (by omega) (by omega)
    rw [Zvv (f':=151) (by omega) (by omega) hI0 (Or.inl hs0) (by simp) (by simp),← hRr] at this
    exact this
   have HAf2:Hid (∀ (u:World) (bb:Nat) (xx:CX),CSr u bb xx ds' a'' (newN ds' a'')→Calls Tryd.prog 12 #[.pointer (some ⟨bb,0,none⟩),.int .i64 150,.int .i64 150] u (Zmt u bb xx ds' a'' Rr)):=fun u bb xx hC=>by
    have:=Zsk u bb xx ds' _ a'' (newN ds' a'') 150 150 hC hI1 hF1' hs1 hds (Zvs He1.out) (by omega) Hf0.out (by omega) (by omega) (by omega)
    rw [Zvv (f':=151) (by omega) (by omega) hI1 (Or.inl hs1) (by simp) (by simp),← Zxo Hal.out,← Zxn Hal.out,← hRr] at this
    exact this
   obtain ⟨hsm1,hsm2,hsm3⟩:=Yco (cs:=cs') (a:=a'') (tries:=150) (size:=1) (f:=151) (m:=newN cs' a'') (t:=⟨[],[],0,0⟩) (by omega) (by omega) hI0 (Or.inl hs0) (by simp) (by simp) (by simp)
   have hne:cs'≠[]:=fun e=>by have:=Hcl.out; rw [e] at this; simp at this; omega
   have hpos:=Yfa (tries:=150) (f:=151) hane hne (by omega) (by omega) hs0
   rw [← hRr] at hsm1 hsm2 hsm3 hpos
   obtain ⟨R1,T⟩:=Rr
   simp only at hsm1 hsm2 hsm3 hpos
   obtain ⟨Q,hQ⟩:∃ Q,Q=(Zdh a'' R1.status R1.found R1.tree).2.2:=⟨_,rfl⟩
   unfold Zmt at HAf1 HAf2
   simp only [← hQ] at HAf1 HAf2
   clear hRr hI0 hI1 hs0 hs1 hF0 hF1' hQ hcs hds hane hne
   have HX1:=Zac (HAf1.out v4 b1 x1 HC1'.out)
   have hnl:¬ ((SU.size:Int)<(SQ.size:Int)):=by omega
   have hnl2:decide ((SU.size:Int)<(SQ.size:Int))=false:=by simpa using hnl
   go_wp2_with fail
   refine HX1.out.mono ?_
   rintro e w7 ⟨hK7,_,_,aa,ac,wa,wc,rfl,ha7,hw7⟩
   have hE7a:Ext w7 (w7.alloc (.cells #[.slice aa T.ans.length ac,.slice wa T.wts.length wc,.int .i64 T.tries,.int .i64 T.status,.string ⟨Q.toArray⟩] 41)):=(Ext.of (by repeat' (first | with_reducible(first|exact Qx _ _|apply Kept.drew|apply Kept.drewN|apply Qz|refine Qy ?_ ?_ _)|exact fun h=>absurd h (by simp <;> omega))))
   have HT1:Hid (TrL (w7.alloc (.cells #[.slice aa T.ans.length ac,.slice wa T.wts.length wc,.int .i64 T.tries,.int .i64 T.status,.string ⟨Q.toArray⟩] 41)) w7.heap.size T Q aa ac wa wc):=⟨heap_alloc_new w7 _,Zak (Zbd ha7 (Qm _)) (fun k hk=>hE7a.block k (ha7.lt k hk).2),Zak (Zbd hw7 (Qm _)) (fun k hk=>hE7a.block k (hw7.lt k hk).2)⟩
   have HC7:=Zac ((HC2.out.keep hK7 HC1'.out.offS (fun j hj hj1=>by have:=Hge2.out j hj; have:=Hlt1.out j hj1; omega)).ext hE7a)
   have HE7:Hid (Ext w (w7.alloc (.cells #[.slice aa T.ans.length ac,.slice wa T.wts.length wc,.int .i64 T.tries,.int .i64 T.status,.string ⟨Q.toArray⟩] 41))):=(HF4.out.trans (hK7.below HF4.out.size Hge1.out)).trans (hE7a.mono (Qq HF4.out.size hK7.size))
   have HX2:=Zac (HAf2.out _ b2 x2 HC7.out)
   have Hge2':Hid (∀ j,ownS b2 x2 j→w.heap.size≤j):=fun j hj=>Qq HF3.out.size (Hge2.out j hj)
   clear hK7 ha7 hw7 hE7a HX1 HC1 HC1' HC2 Hlt1
   go_wp2_with fail
   refine HX2.out.mono ?_
   rintro e w8 ⟨hK8,_,_,ba,bc,va,vc,rfl,ha8,hw8⟩
   obtain ⟨V,hV⟩:∃ V,V=w8.alloc (.cells #[.slice ba T.ans.length bc,.slice va T.wts.length vc,.int .i64 T.tries,.int .i64 T.status,.string ⟨Q.toArray⟩] 41):=⟨_,rfl⟩
   have hE8a:Ext w8 V:=by rw [hV]; exact (Ext.of (by repeat' (first | with_reducible(first|exact Qx _ _|apply Kept.drew|apply Kept.drewN|apply Qz|refine Qy ?_ ?_ _)|exact fun h=>absurd h (by simp <;> omega))))
   have hT2:TrL V w8.heap.size T Q ba bc va vc:=⟨by rw [hV]; exact heap_alloc_new w8 _,Zak (Zbd ha8 (Qm _)) (fun k hk=>hE8a.block k (ha8.lt k hk).2),Zak (Zbd hw8 (Qm _)) (fun k hk=>hE8a.block k (hw8.lt k hk).2)⟩
   have hT1:=(HT1.out.keep HC7.out hK8).ext hE8a
   have HEU:Hid (Ext w V):=(HE7.out.trans (hK8.below HE7.out.size Hge2'.out)).trans (hE8a.mono (Qq HE7.out.size hK8.size))
   have HT:Hid (∀ u,Ext V u→TrL u w7.heap.size T Q aa ac wa wc∧TrL u w8.heap.size T Q ba bc va vc):=fun u hu=>⟨hT1.ext hu,hT2.ext hu⟩
   have HSa:Hid (∀ u,Ext V u→Calls Tryd.prog 13 #[.slice aa T.ans.length ac,.slice ba T.ans.length bc] u fun e w'=>e = .returned (.bool true)∧Ext u w'):=fun u hu=>by
    have:=Zvu u 0 0 aa ac T.ans ba bc T.ans (hT1.ext hu).ans (hT2.ext hu).ans (by omega) (by omega)
    rw [decide_eq_true rfl] at this
    exact this
   have HSb:Hid (∀ u,Ext V u→Calls Tryd.prog 13 #[.slice wa T.wts.length wc,.slice va T.wts.length vc] u fun e w'=>e = .returned (.bool true)∧Ext u w'):=fun u hu=>by
    have:=Zvu u 0 0 wa wc T.wts va vc T.wts (hT1.ext hu).wts (hT2.ext hu).wts (by omega) (by omega)
    rw [decide_eq_true rfl] at this
    exact this
   have f1:=(HT1.out.keep HC7.out hK8).box
   have g10:=Zaa f1 0 _ rfl
   have hl1':=Zab f1
   have HV:=Zac hV
   clear hK8 ha8 hw8 hE8a HX2 HC7 HT1 Hge1 Hge2 Hge2' hT1 hT2 f1 hV
   go_wp2_with fail
   rw [← HV.out]
   refine (HSa.out V (Below.refl _ _)).mono ?_
   rintro e w11 ⟨rfl,hE11⟩
   obtain ⟨t1,t2⟩:=HT.out w11 hE11
   have p11:=Zaa t1.box 1 _ rfl
   have p21:=Zaa t2.box 1 _ rfl
   have m1:=Zab t1.box
   have m2:=Zab t2.box
   have HE11:=Zac hE11
   clear hE11 t1 t2 g10 hl1'
   go_wp2_with fail
   refine (HSb.out w11 HE11.out).mono ?_
   rintro e w12 ⟨rfl,hE12⟩
   have hE12':Ext V w12:=HE11.out.trans (hE12.mono HE11.out.size)
   obtain ⟨t1,t2⟩:=HT.out w12 hE12'
   have r12:=Zaa t1.box 2 _ rfl
   have r13:=Zaa t1.box 3 _ rfl
   have r14:=Zaa t1.box 4 _ rfl
   have r22:=Zaa t2.box 2 _ rfl
   have r23:=Zaa t2.box 3 _ rfl
   have r24:=Zaa t2.box 4 _ rfl
   have o1:=Zab t1.box
   have o2:=Zab t2.box
   have hposI:(0:Int)<(T.tries:Int):=by omega
   have HE12:Hid (Ext w w12):=HEU.out.trans (hE12'.mono HEU.out.size)
   clear hE12 hE12' t1 t2 p11 p21 m1 m2
   go_wp2
   go_ret
   exact ⟨rfl,HE12.out⟩
end Go.Proofs.YtlmjilpjmgjjcaaDoor
namespace Go.Proofs.YtlmjilpjmgjjcaaDoor
open Go.ChangeShapes Go.WideShapes Go.ChangeAt Go.WideMaps Go.WideElems Go.RowKit
theorem own_k:ownKnob Tryd.prog.godebug=none:=by kernel_rfl
theorem Ycp:laidOutB Tryd.prog=true:=by kernel_rfl
end Go.Proofs.YtlmjilpjmgjjcaaDoor
