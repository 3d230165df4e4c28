/-
  PROVED HERE: how a tree's text that is held lies in the program's memory; its methods 'pass' and 'leave' (the conditions stand in each statement).
-/
import Derived.Test.YtlmjilpjmgjjcaaGreatDoorT11
set_option linter.unusedSimpArgs false
set_option linter.unusedVariables false
set_option maxRecDepth 10000
set_option maxHeartbeats 4000000
namespace Go.Proofs.YtlmjilpjmgjjcaaGreatDoor
open Go.RowKit
def Zqb (w:World) (b:Nat) (x:CX) (cs:List Cls) (a:List (List Sym) × Names) (R:SN × Tr) (e:Ending) (w':World):Prop :=
 Kept (ownS b x) w w'∧(∃ x',CSr w' b x' cs a R.1∧Zhj w x x')∧InvN cs a R.1∧∃ aa ac wa wc,e = .returned (.tuple #[.agg #[.slice aa R.2.ans.length ac,.slice wa R.2.wts.length wc,.int .i64 R.2.tries,.int .i64 R.2.status,.string ⟨(Zcy a R.1.status R.1.found R.1.tree).2.2.toArray⟩],.bool true]) ∧
  w'.ownsRow w.heap.size 9 1 (.slice aa R.2.ans.length ac) R.2.ans.length (strs R.2.ans)∧w'.ownsRow w.heap.size 9 1 (.slice wa R.2.wts.length wc) R.2.wts.length (strs R.2.wts)
theorem AftAt.fin {w V wr Z:World} {b bt br:Nat} {x x1:CX} {cs:List Cls} {a:List (List Sym) × Names} {m:SN} {c0 c1:Value} {tr st:Nat} {av:Value} {A:List (List UInt8)} {wv:Value} {W:List (List UInt8)} {cl:Array Value} (h:AftAt V wr b bt x x1 cs a m c0 c1 tr st av A wv W) (hbr:wr.heap[br]?=some (.cells cl 49 (0,0))) (hw:w.heap.size≤br) (hEV:Ext w V) (hZ:Kept (fun k=>k=bt∨k=br) wr Z) :
  Kept (ownS b x) w Z∧(∃ x',CSr Z b x' cs a m∧Zhj w x x')∧InvN cs a m∧Z.ownsRow w.heap.size 9 1 av A.length (strs A)∧Z.ownsRow w.heap.size 9 1 wv W.length (strs W):=by
 have hs:=hEV.size
 have hS:OfTy (fun k=>k=bt∨k=br) wr 49:=fun k e=>by
  rcases e with rfl | rfl
  ·exact ⟨_,_,h.box⟩
  ·exact ⟨_,_,hbr⟩
 have hO:OffCode (fun k=>k=bt∨k=br) wr:=fun k e=>by
  obtain ⟨cl,fr,h1⟩:=hS k e
  exact ⟨_,_,_,h1,by simp [Zcm]⟩
 refine ⟨((Zui hEV).trans (h.kept)).then hZ (fun i hi e => ?_),⟨x1,h.sr.keep hZ hO (fun k hk e => ?_),fun k hk => ?_,h.new.2⟩,h.inv,Zbf (hS.row hZ h.ans (by decide)) hs,Zbf (hS.row hZ h.wts (by decide)) hs⟩
 ·have:=h.bt0
  omega
 ·obtain ⟨cl,fr,h1⟩:=hS k e
  exact h.sr.not h1 (by decide) (by decide) hk
 ·rcases h.new.1 k hk with h1 | h1
  ·exact Or.inl h1
  ·exact Or.inr (by omega)
theorem Zuj (w:World) (b:Nat) (x:CX) (cs:List Cls) (q:ByteArray) (a:List (List Sym) × Names) (m:SN) (tries size:Nat) (h:CSr w b x cs a m) (hI:InvN cs a m) (hF:Zgf m) (hm:m.status=0) (hcs:∀ c ∈ cs,COk c∧CNm c) (hcf:∀ c ∈ cs,CFew c) (hcl:cs.length≤24) (hask:Zep q=some a) (ht:tries≤3001) (hs:0<size) (hs2:size≤3000) :
  Calls Tryz.prog 33 #[.pointer (some ⟨b,0,none⟩),.int .i64 tries,.int .i64 size] w (Zqb w b x cs a (aftN cs a tries size (tries+1) m ⟨[],[],0,0⟩)):=by
 have hbl:=Zab h.box
 obtain ⟨V,hV⟩:∃ V,V=w.alloc (.cells #[.slice none 0 0,.slice none 0 0,.int .i64 0,.int .i64 0,.string ⟨#[]⟩] 49):=⟨_,rfl⟩
 have hEV:Ext w V:=by rw [hV]; exact (Ext.of (by repeat' (first | with_reducible(first|exact Qx _ _|apply Kept.drew|apply Kept.drewN|apply Qz|refine Qy ?_ ?_ _)|exact fun h=>absurd h (by simp <;> omega))))
 have hVs:V.heap.size=w.heap.size+1:=by rw [hV]; simp
 have hbr:V.heap[w.heap.size]?=some (.cells #[.slice none 0 0,.slice none 0 0,.int .i64 0,.int .i64 0,.string ⟨#[]⟩] 49 (0,0)):=by rw [hV]; exact heap_alloc_new w _
 have hCV:=h.ext hEV
 have H0:Hid (AftAt V (V.alloc (.cells #[.slice none 0 0,.slice none 0 0,.int .i64 0,.int .i64 0,.string ⟨#[]⟩] 49)) b (w.heap.size+1) x x cs a m (.slice none 0 0) (.slice none 0 0) 0 0 (.slice none 0 0) [] (.slice none 0 0) []) :=
  ⟨(Qx _ _).alloc _,⟨m,hCV⟩,hCV.ext (Ext.of (by repeat' (first | with_reducible(first|exact Qx _ _|apply Kept.drew|apply Kept.drewN|apply Qz|refine Qy ?_ ?_ _)|exact fun h=>absurd h (by simp <;> omega)))),⟨fun k hk=>Or.inl hk,rfl,rfl,rfl,rfl⟩,hI,hF,by omega,by rw [← hVs]; exact heap_alloc_new V _,World.ownsRow_nil _ _ _ _,World.ownsRow_nil _ _ _ _,fun k hk=>by simp [Zbo,Value.ownBlock] at hk⟩
 have Hbr:Hid (∀ u,Kept (ownS b x) V u→u.heap[w.heap.size]?=some (.cells #[.slice none 0 0,.slice none 0 0,.int .i64 0,.int .i64 0,.string ⟨#[]⟩] 49 (0,0))):=fun u hu=>(hu.block _ (Zab hbr) (hCV.not hbr (by decide) (by decide))).trans hbr
 have HV:=Zac hV
 have HEV:=Zac hEV
 have Hcs:=Zac hcs
 have Hcf:=Zac hcf
 have Hask:=Zac hask
 obtain ⟨R,hR⟩:∃ R,R=aftN cs a tries size (tries+1) m ⟨[],[],0,0⟩:=⟨_,rfl⟩
 have HR:=Zac hR
 rw [← hR]
 clear h hI hF hcs hcf hask hR hV hEV hbr hCV hVs
 go_enter Tryz.func33,Tryz.ntmps33
 go_wp2
 go_loopg [] (tries+1) (fun gk wr=>∃ (m':SN) (x':CX) (t:Tr) (aa:Option Addr) (ac:Nat) (wa:Option Addr) (wc:Nat),t.tries≤tries∧tries - t.tries<gk∧(m'.status=0∨m'.status=1)∧t.status=m'.status∧t.ans.length≤t.tries∧t.wts.length≤t.tries∧R=aftN cs a tries size gk m' t∧AftAt V wr b (w.heap.size+1) x x' cs a m' (.slice aa t.ans.length ac) (.slice wa t.wts.length wc) t.tries t.status (.slice aa t.ans.length ac) t.ans (.slice wa t.wts.length wc) t.wts)
 case atStart=>exact ⟨m,x,⟨[],[],0,0⟩,none,0,none,0,Qm _,by simp,Or.inl hm,hm.symm,by simp,by simp,HR.out,by rw [← HV.out]; exact H0.out⟩
 case round =>
  obtain ⟨m1,x1,⟨A,W,T,st⟩,aa,ac,wa,wc,hT,hgk,hst,hst2,hAl,hWl,hRe,hA⟩:=hrel
  simp only at hT hgk hst hst2 hAl hWl hA
  have c2:wr.cell? ⟨w.heap.size+1,2,none⟩=some (.int .i64 T):=Zaa hA.box 2 _ rfl
  have hbt:=Zab hA.box
  have HA:=Zac hA
  have HRe:=Zac hRe
  have Hst:=Zac hst2
  have hst1:st=0∨st=1:=by omega
  clear hA hRe H0 hst hst2
  by_cases hlt:T<tries
  ·have tf:=fun i=>Zad HA.out.box i
   obtain ⟨N,hN⟩:∃ N,N=Zco size (tries - T):=⟨_,rfl⟩
   have hN0:0<N∧N≤3000∧N≤tries - T:=by rw [hN]; unfold Zco; split <;> omega
   have hI2:(T:Int)<(tries:Int):=by omega
   obtain ⟨M,d,hr⟩:∃ M d,Zaz cs N m1=(M,d):=⟨_,_,rfl⟩
   have HS:=Zac (Yir wr b x1 cs a m1 N HA.out.sr HA.out.inv Hcs.out Hcf.out hcl hN0.2.1 (by rw [← Hst.out]; omega))
   have HA1:=Zac (fun (w1:World) (x2:CX) (hK:Kept (ownS b x1) wr w1) (hC:CSr w1 b x2 cs a (Zaz cs N m1).1) (hN:Zhj wr x1 x2)=>HA.out.step hcl hK hC hN)
   have hdN:d≤N:=by have:=Zmg (cs:=cs) (n:=N) (s:=m1); rw [hr] at this; exact this
   have hless:d<N→M.status≠0:=fun h=>by have:=Zzz (cs:=cs) (n:=N) (s:=m1); rw [hr] at this; exact this h
   have hsome:M.status=0∨M.status=1→d≠0:=fun h=>by have:=Zlf (cs:=cs) (n:=N) (s:=m1) hN0.1 (by rw [← Hst.out]; omega); rw [hr] at this; exact this h
   rw [hr] at HS HA1
   simp only at HS HA1
   have Hrec:Hid (R=if M.status=2∨M.status=3 then (M,addN a ⟨A,W,T,st⟩ (M,d)) else aftN cs a tries size (gk - 1) M (addN a ⟨A,W,T,st⟩ (M,d))):=by
    show _=_
    rw [HRe.out]
    obtain ⟨f,rfl⟩:∃ f,gk=f+1:=⟨gk - 1,by omega⟩
    simp only [aftN]
    rw [if_pos hlt,← hN,hr]
    rfl
   rcases Nat.lt_or_ge (tries - T) size with hsz | hsz
   ·have hI1:(tries:Int) - (T:Int)<(size:Int):=by omega
    have hNt:(tries:Int) - (T:Int)=(N:Int):=by rw [hN]; unfold Zco; rw [if_pos hsz]; omega
    clear hN
    go_wp2_with fail
    refine HS.out.mono ?_
    rintro e w1 ⟨rfl,x2,hK,hC,hNw⟩
    have HB:=Zac (HA1.out w1 x2 hK hC hNw)
    clear hK hC hNw HS HA1
    have b2:w1.cell? ⟨w.heap.size+1,2,none⟩=some (.int .i64 T):=Zaa HB.out.box 2 _ rfl
    have b3:w1.cell? ⟨w.heap.size+1,3,none⟩=some (.int .i64 st):=Zaa HB.out.box 3 _ rfl
    have bf:=fun i=>Zad HB.out.box i
    have bl:=Zab HB.out.box
    have g1:¬ (d:Int)<0:=by omega
    have g2:¬ (N:Int)<(d:Int):=by omega
    clear c2 tf
    obtain ⟨TD,hTD,hTD2⟩:∃ TD:Nat,(T:Int)+(d:Int)=(TD:Int)∧TD=T+d:=⟨T+d,by omega,rfl⟩
    have HTD2:=Zac hTD2
    have hTDb:TD≤6001:=by omega
    clear hTD2
    obtain ⟨sM,hsM⟩:∃ z,z=M.status:=⟨_,rfl⟩
    have hsM3:sM≤3:=by rw [hsM]; exact HB.out.inv.st
    rw [← hsM] at hless hsome
    have HsM:=Zac hsM
    have HB2:Hid (AftAt V (w1.setCell ⟨w.heap.size+1,2,none⟩ (.int .i64 TD)) b (w.heap.size+1) x x2 cs a M (.slice aa A.length ac) (.slice wa W.length wc) TD st (.slice aa A.length ac) A (.slice wa W.length wc) W):=HB.out.put ((Qx _ _).put 2 _) (Zaf HB.out.box 2 _)
    have HSt:=Zac (Znx _ b x2 cs a M HB2.out.sr)
    rw [← hsM] at HSt
    have HB3:Hid (AftAt V ((w1.setCell ⟨w.heap.size+1,2,none⟩ (.int .i64 TD)).setCell ⟨w.heap.size+1,3,none⟩ (.int .i64 sM)) b (w.heap.size+1) x x2 cs a M (.slice aa A.length ac) (.slice wa W.length wc) TD sM (.slice aa A.length ac) A (.slice wa W.length wc) W):=HB2.out.put ((Qx _ _).put 3 _) (Zaf HB2.out.box 3 _)
    have HAn:=Zac (Znz _ b x2 cs q a M HB3.out.sr HB3.out.inv Hask.out)
    obtain ⟨hX,hY,hZ⟩:=Zlg HB3.out.inv HB3.out.fw
    rw [← hsM] at hX hY hZ
    rw [← hsM] at HAn
    obtain ⟨X,hXe⟩:∃ X,X=(Zcy a sM M.found M.tree).1:=⟨_,rfl⟩
    obtain ⟨Y,hYe⟩:∃ Y,Y=(Zcy a sM M.found M.tree).2.1:=⟨_,rfl⟩
    rw [← hXe] at HAn hX
    rw [← hYe] at hY
    have HXY:Hid (X=(Zcy a sM M.found M.tree).1∧Y=(Zcy a sM M.found M.tree).2.1):=⟨hXe,hYe⟩
    clear hXe hYe hsM hN0
    go_wp2_with fail
    refine HSt.out.mono ?_
    rintro e w2 ⟨rfl,rfl⟩
    go_wp2_with fail
    refine HAn.out.mono ?_
    rintro e w4 ⟨rfl,hE4⟩
    have HB4:=Zac (HB3.out.ext hE4)
    have HWa:=Zac (Zma w4 b x2 cs a M HB4.out.sr HB4.out.inv hcl)
    rw [← HsM.out,← HXY.out.2] at HWa
    obtain ⟨d0,d1,d2,d3,d4⟩:w4.cell? ⟨w.heap.size+1,0,none⟩=some (.slice aa A.length ac)∧w4.cell? ⟨w.heap.size+1,1,none⟩=some (.slice wa W.length wc)∧w4.cell? ⟨w.heap.size+1,2,none⟩=some (.int .i64 TD)∧w4.cell? ⟨w.heap.size+1,3,none⟩=some (.int .i64 sM)∧w4.cell? ⟨w.heap.size+1,4,none⟩=some (.string ⟨#[]⟩):=⟨Zaa HB4.out.box 0 _ rfl,Zaa HB4.out.box 1 _ rfl,Zaa HB4.out.box 2 _ rfl,Zaa HB4.out.box 3 _ rfl,Zaa HB4.out.box 4 _ rfl⟩
    have df:=fun i=>Zad HB4.out.box i
    have dl:=Zab HB4.out.box
    clear hE4 HB HB2 HB3 HAn HSt b2 b3 bf bl g1 g2
    go_wp2_with fail
    refine HWa.out.mono ?_
    rintro e w5 ⟨rfl,h5⟩
    obtain rfl:w4=w5:=h5.symm
    by_cases h1:sM=1
    ·subst h1
     have hXn:X≠[]:=fun e=>by have:=hX.1 e; omega
     have hYn:Y≠[]:=fun e=>by have:=hY.1 e; omega
     have hXi:X.isEmpty=false:=by simpa using hXn
     have hYi:Y.isEmpty=false:=by simpa using hYn
     have hd0:d≠0:=hsome (Or.inr rfl)
     have hd1:((d:Int) == 0)=false:=by rw [Qu]; omega
     have dV:V.heap.size≤w4.heap.size:=HB4.out.kept.size
     have HE:Hid (∀ w9 aa' ac' wa' wc',AftAt V w9 b (w.heap.size+1) x x2 cs a M (.slice aa' (A.length+1) ac') (.slice wa' (W.length+1) wc') TD 1 (.slice aa' (A.length+1) ac') (A++[X]) (.slice wa' (W.length+1) wc') (W++[Y])→∃ (m':SN) (x':CX) (t:Tr) (aa:Option Addr) (ac:Nat) (wa:Option Addr) (wc:Nat),t.tries≤tries∧tries - t.tries<gk - 1∧(m'.status=0∨m'.status=1)∧t.status=m'.status∧t.ans.length≤t.tries∧t.wts.length≤t.tries∧R=aftN cs a tries size (gk - 1) m' t∧AftAt V w9 b (w.heap.size+1) x x' cs a m' (.slice aa t.ans.length ac) (.slice wa t.wts.length wc) t.tries t.status (.slice aa t.ans.length ac) t.ans (.slice wa t.wts.length wc) t.wts):=fun w9 aa' ac' wa' wc' h9=>by
      have e:=HTD2.out
      refine ⟨M,x2,⟨A++[X],W++[Y],TD,1⟩,aa',ac',wa',wc',by simp only; omega,by simp only; omega,Or.inr HsM.out.symm,HsM.out,by simp only [Qg,Qn]; omega,by simp only [Qg,Qn]; omega,?_,by simpa using h9⟩
      rw [Hrec.out,if_neg (by rw [← HsM.out]; omega)]
      unfold addN
      simp only
      rw [if_pos HsM.out.symm,← HsM.out,← HXY.out.1,← HXY.out.2,← e]
     clear hX hY hZ hless hsome hd0
     go_wp2_with (at_builtin; go_loud (refine Zan w4 rfl (.tmp 76) (.tmp 78) 47 rfl V.heap.size 9 Tryz.infoStr Tryz.underlying47 rfl (by decide) (.slice aa A.length ac) A.length (strs A) rfl HB4.out.ans #[.string ⟨X.toArray⟩] (N:=w4.heap.size) rfl rfl rfl (by simp [Value.oneCell']) ?_ ?_ ?_))
     ·omega
     ·exact dV
     intro av' w6 hA6
     obtain ⟨aa6,ac6,rfl⟩:=Zae hA6.owns
     have HB6:=Zac (HB4.out.app1 hA6)
     have e0:w6.cell? ⟨w.heap.size+1,0,none⟩=some (.slice aa A.length ac):=Zaa HB6.out.box 0 _ rfl
     have e1:w6.cell? ⟨w.heap.size+1,1,none⟩=some (.slice wa W.length wc):=Zaa HB6.out.box 1 _ rfl
     have ef:=fun i=>Zad HB6.out.box i
     have el:=Zab HB6.out.box
     have HB7:Hid (AftAt V (w6.setCell ⟨w.heap.size+1,0,none⟩ (.slice aa6 (A.length+1) ac6)) b (w.heap.size+1) x x2 cs a M (.slice aa6 (A.length+1) ac6) (.slice wa W.length wc) TD 1 (.slice aa6 (A.length+1) ac6) (A++[X]) (.slice wa W.length wc) W):=HB6.out.put ((Qx _ _).put 0 _) (Zaf HB6.out.box 0 _)
     have kV:=HB7.out.kept.size
     have HW7:=Zac HB7.out.wts
     clear hA6 d0 d1 d2 d3 d4 df dl dV
     go_wp2_with (at_builtin; go_loud (refine Zan (w6.setCell ⟨w.heap.size+1,0,none⟩ (.slice aa6 (A.length+1) ac6)) rfl (.tmp 82) (.tmp 84) 47 rfl V.heap.size 9 Tryz.infoStr Tryz.underlying47 rfl (by decide) (.slice wa W.length wc) W.length (strs W) rfl HW7.out #[.string ⟨Y.toArray⟩] rfl (by simp) rfl (by simp [Value.oneCell']) ?_ ?_ ?_))
     ·omega
     ·exact kV
     intro wv' w8 hA8
     obtain ⟨wa8,wc8,rfl⟩:=Zae hA8.owns
     have HB8:=Zac (HB7.out.app2 hA8)
     have i1:w8.cell? ⟨w.heap.size+1,1,none⟩=some (.slice wa W.length wc):=Zaa HB8.out.box 1 _ rfl
     have i3:w8.cell? ⟨w.heap.size+1,3,none⟩=some (.int .i64 1):=Zaa HB8.out.box 3 _ rfl
     have if':=fun i=>Zad HB8.out.box i
     have il:=Zab HB8.out.box
     have HB9:Hid (AftAt V (w8.setCell ⟨w.heap.size+1,1,none⟩ (.slice wa8 (W.length+1) wc8)) b (w.heap.size+1) x x2 cs a M (.slice aa6 (A.length+1) ac6) (.slice wa8 (W.length+1) wc8) TD 1 (.slice aa6 (A.length+1) ac6) (A++[X]) (.slice wa8 (W.length+1) wc8) (W++[Y])):=HB8.out.put ((Qx _ _).put 1 _) (Zaf HB8.out.box 1 _)
     clear hA8 e0 e1 ef el kV
     go_wp2
     all_goals
      go_roundg (gk - 1)
      case measure=>omega
      case rel=>exact HE.out _ _ _ _ _ HB9.out
    ·obtain rfl:X=[]:=hX.2 h1
     obtain rfl:Y=[]:=hY.2 h1
     by_cases h0:sM=0
     ·subst h0
      have hd0:d≠0:=hsome (Or.inl rfl)
      have hd1:((d:Int) == 0)=false:=by rw [Qu]; omega
      obtain rfl:d=N:=by
       rcases Nat.lt_or_ge d N with h | h
       ·exact absurd rfl (hless h)
       ·omega
      have HE:Hid (∃ (m':SN) (x':CX) (t:Tr) (aa:Option Addr) (ac:Nat) (wa:Option Addr) (wc:Nat),t.tries≤tries∧tries - t.tries<gk - 1∧(m'.status=0∨m'.status=1)∧t.status=m'.status∧t.ans.length≤t.tries∧t.wts.length≤t.tries∧R=aftN cs a tries size (gk - 1) m' t∧AftAt V w4 b (w.heap.size+1) x x' cs a m' (.slice aa t.ans.length ac) (.slice wa t.wts.length wc) t.tries t.status (.slice aa t.ans.length ac) t.ans (.slice wa t.wts.length wc) t.wts):=by
       have e:=HTD2.out
       refine ⟨M,x2,⟨A,W,TD,0⟩,aa,ac,wa,wc,by simp only; omega,by simp only; omega,Or.inl HsM.out.symm,HsM.out,by simp only; omega,by simp only; omega,?_,HB4.out⟩
       rw [Hrec.out,if_neg (by rw [← HsM.out]; omega)]
       unfold addN
       simp only
       rw [if_neg (by rw [← HsM.out]; omega),← HsM.out,← e]
      clear hX hY hZ hless hsome hd0
      go_wp2
      all_goals
       go_roundg (gk - 1)
       case measure=>omega
       case rel=>exact HE.out
     ·have hsM2:sM=2∨sM=3:=by omega
      have HTr:=Zac (Zny w4 b x2 cs a M HB4.out.sr)
      rw [← HsM.out] at HTr
      obtain ⟨Q,hQ⟩:∃ Q,Q=(Zcy a sM M.found M.tree).2.2:=⟨_,rfl⟩
      rw [← hQ] at HTr hZ
      have HQ:=Zac hQ
      have hbb:=Hbr.out w4 HB4.out.kept
      have Hbb:=Zac hbb
      obtain ⟨r0,r1,r2,r3,r4⟩:w4.cell? ⟨w.heap.size,0,none⟩=some (.slice none 0 0)∧w4.cell? ⟨w.heap.size,1,none⟩=some (.slice none 0 0)∧w4.cell? ⟨w.heap.size,2,none⟩=some (.int .i64 0)∧w4.cell? ⟨w.heap.size,3,none⟩=some (.int .i64 0)∧w4.cell? ⟨w.heap.size,4,none⟩=some (.string ⟨#[]⟩):=⟨Zaa hbb 0 _ rfl,Zaa hbb 1 _ rfl,Zaa hbb 2 _ rfl,Zaa hbb 3 _ rfl,Zaa hbb 4 _ rfl⟩
      have rf:=fun i=>Zad hbb i
      have Hfin:Hid (∀ Z,Kept (fun k=>k=w.heap.size+1∨k=w.heap.size) w4 Z→Zqb w b x cs a R (.returned (.tuple #[.agg #[.slice aa A.length ac,.slice wa W.length wc,.int .i64 TD,.int .i64 sM,.string ⟨Q.toArray⟩],.bool true])) Z):=fun Z hZ=>by
       have e:R=(M,⟨A,W,TD,sM⟩):=by
        have e:=HTD2.out
        rw [Hrec.out,if_pos (by rw [← HsM.out]; exact hsM2)]
        unfold addN
        simp only
        rw [if_neg (by rw [← HsM.out]; exact h1),← HsM.out,← e]
       obtain ⟨k1,k2,k3,k4,k5⟩:=HB4.out.fin Hbb.out (Qe _) HEV.out hZ
       rw [e]
       exact ⟨k1,k2,k3,aa,ac,wa,wc,by simp only; rw [← HsM.out,← HQ.out],k4,k5⟩
      clear hbb hQ
      rcases hsM2 with rfl | rfl
      ·have hQi:Q.isEmpty=false:=by
        have:Q≠[]:=fun e=>absurd rfl (hZ.1 e)
        simpa using this
       clear hX hY hZ hless hsome h1 h0
       go_wp2_with fail
       refine HTr.out.mono ?_
       rintro e w6 ⟨rfl,h6⟩
       obtain rfl:w4=w6:=h6.symm
       go_wp2_with fail
       go_region
       go_wp2
       refine bodyPost_ret (v := .tuple #[.agg #[.slice aa A.length ac,.slice wa W.length wc,.int .i64 TD,.int .i64 (2:Nat),.string ⟨Q.toArray⟩],.bool true]) (by simp [results,Tryz.results33,go_sem,r0,r1,r2,r3,r4,d0,d1,d2,d3,d4,rf,df,dl]) rfl ?_
       exact Hfin.out _ (by repeat (first | with_reducible exact Qx _ _ | with_reducible apply Kept.drew | with_reducible refine Qy ?_ (fun _=>by simp) _))
      ·obtain rfl:Q=[]:=hZ.2 (by omega)
       clear hX hY hZ hless hsome h1 h0
       go_wp2_with fail
       refine HTr.out.mono ?_
       rintro e w6 ⟨rfl,h6⟩
       obtain rfl:w4=w6:=h6.symm
       go_wp2_with fail
       go_region
       go_wp2
       refine bodyPost_ret (v := .tuple #[.agg #[.slice aa A.length ac,.slice wa W.length wc,.int .i64 TD,.int .i64 (3:Nat),.string ⟨#[]⟩],.bool true]) (by simp [results,Tryz.results33,go_sem,r0,r1,r2,r3,r4,d0,d1,d2,d3,d4,rf,df,dl]) rfl ?_
       exact Hfin.out _ (by repeat (first | with_reducible exact Qx _ _ | with_reducible apply Kept.drew | with_reducible refine Qy ?_ (fun _=>by simp) _))
   ·have hI1:¬ (tries:Int) - (T:Int)<(size:Int):=by omega
    obtain rfl:size=N:=by rw [hN]; unfold Zco; rw [if_neg (by omega)]
    clear hN
    go_wp2_with fail
    refine HS.out.mono ?_
    rintro e w1 ⟨rfl,x2,hK,hC,hNw⟩
    have HB:=Zac (HA1.out w1 x2 hK hC hNw)
    clear hK hC hNw HS HA1
    have b2:w1.cell? ⟨w.heap.size+1,2,none⟩=some (.int .i64 T):=Zaa HB.out.box 2 _ rfl
    have b3:w1.cell? ⟨w.heap.size+1,3,none⟩=some (.int .i64 st):=Zaa HB.out.box 3 _ rfl
    have bf:=fun i=>Zad HB.out.box i
    have bl:=Zab HB.out.box
    have g1:¬ (d:Int)<0:=by omega
    have g2:¬ (size:Int)<(d:Int):=by omega
    clear c2 tf
    obtain ⟨TD,hTD,hTD2⟩:∃ TD:Nat,(T:Int)+(d:Int)=(TD:Int)∧TD=T+d:=⟨T+d,by omega,rfl⟩
    have HTD2:=Zac hTD2
    have hTDb:TD≤6001:=by omega
    clear hTD2
    obtain ⟨sM,hsM⟩:∃ z,z=M.status:=⟨_,rfl⟩
    have hsM3:sM≤3:=by rw [hsM]; exact HB.out.inv.st
    rw [← hsM] at hless hsome
    have HsM:=Zac hsM
    have HB2:Hid (AftAt V (w1.setCell ⟨w.heap.size+1,2,none⟩ (.int .i64 TD)) b (w.heap.size+1) x x2 cs a M (.slice aa A.length ac) (.slice wa W.length wc) TD st (.slice aa A.length ac) A (.slice wa W.length wc) W):=HB.out.put ((Qx _ _).put 2 _) (Zaf HB.out.box 2 _)
    have HSt:=Zac (Znx _ b x2 cs a M HB2.out.sr)
    rw [← hsM] at HSt
    have HB3:Hid (AftAt V ((w1.setCell ⟨w.heap.size+1,2,none⟩ (.int .i64 TD)).setCell ⟨w.heap.size+1,3,none⟩ (.int .i64 sM)) b (w.heap.size+1) x x2 cs a M (.slice aa A.length ac) (.slice wa W.length wc) TD sM (.slice aa A.length ac) A (.slice wa W.length wc) W):=HB2.out.put ((Qx _ _).put 3 _) (Zaf HB2.out.box 3 _)
    have HAn:=Zac (Znz _ b x2 cs q a M HB3.out.sr HB3.out.inv Hask.out)
    obtain ⟨hX,hY,hZ⟩:=Zlg HB3.out.inv HB3.out.fw
    rw [← hsM] at hX hY hZ
    rw [← hsM] at HAn
    obtain ⟨X,hXe⟩:∃ X,X=(Zcy a sM M.found M.tree).1:=⟨_,rfl⟩
    obtain ⟨Y,hYe⟩:∃ Y,Y=(Zcy a sM M.found M.tree).2.1:=⟨_,rfl⟩
    rw [← hXe] at HAn hX
    rw [← hYe] at hY
    have HXY:Hid (X=(Zcy a sM M.found M.tree).1∧Y=(Zcy a sM M.found M.tree).2.1):=⟨hXe,hYe⟩
    clear hXe hYe hsM hN0
    go_wp2_with fail
    refine HSt.out.mono ?_
    rintro e w2 ⟨rfl,rfl⟩
    go_wp2_with fail
    refine HAn.out.mono ?_
    rintro e w4 ⟨rfl,hE4⟩
    have HB4:=Zac (HB3.out.ext hE4)
    have HWa:=Zac (Zma w4 b x2 cs a M HB4.out.sr HB4.out.inv hcl)
    rw [← HsM.out,← HXY.out.2] at HWa
    obtain ⟨d0,d1,d2,d3,d4⟩:w4.cell? ⟨w.heap.size+1,0,none⟩=some (.slice aa A.length ac)∧w4.cell? ⟨w.heap.size+1,1,none⟩=some (.slice wa W.length wc)∧w4.cell? ⟨w.heap.size+1,2,none⟩=some (.int .i64 TD)∧w4.cell? ⟨w.heap.size+1,3,none⟩=some (.int .i64 sM)∧w4.cell? ⟨w.heap.size+1,4,none⟩=some (.string ⟨#[]⟩):=⟨Zaa HB4.out.box 0 _ rfl,Zaa HB4.out.box 1 _ rfl,Zaa HB4.out.box 2 _ rfl,Zaa HB4.out.box 3 _ rfl,Zaa HB4.out.box 4 _ rfl⟩
    have df:=fun i=>Zad HB4.out.box i
    have dl:=Zab HB4.out.box
    clear hE4 HB HB2 HB3 HAn HSt b2 b3 bf bl g1 g2
    go_wp2_with fail
    refine HWa.out.mono ?_
    rintro e w5 ⟨rfl,h5⟩
    obtain rfl:w4=w5:=h5.symm
    by_cases h1:sM=1
    ·subst h1
     have hXn:X≠[]:=fun e=>by have:=hX.1 e; omega
     have hYn:Y≠[]:=fun e=>by have:=hY.1 e; omega
     have hXi:X.isEmpty=false:=by simpa using hXn
     have hYi:Y.isEmpty=false:=by simpa using hYn
     have hd0:d≠0:=hsome (Or.inr rfl)
     have hd1:((d:Int) == 0)=false:=by rw [Qu]; omega
     have dV:V.heap.size≤w4.heap.size:=HB4.out.kept.size
     have HE:Hid (∀ w9 aa' ac' wa' wc',AftAt V w9 b (w.heap.size+1) x x2 cs a M (.slice aa' (A.length+1) ac') (.slice wa' (W.length+1) wc') TD 1 (.slice aa' (A.length+1) ac') (A++[X]) (.slice wa' (W.length+1) wc') (W++[Y])→∃ (m':SN) (x':CX) (t:Tr) (aa:Option Addr) (ac:Nat) (wa:Option Addr) (wc:Nat),t.tries≤tries∧tries - t.tries<gk - 1∧(m'.status=0∨m'.status=1)∧t.status=m'.status∧t.ans.length≤t.tries∧t.wts.length≤t.tries∧R=aftN cs a tries size (gk - 1) m' t∧AftAt V w9 b (w.heap.size+1) x x' cs a m' (.slice aa t.ans.length ac) (.slice wa t.wts.length wc) t.tries t.status (.slice aa t.ans.length ac) t.ans (.slice wa t.wts.length wc) t.wts):=fun w9 aa' ac' wa' wc' h9=>by
      have e:=HTD2.out
      refine ⟨M,x2,⟨A++[X],W++[Y],TD,1⟩,aa',ac',wa',wc',by simp only; omega,by simp only; omega,Or.inr HsM.out.symm,HsM.out,by simp only [Qg,Qn]; omega,by simp only [Qg,Qn]; omega,?_,by simpa using h9⟩
      rw [Hrec.out,if_neg (by rw [← HsM.out]; omega)]
      unfold addN
      simp only
      rw [if_pos HsM.out.symm,← HsM.out,← HXY.out.1,← HXY.out.2,← e]
     clear hX hY hZ hless hsome hd0
     go_wp2_with (at_builtin; go_loud (refine Zan w4 rfl (.tmp 76) (.tmp 78) 47 rfl V.heap.size 9 Tryz.infoStr Tryz.underlying47 rfl (by decide) (.slice aa A.length ac) A.length (strs A) rfl HB4.out.ans #[.string ⟨X.toArray⟩] (N:=w4.heap.size) rfl rfl rfl (by simp [Value.oneCell']) ?_ ?_ ?_))
     ·omega
     ·exact dV
     intro av' w6 hA6
     obtain ⟨aa6,ac6,rfl⟩:=Zae hA6.owns
     have HB6:=Zac (HB4.out.app1 hA6)
     have e0:w6.cell? ⟨w.heap.size+1,0,none⟩=some (.slice aa A.length ac):=Zaa HB6.out.box 0 _ rfl
     have e1:w6.cell? ⟨w.heap.size+1,1,none⟩=some (.slice wa W.length wc):=Zaa HB6.out.box 1 _ rfl
     have ef:=fun i=>Zad HB6.out.box i
     have el:=Zab HB6.out.box
     have HB7:Hid (AftAt V (w6.setCell ⟨w.heap.size+1,0,none⟩ (.slice aa6 (A.length+1) ac6)) b (w.heap.size+1) x x2 cs a M (.slice aa6 (A.length+1) ac6) (.slice wa W.length wc) TD 1 (.slice aa6 (A.length+1) ac6) (A++[X]) (.slice wa W.length wc) W):=HB6.out.put ((Qx _ _).put 0 _) (Zaf HB6.out.box 0 _)
     have kV:=HB7.out.kept.size
     have HW7:=Zac HB7.out.wts
     clear hA6 d0 d1 d2 d3 d4 df dl dV
     go_wp2_with (at_builtin; go_loud (refine Zan (w6.setCell ⟨w.heap.size+1,0,none⟩ (.slice aa6 (A.length+1) ac6)) rfl (.tmp 82) (.tmp 84) 47 rfl V.heap.size 9 Tryz.infoStr Tryz.underlying47 rfl (by decide) (.slice wa W.length wc) W.length (strs W) rfl HW7.out #[.string ⟨Y.toArray⟩] rfl (by simp) rfl (by simp [Value.oneCell']) ?_ ?_ ?_))
     ·omega
     ·exact kV
     intro wv' w8 hA8
     obtain ⟨wa8,wc8,rfl⟩:=Zae hA8.owns
     have HB8:=Zac (HB7.out.app2 hA8)
     have i1:w8.cell? ⟨w.heap.size+1,1,none⟩=some (.slice wa W.length wc):=Zaa HB8.out.box 1 _ rfl
     have i3:w8.cell? ⟨w.heap.size+1,3,none⟩=some (.int .i64 1):=Zaa HB8.out.box 3 _ rfl
     have if':=fun i=>Zad HB8.out.box i
     have il:=Zab HB8.out.box
     have HB9:Hid (AftAt V (w8.setCell ⟨w.heap.size+1,1,none⟩ (.slice wa8 (W.length+1) wc8)) b (w.heap.size+1) x x2 cs a M (.slice aa6 (A.length+1) ac6) (.slice wa8 (W.length+1) wc8) TD 1 (.slice aa6 (A.length+1) ac6) (A++[X]) (.slice wa8 (W.length+1) wc8) (W++[Y])):=HB8.out.put ((Qx _ _).put 1 _) (Zaf HB8.out.box 1 _)
     clear hA8 e0 e1 ef el kV
     go_wp2
     all_goals
      go_roundg (gk - 1)
      case measure=>omega
      case rel=>exact HE.out _ _ _ _ _ HB9.out
    ·obtain rfl:X=[]:=hX.2 h1
     obtain rfl:Y=[]:=hY.2 h1
     by_cases h0:sM=0
     ·subst h0
      have hd0:d≠0:=hsome (Or.inl rfl)
      have hd1:((d:Int) == 0)=false:=by rw [Qu]; omega
      obtain rfl:size=d:=by
       rcases Nat.lt_or_ge d size with h | h
       ·exact absurd rfl (hless h)
       ·omega
      have HE:Hid (∃ (m':SN) (x':CX) (t:Tr) (aa:Option Addr) (ac:Nat) (wa:Option Addr) (wc:Nat),t.tries≤tries∧tries - t.tries<gk - 1∧(m'.status=0∨m'.status=1)∧t.status=m'.status∧t.ans.length≤t.tries∧t.wts.length≤t.tries∧R=aftN cs a tries size (gk - 1) m' t∧AftAt V w4 b (w.heap.size+1) x x' cs a m' (.slice aa t.ans.length ac) (.slice wa t.wts.length wc) t.tries t.status (.slice aa t.ans.length ac) t.ans (.slice wa t.wts.length wc) t.wts):=by
       have e:=HTD2.out
       refine ⟨M,x2,⟨A,W,TD,0⟩,aa,ac,wa,wc,by simp only; omega,by simp only; omega,Or.inl HsM.out.symm,HsM.out,by simp only; omega,by simp only; omega,?_,HB4.out⟩
       rw [Hrec.out,if_neg (by rw [← HsM.out]; omega)]
       unfold addN
       simp only
       rw [if_neg (by rw [← HsM.out]; omega),← HsM.out,← e]
      clear hX hY hZ hless hsome hd0
      go_wp2
      all_goals
       go_roundg (gk - 1)
       case measure=>omega
       case rel=>exact HE.out
     ·have hsM2:sM=2∨sM=3:=by omega
      have HTr:=Zac (Zny w4 b x2 cs a M HB4.out.sr)
      rw [← HsM.out] at HTr
      obtain ⟨Q,hQ⟩:∃ Q,Q=(Zcy a sM M.found M.tree).2.2:=⟨_,rfl⟩
      rw [← hQ] at HTr hZ
      have HQ:=Zac hQ
      have hbb:=Hbr.out w4 HB4.out.kept
      have Hbb:=Zac hbb
      obtain ⟨r0,r1,r2,r3,r4⟩:w4.cell? ⟨w.heap.size,0,none⟩=some (.slice none 0 0)∧w4.cell? ⟨w.heap.size,1,none⟩=some (.slice none 0 0)∧w4.cell? ⟨w.heap.size,2,none⟩=some (.int .i64 0)∧w4.cell? ⟨w.heap.size,3,none⟩=some (.int .i64 0)∧w4.cell? ⟨w.heap.size,4,none⟩=some (.string ⟨#[]⟩):=⟨Zaa hbb 0 _ rfl,Zaa hbb 1 _ rfl,Zaa hbb 2 _ rfl,Zaa hbb 3 _ rfl,Zaa hbb 4 _ rfl⟩
      have rf:=fun i=>Zad hbb i
      have Hfin:Hid (∀ Z,Kept (fun k=>k=w.heap.size+1∨k=w.heap.size) w4 Z→Zqb w b x cs a R (.returned (.tuple #[.agg #[.slice aa A.length ac,.slice wa W.length wc,.int .i64 TD,.int .i64 sM,.string ⟨Q.toArray⟩],.bool true])) Z):=fun Z hZ=>by
       have e:R=(M,⟨A,W,TD,sM⟩):=by
        have e:=HTD2.out
        rw [Hrec.out,if_pos (by rw [← HsM.out]; exact hsM2)]
        unfold addN
        simp only
        rw [if_neg (by rw [← HsM.out]; exact h1),← HsM.out,← e]
       obtain ⟨k1,k2,k3,k4,k5⟩:=HB4.out.fin Hbb.out (Qe _) HEV.out hZ
       rw [e]
       exact ⟨k1,k2,k3,aa,ac,wa,wc,by simp only; rw [← HsM.out,← HQ.out],k4,k5⟩
      clear hbb hQ
      rcases hsM2 with rfl | rfl
      ·have hQi:Q.isEmpty=false:=by
        have:Q≠[]:=fun e=>absurd rfl (hZ.1 e)
        simpa using this
       clear hX hY hZ hless hsome h1 h0
       go_wp2_with fail
       refine HTr.out.mono ?_
       rintro e w6 ⟨rfl,h6⟩
       obtain rfl:w4=w6:=h6.symm
       go_wp2_with fail
       go_region
       go_wp2
       refine bodyPost_ret (v := .tuple #[.agg #[.slice aa A.length ac,.slice wa W.length wc,.int .i64 TD,.int .i64 (2:Nat),.string ⟨Q.toArray⟩],.bool true]) (by simp [results,Tryz.results33,go_sem,r0,r1,r2,r3,r4,d0,d1,d2,d3,d4,rf,df,dl]) rfl ?_
       exact Hfin.out _ (by repeat (first | with_reducible exact Qx _ _ | with_reducible apply Kept.drew | with_reducible refine Qy ?_ (fun _=>by simp) _))
      ·obtain rfl:Q=[]:=hZ.2 (by omega)
       clear hX hY hZ hless hsome h1 h0
       go_wp2_with fail
       refine HTr.out.mono ?_
       rintro e w6 ⟨rfl,h6⟩
       obtain rfl:w4=w6:=h6.symm
       go_wp2_with fail
       go_region
       go_wp2
       refine bodyPost_ret (v := .tuple #[.agg #[.slice aa A.length ac,.slice wa W.length wc,.int .i64 TD,.int .i64 (3:Nat),.string ⟨#[]⟩],.bool true]) (by simp [results,Tryz.results33,go_sem,r0,r1,r2,r3,r4,d0,d1,d2,d3,d4,rf,df,dl]) rfl ?_
       exact Hfin.out _ (by repeat (first | with_reducible exact Qx _ _ | with_reducible apply Kept.drew | with_reducible refine Qy ?_ (fun _=>by simp) _))
  ·have HTr:=Zac (Zny wr b x1 cs a m1 HA.out.sr)
   have hbb:=Hbr.out wr HA.out.kept
   have Hbb:=Zac hbb
   obtain ⟨r0,r1,r2,r3,r4⟩:wr.cell? ⟨w.heap.size,0,none⟩=some (.slice none 0 0)∧wr.cell? ⟨w.heap.size,1,none⟩=some (.slice none 0 0)∧wr.cell? ⟨w.heap.size,2,none⟩=some (.int .i64 0)∧wr.cell? ⟨w.heap.size,3,none⟩=some (.int .i64 0)∧wr.cell? ⟨w.heap.size,4,none⟩=some (.string ⟨#[]⟩):=⟨Zaa hbb 0 _ rfl,Zaa hbb 1 _ rfl,Zaa hbb 2 _ rfl,Zaa hbb 3 _ rfl,Zaa hbb 4 _ rfl⟩
   have rf:=fun i=>Zad hbb i
   have tf:=fun i=>Zad HA.out.box i
   have c0:wr.cell? ⟨w.heap.size+1,0,none⟩=some (.slice aa A.length ac):=Zaa HA.out.box 0 _ rfl
   have c1:wr.cell? ⟨w.heap.size+1,1,none⟩=some (.slice wa W.length wc):=Zaa HA.out.box 1 _ rfl
   have c3:wr.cell? ⟨w.heap.size+1,3,none⟩=some (.int .i64 st):=Zaa HA.out.box 3 _ rfl
   have c4:wr.cell? ⟨w.heap.size+1,4,none⟩=some (.string ⟨#[]⟩):=Zaa HA.out.box 4 _ rfl
   have Htold:Hid ((Zcy a m1.status m1.found m1.tree).2.2=[]):=(Zlg HA.out.inv HA.out.fw).2.2.2 (by rw [← Hst.out]; omega)
   rw [Htold.out] at HTr
   have hst3:((st:Int) != 2)=true:=by rw [bne_iff_ne]; omega
   clear hbb
   have Hfin:Hid (∀ Z,Kept (fun k=>k=w.heap.size+1∨k=w.heap.size) wr Z→Zqb w b x cs a R (.returned (.tuple #[.agg #[.slice aa A.length ac,.slice wa W.length wc,.int .i64 T,.int .i64 st,.string ⟨#[]⟩],.bool true])) Z):=fun Z hZ=>by
    have e:R=(m1,⟨A,W,T,st⟩):=by
     rw [HRe.out]
     obtain ⟨f,rfl⟩:∃ f,gk=f+1:=⟨gk - 1,by omega⟩
     simp only [aftN]
     rw [if_neg hlt]
    obtain ⟨k1,k2,k3,k4,k5⟩:=HA.out.fin Hbb.out (Qe _) HEV.out hZ
    rw [e]
    exact ⟨k1,k2,k3,aa,ac,wa,wc,by simp only; rw [Htold.out],k4,k5⟩
   go_wp2_with fail
   refine HTr.out.mono ?_
   rintro e w1 ⟨rfl,rfl⟩
   go_wp2_with fail
   go_region
   go_wp2
   refine bodyPost_ret (v := .tuple #[.agg #[.slice aa A.length ac,.slice wa W.length wc,.int .i64 T,.int .i64 st,.string ⟨#[]⟩],.bool true]) (by simp [results,Tryz.results33,go_sem,r0,r1,r2,r3,r4,c0,c1,c2,c3,c4,rf,tf,hst3,hbt]) rfl ?_
   exact Hfin.out _ (by repeat (first | with_reducible exact Qx _ _ | with_reducible apply Kept.drew | with_reducible refine Qy ?_ (fun _=>by simp) _))
def NewC (p q:ByteArray) (w:World) (e:Ending) (w':World):Prop:=Ext w w' ∧
 ((Zcj p=none∧e = .returned (.tuple #[.pointer none,.int .i64 4])) ∨
 ((∃ cs,Zcj p=some cs)∧Zep q=none∧e = .returned (.tuple #[.pointer none,.int .i64 5])) ∨
 (∃ cs a b,∃ x:CX,Zcj p=some cs∧Zep q=some a∧e = .returned (.tuple #[.pointer (some ⟨b,0,none⟩),.int .i64 0])∧(∀ k,ownS b x k→w.heap.size≤k)∧CSr w' b x cs a (newN cs a)))
theorem Yjt {a:List (List Sym) × Names} (hN:NOk (topN a)) (han:a.2.length≤121):∀ l ∈ a.1,TmOk l:=fun l hl=>by
 have hlt:l ∈ (topN a).terms:=by
  unfold ND.terms topN
  refine List.mem_append_left _ ?_
  simp
  exact hl
 have hg:=(hN.gs (l,0) (by unfold topN; simp; exact hl)).1
 exact Znt (hN.wf l hlt) (by have h':l.length≤30:=hg; omega) (hN.occ l hlt) (by have:(topN a).vars=a.2.length:=rfl; omega)
theorem Zyh (p q:ByteArray) (w:World) (hp:p.size≤maxLen) (hq:q.size≤maxLen):Calls Tryz.prog 32 #[.string p,.string q] w (NewC p q w):=by
 have HB:=Zac (Zns p q w hp hq)
 clear hp hq
 go_enter Tryz.func32,Tryz.ntmps32
 go_wp2_with fail
 refine HB.out.mono ?_
 rintro e w1 ⟨hE1,hB⟩
 have HE1:=Zac hE1
 have hs1:=hE1.size
 clear hE1
 rcases hB with ⟨hno,rfl⟩ | ⟨⟨cs,hsome⟩,hno,rfl⟩ | ⟨cs,a,l1,lc,xs,h1,h2,h3,b1,bc,n1,nc,hsome,hask,rfl,hP,hT,hns⟩
 ·have Hno:=Zac hno
  clear hno
  go_wp2
  go_ret2
  exact ⟨HE1.out.trans (((Ext.of (by repeat' (first | with_reducible(first|exact Qx _ _|apply Kept.drew|apply Kept.drewN|apply Qz|refine Qy ?_ ?_ _)|exact fun h=>absurd h (by simp <;> omega)))):Ext w1 (w1.alloc _)).mono hs1),Or.inl ⟨Hno.out,rfl⟩⟩
 ·have Hno:=Zac hno
  have Hsome:=Zac hsome
  clear hno hsome
  go_wp2
  go_ret2
  exact ⟨HE1.out.trans (((Ext.of (by repeat' (first | with_reducible(first|exact Qx _ _|apply Kept.drew|apply Kept.drewN|apply Qz|refine Qy ?_ ?_ _)|exact fun h=>absurd h (by simp <;> omega)))):Ext w1 (w1.alloc _)).mono hs1),Or.inr (Or.inl ⟨⟨cs,Hsome.out⟩,Hno.out,rfl⟩)⟩
 ·obtain ⟨_,_,_,hcs,hcl⟩:=Zcx hsome
  obtain ⟨_,_,_,hOk,hNm,ha1,ha2,ha3,_⟩:=Zdf hask
  have hFw:=Zwd hask
  obtain ⟨W2,hW2⟩:∃ W2,W2=(w1.alloc (.cells #[.slice h1 h2 h3,.slice b1 a.1.length bc,.slice n1 a.2.length nc] 107)).alloc (.cells #[.slice l1 cs.length lc,.slice n1 a.2.length nc,.slice none 0 0,.int .i64 0,.int .i64 0,.slice none 0 0,.slice none 0 0,.string ⟨#[]⟩] 112):=⟨_,rfl⟩
  have hE12:Ext w1 W2:=by rw [hW2]; exact (Ext.of (by repeat' (first | with_reducible(first|exact Qx _ _|apply Kept.drew|apply Kept.drewN|apply Qz|refine Qy ?_ ?_ _)|exact fun h=>absurd h (by simp <;> omega))))
  have hs2:W2.heap.size=w1.heap.size+2:=by rw [hW2]; simp
  have hbx:W2.heap[w1.heap.size+1]?=some (.cells #[.slice l1 cs.length lc,.slice n1 a.2.length nc,.slice none 0 0,.int .i64 0,.int .i64 0,.slice none 0 0,.slice none 0 0,.string ⟨#[]⟩] 112 (0,0)):=by rw [hW2]; exact heap_alloc2_new w1 _ _
  have hC2:CSr W2 (w1.heap.size+1) ⟨l1,lc,n1,nc,none,0,none,0,0,none,0,0⟩ cs a ⟨[],0,0,⟨[],[],[],[],0⟩,[]⟩:=⟨hbx,⟨xs,hP.ext hE12⟩,Zah hns (fun j hj=>hE12.block j (hns.lt j hj).2),⟨[],RowL.nil _⟩,fun h=>by simp at h⟩
  have HTop:=Zac (Zrm W2 (.slice h1 h2 h3) (.slice b1 a.1.length bc) (.slice n1 a.2.length nc) a.1 a.2 ⟨_,_,_,rfl⟩ (hT.ext hE12) (Zah hns (fun j hj=>hE12.block j (hns.lt j hj).2)) (by omega) (by omega) (Yjt hOk ha3))
  have Hst:Hid (∀ w3 g1 gc v1 vc,Ext W2 w3→TermsIn w3 (.slice g1 a.1.length gc) a.1→TermsIn w3 (.slice v1 a.2.length vc) ((List.range a.2.length).map vr)→∀ o,CSr (w3.alloc o) (w1.heap.size+1) ⟨l1,lc,n1,nc,none,0,none,0,0,none,0,0⟩ cs a ⟨[],0,0,⟨[],[],[],[],0⟩,[]⟩∧Ext w (w3.alloc o)∧Calls Tryz.prog 52 #[.pointer (some ⟨w1.heap.size+1,0,none⟩),.agg #[.slice g1 a.1.length gc,.slice v1 a.2.length vc,.slice none 0 0,.int .i64 a.2.length]] (w3.alloc o) fun e w'=>e = .returned (.tuple #[])∧∃ x',Kept (ownS (w1.heap.size+1) ⟨l1,lc,n1,nc,none,0,none,0,0,none,0,0⟩) (w3.alloc o) w'∧CSr w' (w1.heap.size+1) x' cs a (Zbx ⟨[],0,0,⟨[],[],[],[],0⟩,[]⟩ (topN a))∧Zhj (w3.alloc o) ⟨l1,lc,n1,nc,none,0,none,0,0,none,0,0⟩ x'):=fun w3 g1 gc v1 vc hE3 hg hv o=>by
   have hE34:Ext w3 (w3.alloc o):=(Ext.of (by repeat' (first | with_reducible(first|exact Qx _ _|apply Kept.drew|apply Kept.drewN|apply Qz|refine Qy ?_ ?_ _)|exact fun h=>absurd h (by simp <;> omega))))
   have hE24:Ext W2 (w3.alloc o):=hE3.trans (hE34.mono hE3.size)
   have hC:=hC2.ext hE24
   have hEw:Ext w (w3.alloc o):=(HE1.out.trans (hE12.mono HE1.out.size)).trans (hE24.mono (by omega))
   have hCN:CNode (w3.alloc o) (.slice g1 a.1.length gc) (.slice v1 a.2.length vc) (.slice none 0 0) (.int .i64 a.2.length) (topN a):=by
    refine ⟨topN a,⟨?_,hv.ext hE34,⟨[],TermsAt.nil _ _⟩⟩,rfl,hOk,hNm,hFw,Same.refl hOk⟩
    have:(topN a).goals.map (·.1)=a.1:=by unfold topN; rw [List.map_map]; exact (List.map_congr_left (fun _ _=>rfl)).trans (List.map_id _)
    rw [this]; exact hg.ext hE34
   exact ⟨hC,hEw,Zqa (w3.alloc o) _ _ cs a _ _ _ _ _ _ hC hCN (by simp) (Zeo ha2) (by simp)⟩
  have HL:Hid (∀ u (xx:CX),CSr u (w1.heap.size+1) xx cs a (Zbx ⟨[],0,0,⟨[],[],[],[],0⟩,[]⟩ (topN a))→Calls Tryz.prog 53 #[.pointer (some ⟨w1.heap.size+1,0,none⟩)] u fun e w'=>e = .returned (.tuple #[])∧Kept (only (w1.heap.size+1)) u w'∧CSr w' (w1.heap.size+1) xx cs a (newN cs a)):=fun u xx h1=>by
   have e:Zbx ⟨[],0,0,⟨[],[],[],[],0⟩,[]⟩ (topN a)=(⟨[(topN a,0)],0,0,⟨[],[],[],[],0⟩,[40]⟩:SN):=by unfold Zbx; rw [if_neg (Zeo ha2)]; rfl
   refine Zuf u _ xx cs a _ h1 (by rw [e]; simp) (by rw [e]; intro y hy; simp at hy; subst hy; exact Qm _) hcl (by rw [e]; simp)
  have HW2:=Zac hW2
  have Hsome:=Zac hsome
  have Hask:=Zac hask
  clear hsome hask hP hT hns hcs hOk hNm ha1 ha2 ha3 hFw hE12 hbx hC2 hW2
  go_wp2_with fail
  rw [← HW2.out]
  refine HTop.out.mono ?_
  rintro e w3 ⟨hE3,g1,gc,v1,vc,rfl,hg,hv⟩
  have hs3:=hE3.size
  have H3:=Zac (Hst.out w3 g1 gc v1 vc hE3 hg hv)
  clear hE3 hg hv HTop Hst
  go_wp2_with fail
  refine (H3.out _).2.2.mono ?_
  rintro e w4 ⟨rfl,x4,hK4,hC4,hN4⟩
  have H4:=Zac (HL.out w4 x4 hC4)
  have hs4:=hK4.size
  simp at hs4
  have HK4:=Zac hK4
  have HN4:=Zac hN4
  clear hK4 hC4 hN4 HL
  go_wp2_with fail
  refine H4.out.mono ?_
  rintro e w5 ⟨rfl,hK5,hC5⟩
  have HK5:=Zac hK5
  have HC5:=Zac hC5
  clear hK5 hC5
  go_wp2
  go_ret2
  refine ⟨?_,Or.inr (Or.inr ⟨cs,a,w1.heap.size+1,x4,Hsome.out,Hask.out,rfl,fun k hk => ?_,HC5.out⟩)⟩
  ·have h1:=(H3.out (.cells #[.slice g1 a.1.length gc,.slice v1 a.2.length vc,.slice none 0 0,.int .i64 a.2.length] 87)).2.1
   refine h1.trans ((HK4.out.below h1.size (fun k hk => ?_)).trans (HK5.out.below (Qq h1.size HK4.out.size) (fun k hk => ?_)))
   ·rcases hk with rfl | ⟨p,hp,_⟩
    ·omega
    ·simp at hp
   ·have:k=w1.heap.size+1:=hk
    omega
  ·rcases hk with rfl | hk
   ·omega
   ·rcases HN4.out.1 k hk with ⟨p,hp,_⟩ | h
    ·simp at hp
    ·simp at h
     omega
def Yju (w:World) (a:List (List Sym) × Names) (R:SN × Tr) (e:Ending) (w':World):Prop :=
 Ext w w'∧∃ aa ac wa wc,e = .returned (.tuple #[.agg #[.slice aa R.2.ans.length ac,.slice wa R.2.wts.length wc,.int .i64 R.2.tries,.int .i64 R.2.status,.string ⟨(Zcy a R.1.status R.1.found R.1.tree).2.2.toArray⟩],.bool true]) ∧
  w'.ownsRow w.heap.size 9 1 (.slice aa R.2.ans.length ac) R.2.ans.length (strs R.2.ans)∧w'.ownsRow w.heap.size 9 1 (.slice wa R.2.wts.length wc) R.2.wts.length (strs R.2.wts)
theorem Zhv (cs:List Cls) {a:List (List Sym) × Names} (h:a.1≠[]):(newN cs a).status=0:=by
 unfold newN Zcv Zbx
 rw [if_neg (Zeo h)]
theorem Yfr (p q:ByteArray) (w:World) (cs:List Cls) (a:List (List Sym) × Names) (hp:p.size≤maxLen) (hq:q.size≤maxLen) (hcs:Zcj p=some cs) (hask:Zep q=some a) :
  Calls Tryz.prog 25 #[.string p,.string q] w (Yju w a (aftN cs a 3001 3000 3002 (newN cs a) ⟨[],[],0,0⟩)):=by
 obtain ⟨R,hR⟩:∃ R,R=aftN cs a 3001 3000 3002 (newN cs a) ⟨[],[],0,0⟩:=⟨_,rfl⟩
 have HN:=Zac (Zyh p q (w.alloc (.cells #[.slice none 0 0,.slice none 0 0,.int .i64 0,.int .i64 0,.string ⟨#[]⟩] 49)) hp hq)
 obtain ⟨_,_,_,_,_,_,hne,_,_⟩:=Zdf hask
 have HI:=Zac (InvN.new cs hne)
 have Hs:=Zac (Zhv cs hne)
 have Hcs:Hid ((∀ c ∈ cs,COk c∧CNm c)∧(∀ c ∈ cs,CFew c)∧cs.length≤24):=by
  obtain ⟨_,_,_,h1,h2⟩:=Zcx hcs
  exact ⟨h1,Zmk hcs,by omega⟩
 have Hp:=Zac hcs
 have Hq:=Zac hask
 have HR:=Zac hR
 rw [← hR]
 clear hp hq hne hcs hask hR
 go_enter Tryz.func25,Tryz.ntmps25
 go_wp2_with fail
 refine HN.out.mono ?_
 rintro e w1 ⟨hE1,⟨h1,_⟩ | ⟨_,h1,_⟩ | ⟨cs',a',b,x,h1,h2,rfl,hge,hC⟩⟩
 ·rw [Hp.out] at h1; simp at h1
 ·rw [Hq.out] at h1; simp at h1
 obtain rfl:cs'=cs:=by rw [Hp.out] at h1; exact (Option.some.inj h1).symm
 obtain rfl:a'=a:=by rw [Hq.out] at h2; exact (Option.some.inj h2).symm
 have HA:=Zac (Zuj w1 b x cs' q a' (newN cs' a') 3001 3000 hC HI.out (fun h=>by rw [Hs.out] at h; simp at h) Hs.out Hcs.out.1 Hcs.out.2.1 Hcs.out.2.2 Hq.out (by omega) (by omega) (by omega))
 have hbl:=Zab hC.box
 have hE0:Ext w (w.alloc (.cells #[.slice none 0 0,.slice none 0 0,.int .i64 0,.int .i64 0,.string ⟨#[]⟩] 49)):=(Ext.of (by repeat' (first | with_reducible(first|exact Qx _ _|apply Kept.drew|apply Kept.drewN|apply Qz|refine Qy ?_ ?_ _)|exact fun h=>absurd h (by simp <;> omega))))
 have HE1:=Zac hE1
 have hs1:=hE1.size
 simp at hs1
 have hb0:w1.heap[w.heap.size]?=some (.cells #[.slice none 0 0,.slice none 0 0,.int .i64 0,.int .i64 0,.string ⟨#[]⟩] 49 (0,0)):=(hE1.block _ (by simp)).trans (heap_alloc_new w _)
 have hn0:¬ ownS b x w.heap.size:=hC.not hb0 (by decide) (by decide)
 have Hge:=Zac hge
 have HE01:Hid (Ext w w1):=hE0.trans (hE1.mono hE0.size)
 rw [← HR.out] at HA
 clear hge hC hE1 hE0 HN
 go_wp2_with fail
 refine HA.out.mono ?_
 rintro e w2 ⟨hK2,hx2,hI2,aa,ac,wa,wc,rfl,ha2,hw2⟩
 have hb2:=(hK2.block _ (Zab hb0) hn0).trans hb0
 obtain ⟨r0,r1,r2,r3,r4⟩:w2.cell? ⟨w.heap.size,0,none⟩=some (.slice none 0 0)∧w2.cell? ⟨w.heap.size,1,none⟩=some (.slice none 0 0)∧w2.cell? ⟨w.heap.size,2,none⟩=some (.int .i64 0)∧w2.cell? ⟨w.heap.size,3,none⟩=some (.int .i64 0)∧w2.cell? ⟨w.heap.size,4,none⟩=some (.string ⟨#[]⟩):=⟨Zaa hb2 0 _ rfl,Zaa hb2 1 _ rfl,Zaa hb2 2 _ rfl,Zaa hb2 3 _ rfl,Zaa hb2 4 _ rfl⟩
 have rf:=fun i=>Zad hb2 i
 have hl2:=Zab hb2
 have hE2:Ext w w2:=HE01.out.trans (hK2.below (by omega) (fun k hk=>by have:=Hge.out k hk; simp at this; omega))
 obtain ⟨At,hAt⟩:∃ z,z=R.2.ans.length:=⟨_,rfl⟩
 obtain ⟨Wt,hWt⟩:∃ z,z=R.2.wts.length:=⟨_,rfl⟩
 obtain ⟨Tt,hTt⟩:∃ z,z=R.2.tries:=⟨_,rfl⟩
 obtain ⟨St,hSt⟩:∃ z,z=R.2.status:=⟨_,rfl⟩
 obtain ⟨Qt,hQt⟩:∃ z,z=(Zcy a' R.1.status R.1.found R.1.tree).2.2:=⟨_,rfl⟩
 have Hfin:Hid (∀ Z,Kept (fun k=>w.heap.size≤k∧(k=w.heap.size∨w2.heap.size≤k)) w2 Z→Yju w a' R (.returned (.tuple #[.agg #[.slice aa At ac,.slice wa Wt wc,.int .i64 Tt,.int .i64 St,.string ⟨Qt.toArray⟩],.bool true])) Z):=fun Z hZ=>by
  rw [hAt,hWt,hTt,hSt,hQt]
  have hS:∀ k,k<w2.heap.size→(w.heap.size≤k∧(k=w.heap.size∨w2.heap.size≤k))→k=w.heap.size:=fun k hk h=>by omega
  have hrow:∀ {v:Value} {xs:List Value} {n:Nat},w2.ownsRow w1.heap.size 9 1 v n xs→Z.ownsRow w.heap.size 9 1 v n xs:=fun hr=>Zbf (Zah hr (fun k hk=>hZ.block k (hr.lt k hk).2 (fun h=>by have:=hS k (hr.lt k hk).2 h; have:=(hr.lt k hk).1; omega))) (by omega)
  exact ⟨hE2.trans (hZ.below (by omega) (fun k h=>h.1)),aa,ac,wa,wc,rfl,hrow ha2,hrow hw2⟩
 rw [← hAt,← hWt,← hTt,← hSt,← hQt]
 clear hK2 hx2 hI2 ha2 hw2 hb2 hE2 hAt hWt hTt hSt hQt hb0 hn0 HA HE01 HE1 HR
 go_wp2
 refine bodyPost_ret (v := .tuple #[.agg #[.slice aa At ac,.slice wa Wt wc,.int .i64 Tt,.int .i64 St,.string ⟨Qt.toArray⟩],.bool true]) (by simp [results,Tryz.results25,go_sem,r0,r1,r2,r3,r4,rf,hl2]) rfl ?_
 refine Hfin.out _ ?_
 repeat (first | with_reducible exact Qx _ _ | with_reducible apply Qz | with_reducible apply Kept.drew | with_reducible refine Qy ?_ (fun _=>⟨Qe _,Or.inl rfl⟩) _)
theorem Zln {w:World} {B n c i:Nat} {a:Option Addr} {A:List (List UInt8)} (h:w.ownsRow B 9 1 (.slice a n c) n (strs A)) (hi:i<n):∃ g y,a=some ⟨g,0,none⟩∧g<w.heap.size∧A[i]?=some y∧w.cell? ⟨g,i,none⟩=some (.string ⟨y.toArray⟩):=by
 rcases h.2 with ⟨h1,h2⟩ | ⟨g,cap,cur,h1,h2⟩
 ·omega
 ·simp only [Value.slice.injEq] at h1
  obtain ⟨rfl,_,rfl⟩:=h1
  have hl:=h.1
  have hA:i<A.length:=by simp [strs] at hl; omega
  obtain ⟨y,hy⟩:∃ y,A[i]?=some y:=⟨_,Qb hA⟩
  exact ⟨g,y,rfl,(h.lt g rfl).2,hy,Zai h i _ (by unfold strs; rw [Qj,hy]; rfl)⟩
theorem Zyi (w:World) (B1 B2:Nat) (a1:Option Addr) (c1:Nat) (A:List (List UInt8)) (a2:Option Addr) (c2:Nat) (B:List (List UInt8)) (h1:w.ownsRow B1 9 1 (.slice a1 A.length c1) A.length (strs A)) (h2:w.ownsRow B2 9 1 (.slice a2 B.length c2) B.length (strs B)) (hA:A.length≤100000) (hB:B.length≤100000) :
  Calls Tryz.prog 37 #[.slice a1 A.length c1,.slice a2 B.length c2] w fun e w'=>e = .returned (.bool (decide (A=B)))∧Ext w w':=by
 have H1:Hid (∀ u,Ext w u→∀ i,i<A.length→∃ g y,a1=some ⟨g,0,none⟩∧g<u.heap.size∧A[i]?=some y∧u.cell? ⟨g,i,none⟩=some (.string ⟨y.toArray⟩)):=fun u hu i hi=>Zln (Zah h1 (fun k hk=>hu.block k (h1.lt k hk).2)) hi
 have H2:Hid (∀ u,Ext w u→∀ i,i<B.length→∃ g y,a2=some ⟨g,0,none⟩∧g<u.heap.size∧B[i]?=some y∧u.cell? ⟨g,i,none⟩=some (.string ⟨y.toArray⟩)):=fun u hu i hi=>Zln (Zah h2 (fun k hk=>hu.block k (h2.lt k hk).2)) hi
 clear h1 h2
 by_cases hl:A.length=B.length
 ·rw [← hl] at H2 ⊢
  have Hl:=Zac hl
  obtain ⟨n,hn⟩:∃ n,n=A.length:=⟨_,rfl⟩
  have Hn:=Zac hn
  rw [← hn] at H1 H2 ⊢
  rw [← hn] at hA
  obtain ⟨D,hD⟩:∃ D,D=decide (A=B):=⟨_,rfl⟩
  have HD:=Zac hD
  rw [← hD]
  clear hl hB hn hD
  go_enter Tryz.func37,Tryz.ntmps37
  go_wp2
  go_loopw [5] (fun i u=>∃ s:Nat,s≤n∧i = .int .i64 s∧Ext w u∧A.take s=B.take s) (fun i _=>n - (intOf i).toNat)
  case atStart=>exact ⟨0,Qm _,rfl,Below.refl _ _,rfl⟩
  case round =>
   obtain ⟨s,hs,rfl,hEu,htk⟩:=hrel
   have HEu:=Zac hEu
   have Htk:=Zac htk
   by_cases hlt:s<n
   ·obtain ⟨g,y,rfl,hg,hy,cy⟩:=H1.out _ hEu s hlt
    obtain ⟨g',z,rfl,hg',hz,cz⟩:=H2.out _ hEu s hlt
    have Hyz:Hid (A[s]?=some y∧B[s]?=some z):=⟨hy,hz⟩
    clear hEu htk hy hz
    by_cases hyz:y=z
    ·subst hyz
     go_wp2_with fail
     go_quiet (fail)
     go_wp2
     go_roundw
     case rel =>
      refine ⟨s+1,by omega,by go_num,HEu.out.trans ((Ext.of (by repeat' (first | with_reducible(first|exact Qx _ _|apply Kept.drew|apply Kept.drewN|apply Qz|refine Qy ?_ ?_ _)|exact fun h=>absurd h (by simp <;> omega)))).mono HEu.out.size),?_⟩
      rw [List.take_add_one,List.take_add_one,Htk.out,Hyz.out.1,Hyz.out.2]
     case measure=>simp [intOf]; omega
    ·have hne:¬ y.toArray=z.toArray:=fun e=>hyz (by simpa using e)
     have hD0:D=false:=by
      rw [HD.out,decide_eq_false_iff_not]
      rintro rfl
      exact hyz (Option.some.inj (Hyz.out.1.symm.trans Hyz.out.2))
     subst hD0
     have hb:(y == z)=false:=by rw [Qu]; exact hyz
     go_wp2_with fail
     go_quiet (fail)
     go_wp2
     go_ret
     exact ⟨rfl,HEu.out.trans ((Ext.of (by repeat' (first | with_reducible(first|exact Qx _ _|apply Kept.drew|apply Kept.drewN|apply Qz|refine Qy ?_ ?_ _)|exact fun h=>absurd h (by simp <;> omega)))).mono HEu.out.size)⟩
   ·have hD1:D=true:=by
     rw [HD.out,decide_eq_true_iff]
     have h1:=Htk.out
     rw [List.take_of_length_le (by rw [← Hn.out]; omega),List.take_of_length_le (by rw [← Hl.out,← Hn.out]; omega)] at h1
     exact h1
    subst hD1
    clear hEu htk
    go_wp2
    go_ret
    exact ⟨rfl,HEu.out⟩
 ·have hD:decide (A=B)=false:=by
   rw [decide_eq_false_iff_not]
   rintro rfl
   exact hl rfl
  rw [hD]
  have hb:((A.length:Int) != (B.length:Int))=true:=by rw [bne_iff_ne]; omega
  clear hD hl
  go_enter Tryz.func37,Tryz.ntmps37
  go_wp2
  go_ret
  exact ⟨rfl,Below.refl _ _⟩
def Zfv:List UInt8:=[115,117,114,101]
def Zhw:Cls:=⟨[⟨Zfv,0,0⟩],[],[]⟩
def Zeq:List (List Sym) × Names:=([[⟨Zfv,0,0⟩]],[])
def GT.hd:GT→List UInt8
 | .v _=>[]
 | .n s=>s
 | .f s _=>s
 | .g s _ _=>s
theorem Zwn {b:ByteArray} {s:List UInt8} (h:Zhh b s=true):s≠[]:=fun e=>by subst e; simp [Zhh] at h
theorem Ylx {t:GT} (ht:t.fine=true) (N:Names):∃ x r,(t.syms N).1=x::r∧x.name=t.hd∧x.name≠[]:=by
 obtain ⟨h1,h2,_⟩:=GT.fine_iff ht
 cases t with
 | v s=>simp [GT.atom] at h1
 | n s=>exact ⟨_,_,rfl,rfl,Zwn h2⟩
 | f s t=>simp only [GT.ok,Bool.and_eq_true] at h2; exact ⟨_,_,rfl,rfl,Zwn h2.1⟩
 | g s t u=>simp only [GT.ok,Bool.and_eq_true] at h2; exact ⟨_,_,rfl,rfl,Zwn h2.1⟩
theorem Ybi {t:GT} (ht:t.fine=true) (hne:t.hd≠Zfv) (v:Nat) (N:Names):NoFit [⟨Zfv,0,0⟩] (ap (Zdd v) (t.syms N).1):=by
 obtain ⟨x,r,e,h1,h2⟩:=Ylx ht N
 intro θ hθ he
 rw [e] at he
 have e1:ap (Zdd v) (x::r)=x::ap (Zdd v) r:=by rw [Zbz]; simp [ap1,h2]
 have e2:ap θ (x::ap (Zdd v) r)=x::ap θ (ap (Zdd v) r):=by rw [Zbz]; simp [ap1,h2]
 have e3:ap θ [⟨Zfv,0,0⟩]=[⟨Zfv,0,0⟩]:=by rw [Zbz]; simp [ap1,Zsa,Zfv]
 rw [e1,e2,e3] at he
 simp only [List.cons.injEq] at he
 exact hne (by rw [← h1,← he.1])
theorem Zoa:∀ (P:List (GT × List GT)) (rest:List UInt8),(∀ c ∈ P,ClFine c)→kt (Zce P++rest)=P.flatMap (fun c=>styK ktG c.1 c.2)++kt rest:=by
 intro P
 induction P with
 | nil=>intro rest _; rfl
 | cons c P ih =>
  intro rest hc
  have hcc:=hc c (by simp)
  rw [show Zce (c::P)++rest=clT c.1 c.2++(Zce P++rest) by simp [Zce],← Ylb,Yla sty0 c.1 c.2 _ (Zpo (GT.fine_iff hcc.head).2.1) (fun u hu=>Zpo (GT.fine_iff (hcc.body u hu)).2.1),ih rest (fun x hx=>hc x (by simp [hx])),List.flatMap_cons,Qi]
theorem Yfs:ClFine (.n Zfv,[]):=⟨by decide +kernel,by simp,by simp⟩
theorem Yft (P:List (GT × List GT)) (hc:∀ c ∈ P,ClFine c) (hl:P.length≤23) (hs:(Zce P).length≤700):Zcj ⟨(Zce P++[32,115,117,114,101,46]).toArray⟩=some (P.map clOf++[Zhw]):=by
 have hc2:∀ c ∈ P++[(GT.n Zfv,[])],ClFine c:=fun c h=>by
  rcases Qk.1 h with h | h
  ·exact hc c h
  ·simp at h
   subst h
   exact Yfs
 have e1:Zce (P++[(GT.n Zfv,[])])=Zce P++[115,117,114,101,46]:=by simp [Zce,clT,GT.text,Zfv]
 have hk:kt (Zce P++[32,115,117,114,101,46])=kt (Zce (P++[(GT.n Zfv,[])])):=by
  rw [e1,Zoa P _ hc,Zoa P _ hc,Yhr (by decide)]
 rw [Yel hk (by simp; omega) (by rw [e1]; simp; omega),Zju _ hc2 (by simp; omega) (by rw [e1]; simp; omega),Qr]
 rfl
theorem Zml:Zep ⟨#[115,117,114,101,46]⟩=some Zeq:=Zlh (.n Zfv) [] (by decide +kernel) (by simp) (by simp) (by decide)
theorem Yit:topN Zeq=⟨[([⟨Zfv,0,0⟩],0)],[],[],[],0⟩:=rfl
theorem Yiu {cs:List Cls} (h:COk Zhw) (hN:NOk (topN Zeq)) (k:Nat):(tryN (topN Zeq) Zhw k).2=2∧(tryN (topN Zeq) Zhw k).1.goals=[]∧(tryN (topN Zeq) Zhw k).1.used=[k]:=by
 have ho:Out (topN Zeq) Zhw k 2 (Zau (sgC []) (topN Zeq) Zhw k ([⟨Zfv,0,0⟩],0) []):=Yhv hN h (by rfl)
 have h1:=(Zgb hN (Same.refl hN) h ho).1
 refine ⟨h1.symm,(Zhg (Or.inr h1.symm)).1 h1.symm,?_⟩
 rw [Zew (Or.inr h1.symm)]
 rfl
theorem Yfu {c:GT × List GT} (hc:ClFine c) (hne:c.1.hd≠Zfv) (h:COk (clOf c)) (hN:NOk (topN Zeq)) (k:Nat):(tryN (topN Zeq) (clOf c) k).2=0:=by
 have ho:Out (topN Zeq) (clOf c) k 0 ⟨[],[],[],[],0⟩:=⟨_,_,rfl,Or.inl ⟨rfl,Ybi hc.head hne _ _⟩⟩
 exact (Zgb hN (Same.refl hN) h ho).1.symm
def Zib (k:Nat):SN:=⟨[(topN Zeq,k)],k,0,⟨[],[],[],[],0⟩,[40]⟩
noncomputable def Zdt (n st:Nat):SN:=⟨[],n+1,st,(tryN (topN Zeq) Zhw n).1,[40]++Lib.decDigits n++[33]++[41]⟩
section
variable {cs:List Cls} {n:Nat}
theorem Yiv (hlen:cs.length=n+1) (hmiss:∀ k c,k<n→cs[k]?=some c→(tryN (topN Zeq) c k).2=0) {k:Nat} (hk:k<n):Zam cs (Zib k)=Zib (k+1):=by
 obtain ⟨c,hc⟩:∃ c,cs[k]?=some c:=⟨_,Qb (by omega)⟩
 have h0:=hmiss k c hk hc
 unfold Zam Zib
 simp only [hc]
 rw [if_neg (by omega),if_neg (by omega)]
 simp only [Zcv,Zdp]
 rw [if_neg (by omega)]
theorem Ybj (hlen:cs.length=n+1) (hlast:cs[n]?=some Zhw) (hhit:(tryN (topN Zeq) Zhw n).2=2∧(tryN (topN Zeq) Zhw n).1.goals=[]∧(tryN (topN Zeq) Zhw n).1.used=[n]):Zam cs (Zib n)=Zdt n 1:=by
 obtain ⟨h2,hg,_⟩:=hhit
 unfold Zam Zib
 simp only [hlast]
 rw [if_neg (by omega),if_pos (Or.inr h2)]
 unfold Zbx
 rw [if_pos hg]
 simp only [Zcv,Zdp]
 rw [if_pos (by omega)]
 rfl
theorem Yfv (hlen:cs.length=n+1) (hn:n≤23) (hmiss:∀ k c,k<n→cs[k]?=some c→(tryN (topN Zeq) c k).2=0):∀ (d k N:Nat),k+d=n→Zbl cs (d+N) (Zib k)=((Zbl cs N (Zib n)).1,(Zbl cs N (Zib n)).2+d):=by
 intro d
 induction d with
 | zero =>
  intro k N h
  obtain rfl:k=n:=by omega
  simp
 | succ d ih =>
  intro k N h
  rw [show d+1+N=(d+N)+1 by omega,Zbl]
  rw [if_pos ⟨rfl,by simp [Zib],by simp [Zib]; omega⟩,Yiv hlen hmiss (by omega),ih (k+1) N (by omega)]
  simp only [Nat.add_assoc]
theorem Yfw (hlen:cs.length=n+1) (hn:n≤23) (hlast:cs[n]?=some Zhw) (hmiss:∀ k c,k<n→cs[k]?=some c→(tryN (topN Zeq) c k).2=0) (hhit:(tryN (topN Zeq) Zhw n).2=2∧(tryN (topN Zeq) Zhw n).1.goals=[]∧(tryN (topN Zeq) Zhw n).1.used=[n]):Zaz cs 3000 (newN cs Zeq)=(Zdt n 1,n+1):=by
 have e0:newN cs Zeq=Zib 0:=by
  unfold newN Zbx
  rw [if_neg (by rw [Yit]; simp)]
  simp only [Zcv,Zdp]
  rw [if_neg (by omega)]
  rfl
 have e1:Zbl cs 3000 (Zib 0)=(Zdt n 1,n+1):=by
  have h1:=Yfv hlen hn hmiss n 0 ((3000 - n - 1)+1) (by omega)
  rw [show n+(3000 - n - 1+1)=3000 by omega] at h1
  have h2:Zbl cs ((3000 - n - 1)+1) (Zib n)=(Zdt n 1,1):=by
   rw [Zbl,if_pos ⟨rfl,by simp [Zib],by simp [Zib]; omega⟩,Ybj hlen hlast hhit]
   have h3:Zbl cs (3000 - n - 1) (Zdt n 1)=(Zdt n 1,0):=by
    cases 3000 - n - 1 with
    | zero=>rfl
    | succ m=>rw [Zbl,if_neg (fun h=>by simp [Zdt] at h)]
   rw [h3]
  rw [h1,h2]
  simp only [Nat.add_comm]
 rw [e0]
 unfold Zaz
 rw [if_neg (by simp [Zib])]
 rw [show ({ Zib 0 with status:=0 }:SN)=Zib 0 from rfl,e1]
 simp only
 unfold endN
 rw [if_neg (by simp [Zdt]),if_neg (by simp [Zdt])]
theorem Yiw (hlen:cs.length=n+1) (hn:n≤23) (hlast:cs[n]?=some Zhw) (hmiss:∀ k c,k<n→cs[k]?=some c→(tryN (topN Zeq) c k).2=0) (hhit:(tryN (topN Zeq) Zhw n).2=2∧(tryN (topN Zeq) Zhw n).1.goals=[]∧(tryN (topN Zeq) Zhw n).1.used=[n]):aftN cs Zeq 3001 3000 3002 (newN cs Zeq) ⟨[],[],0,0⟩=(Zdt n 2,⟨[[121,101,115]],[Lib.decDigits n],n+1,2⟩):=by
 have hs2:∀ N,Zaz cs N (Zdt n 1)=(Zdt n 2,0):=fun N=>by
  unfold Zaz
  rw [if_neg (by simp [Zdt])]
  have h3:Zbl cs N { Zdt n 1 with status:=0 }=(Zdt n 0,0):=by
   cases N with
   | zero=>rfl
   | succ m=>rw [Zbl,if_neg (fun h=>h.2.1 rfl)]; rfl
  rw [h3]
  simp only
  unfold endN
  rw [if_neg (by simp [Zdt]),if_pos (by simp [Zdt]),if_pos (by simp [Zdt])]
  rfl
 have ha:addN Zeq ⟨[],[],0,0⟩ (Zdt n 1,n+1)=⟨[[121,101,115]],[Lib.decDigits n],n+1,1⟩:=by
  have hst:(Zdt n 1).status=1:=rfl
  unfold addN
  rw [if_pos (show (Zdt n 1,n+1).1.status=1 from hst)]
  have e1:(Zcy Zeq (Zdt n 1).status (Zdt n 1).found (Zdt n 1).tree)=([121,101,115],Lib.decDigits n,[]):=by
   unfold Zcy
   rw [if_pos hst]
   have e2:Zdl (Zdt n 1).found=Lib.decDigits n:=by
    show Zcb [] (tryN (topN Zeq) Zhw n).1.used=_
    rw [hhit.2.2]
    simp [Zcb]
   rw [e2]
   rfl
  simp only [e1,List.nil_append,Nat.zero_add]
  rfl
 rw [aftN]
 simp only
 rw [if_pos (by omega),show Zco 3000 (3001 - 0)=3000 from rfl,Yfw hlen hn hlast hmiss hhit]
 rw [if_neg (by simp [Zdt]),ha,aftN]
 simp only
 have h2:(Zdt n 2).status=2:=rfl
 rw [if_pos (by omega),hs2,if_pos (show (Zdt n 2,0).1.status=2∨(Zdt n 2,0).1.status=3 from Or.inl h2)]
 unfold addN
 rw [if_neg (show ¬ (Zdt n 2,0).1.status=1 by simp [h2])]
 simp only [h2,Nat.add_zero]
end
theorem Zob (P:List (GT × List GT)) (hc:∀ c ∈ P,ClFine c∧c.1.hd≠Zfv) (hl:P.length≤23) (hs:(Zce P).length≤700) :
  Zcj ⟨(Zce P++[32,115,117,114,101,46]).toArray⟩=some (P.map clOf++[Zhw])∧aftN (P.map clOf++[Zhw]) Zeq 3001 3000 3002 (newN (P.map clOf++[Zhw]) Zeq) ⟨[],[],0,0⟩=(Zdt P.length 2,⟨[[121,101,115]],[Lib.decDigits P.length],P.length+1,2⟩):=by
 have hp:=Yft P (fun c h=>(hc c h).1) hl hs
 obtain ⟨_,_,_,hcs,_⟩:=Zcx hp
 obtain ⟨_,_,_,hN,_⟩:=Zdf Zml
 refine ⟨hp,Yiw (by simp) hl (by simp) (fun k c hk hkc => ?_) (Yiu (cs:=[]) (hcs Zhw (by simp)).1 hN P.length)⟩
 rw [Qc (by simpa using hk),Qj,Option.map_eq_some_iff] at hkc
 obtain ⟨x,hx,rfl⟩:=hkc
 have hm:=Qh hx
 exact Yfu (hc x hm).1 (hc x hm).2 (hcs _ (List.mem_append_left _ (List.mem_map_of_mem hm))).1 hN k
theorem Yfx (P:List (GT × List GT)) (hc:∀ c ∈ P,ClFine c∧c.1.hd≠Zfv) (hl:P.length≤23) (hs:(Zce P).length≤700) :
  yesN ⟨(Zce P++[32,115,117,114,101,46]).toArray⟩ ⟨#[115,117,114,101,46]⟩ ⟨(Lib.decDigits P.length).toArray⟩=([121,101,115],0,0) ∧
  allN ⟨(Zce P++[32,115,117,114,101,46]).toArray⟩ ⟨#[115,117,114,101,46]⟩ ⟨([40]++Lib.decDigits P.length++[33]++[41]).toArray⟩=([[121,101,115]],0,0):=by
 obtain ⟨hp,ha⟩:=Zob P hc hl hs
 have hne:Zeq.1≠[]:=by simp [Zeq]
 have hcl:(P.map clOf++[Zhw]).length≤24:=by simp; omega
 have hT:=(Told.new (P.map clOf++[Zhw]) hne).aft hcl (tries:=3001) (size:=3000) (f:=3002) (InvN.new _ hne) (Or.inl (Zhv _ hne))
 rw [ha] at hT
 obtain ⟨n,h1,h2,h3,h4,h5,h6,h7⟩:=hT.each 0 _ _ rfl rfl
 have hy:=(Zpi hp Zml hcl h1 h2 h3 h4 h5).1
 rw [← h6,← h7] at hy
 refine ⟨hy,Zxm hp Zml hcl (hT.tree (show (2:Nat)≠3 by decide)) ?_⟩
 have:=Zkn (k:=P.length) (by omega)
 simp [Zdt]
 omega
def Yix (w:World) (B b:Nat) (ra:Option Addr) (rl rc:Nat) (e:Ending) (w':World):Prop:=∃ t:GT,t.fine=true∧t.hd≠Zfv∧t.text.length≤38∧e = .returned (.string ⟨t.text.toArray⟩)∧Kept (only b) w w'∧Zeb w' B b ra rl rc
theorem Zlo (w:World) (B b:Nat) (ra:Option Addr) (rl rc:Nat) (h:Zeb w B b ra rl rc):Calls Tryz.prog 48 #[.pointer (some ⟨b,0,none⟩)] w (Yix w B b ra rl rc):=by
 have HT:=Zac (Zfe w B b ra rl rc h 3 ⟨by omega,by omega⟩)
 have IH:=Zac (fun d hd=>Yee B b ra rl rc d hd)
 clear h
 go_enter Tryz.func48,Tryz.ntmps48
 go_wp2_with fail
 refine HT.out.mono ?_
 rintro e w1 ⟨v,hv,rfl,hK,hR⟩
 have HK:Hid (Kept (only b) w w1∧Zeb w1 B b ra rl rc):=⟨hK,hR⟩
 clear hK hR HT
 rcases (by omega:v=0∨v=1∨v=2) with rfl | rfl | rfl
 ·go_wp2
  go_ret
  exact ⟨.n [115,116,111,112],by decide +kernel,by decide,by decide,rfl,HK.out.1,HK.out.2⟩
 ·have H1:=Zac (IH.out 2 (by omega) w1 HK.out.2)
  go_wp2_with fail
  refine H1.out.mono ?_
  rintro e w2 ⟨t,h1,h2,h3,rfl,hK2,hR2⟩
  have HK2:Hid (Kept (only b) w w2∧Zeb w2 B b ra rl rc):=⟨HK.out.1.trans hK2,hR2⟩
  have Ht:=Zac (Yjn [112] t)
  have h2':t.size≤7:=h2
  have h3':t.text.length≤24:=h3
  clear hK2 hR2 H1 h2 h3
  go_wp2
  go_ret
  have hw:Zhh Zec [112]=true:=by decide +kernel
  exact ⟨.f [112] t,by unfold GT.fine; rw [Bool.and_eq_true,Bool.and_eq_true]; exact ⟨rfl,by simp only [GT.ok]; rw [hw,h1]; rfl,by rw [decide_eq_true_eq]; simp only [GT.size]; omega⟩,by simp [GT.hd,Zfv],by simp [GT.text]; omega,by rw [Ht.out]; rfl,HK2.out.1,HK2.out.2⟩
 ·have H1:=Zac (IH.out 2 (by omega) w1 HK.out.2)
  go_wp2_with fail
  refine H1.out.mono ?_
  rintro e w2 ⟨t,h1,h2,h3,rfl,hK2,hR2⟩
  have HK2:Hid (Kept (only b) w w2∧Zeb w2 B b ra rl rc):=⟨HK.out.1.trans hK2,hR2⟩
  have H2:=Zac (IH.out 1 (by omega) w2 hR2)
  have h2':t.size≤7:=h2
  have h3':t.text.length≤24:=h3
  clear hK2 hR2 H1 h2 h3
  go_wp2_with fail
  refine H2.out.mono ?_
  rintro e w3 ⟨u,k1,k2,k3,rfl,hK3,hR3⟩
  have HK3:Hid (Kept (only b) w w3∧Zeb w3 B b ra rl rc):=⟨HK2.out.1.trans hK3,hR3⟩
  have Ht:=Zac (Yjo [113] t u)
  have k2':u.size≤3:=k2
  have k3':u.text.length≤10:=k3
  clear hK3 hR3 H2 k2 k3
  go_wp2
  go_ret
  have hw:Zhh Zec [113]=true:=by decide +kernel
  exact ⟨.g [113] t u,by unfold GT.fine; rw [Bool.and_eq_true,Bool.and_eq_true]; exact ⟨rfl,by simp only [GT.ok]; rw [hw,h1,k1]; rfl,by rw [decide_eq_true_eq]; simp only [GT.size]; omega⟩,by simp [GT.hd,Zfv],by simp [GT.text]; omega,by rw [Ht.out]; rfl,HK3.out.1,HK3.out.2⟩
theorem Zqc:∀ (r:List GT) (t u:GT),Zci t (r++[u])=Zci t r++(44::u.text):=by
 intro r
 induction r with
 | nil=>intro t u; rfl
 | cons x r ih=>intro t u; simp [Zci,ih]
def Yfy (w:World) (B b:Nat) (ra:Option Addr) (rl rc:Nat) (e:Ending) (w':World):Prop:=∃ (t:GT) (r:List GT),t.fine=true∧(∀ u ∈ r,u.fine=true)∧r.length≤1∧(Zci t r).length≤77∧e = .returned (.string ⟨(Zci t r).toArray⟩)∧Kept (only b) w w'∧Zeb w' B b ra rl rc
theorem Yiy (t:GT) (r:List GT) (u:GT):(⟨(Zci t (r++[u])).toArray⟩:ByteArray)=⟨(Zci t r).toArray⟩++⟨#[44]⟩++⟨u.text.toArray⟩:=by
 show _=⟨(Zci t r).toArray⟩++(⟨[44].toArray⟩:ByteArray)++⟨u.text.toArray⟩
 rw [Zbb,Zbb,Zqc]
 simp
theorem Zqd (w:World) (B b:Nat) (ra:Option Addr) (rl rc:Nat) (h:Zeb w B b ra rl rc):Calls Tryz.prog 49 #[.pointer (some ⟨b,0,none⟩),.int .i64 2,.string ⟨#[44]⟩] w (Yfy w B b ra rl rc):=by
 have HS:=Zac (Zlo w B b ra rl rc h)
 clear h
 go_enter Tryz.func49,Tryz.ntmps49
 go_wp2_with fail
 refine HS.out.mono ?_
 rintro e w1 ⟨t,ht,_,hl,rfl,hK,hR⟩
 have HK:Hid (Kept (only b) w w1∧Zeb w1 B b ra rl rc):=⟨hK,hR⟩
 have HT:=Zac (Zfe w1 B b ra rl rc hR 2 ⟨by omega,by omega⟩)
 clear hK hR HS
 go_wp2_with fail
 refine HT.out.mono ?_
 rintro e w2 ⟨v,hv,rfl,hK2,hR2⟩
 have HK2:Hid (Kept (only b) w w2∧Zeb w2 B b ra rl rc):=⟨HK.out.1.trans hK2,hR2⟩
 have Ht:=Zac ht
 clear hK2 hR2 HT ht
 go_wp2
 go_loopw [7,8] (fun sv i u=>∃ (r:List GT) (k:Nat),i = .int .i64 k∧sv = .string ⟨(Zci t r).toArray⟩∧k+r.length≤1∧(∀ x ∈ r,x.fine=true)∧(Zci t r).length≤38+39 * r.length∧Kept (only b) w u∧Zeb u B b ra rl rc) (fun _ i _=>(intOf i).toNat)
 case atStart=>exact ⟨[],v,rfl,rfl,by simp; omega,by simp,by simpa [Zci] using hl,HK2.out.1,HK2.out.2⟩
 case round =>
  obtain ⟨r,k,rfl,rfl,hkr,hf,hbl,hKu,hRu⟩:=hrel
  have HKu:Hid (Kept (only b) w wr∧Zeb wr B b ra rl rc):=⟨hKu,hRu⟩
  have Hf:=Zac hf
  by_cases h0:k=0
  ·subst h0
   clear hKu hRu hf
   go_wp2
   go_ret
   exact ⟨t,r,Ht.out,Hf.out,by omega,by omega,rfl,HKu.out.1,HKu.out.2⟩
  ·have HS2:=Zac (Zlo wr B b ra rl rc hRu)
   have hI:(0:Int)<(k:Int):=by omega
   clear hKu hRu hf
   go_wp2_with fail
   refine HS2.out.mono ?_
   rintro e w3 ⟨u,hu,_,hul,rfl,hK3,hR3⟩
   have HK3:Hid (Kept (only b) w w3∧Zeb w3 B b ra rl rc):=⟨HKu.out.1.trans hK3,hR3⟩
   have Hb:=Zac (Yiy t r u)
   have Hu:=Zac hu
   clear hK3 hR3 hu
   go_wp2
   go_roundw
   case rel =>
    have hk1:((k - 1:Nat):Int)=(k:Int) - 1:=by omega
    refine ⟨r++[u],k - 1,by rw [hk1],by rw [Hb.out],by simp; omega,fun x hx => ?_,by rw [Zqc]; simp; omega,HK3.out.1,HK3.out.2⟩
    rcases Qk.1 hx with hx | hx
    ·exact Hf.out x hx
    ·simp at hx
     subst hx
     exact Hu.out
   case measure=>simp [intOf]; omega
theorem Zrp (w:World) (B b:Nat) (ra:Option Addr) (rl rc:Nat) (h:Zeb w B b ra rl rc):Calls Tryz.prog 31 #[.pointer (some ⟨b,0,none⟩)] w fun e w'=>(∃ (t:GT) (r:List GT),t.fine=true∧(∀ u ∈ r,u.fine=true)∧r.length≤1∧(Zci t r).length≤77∧e = .returned (.string ⟨(Zci t r++[46]).toArray⟩))∧Kept (only b) w w'∧Zeb w' B b ra rl rc:=by
 have HS:=Zac (Zqd w B b ra rl rc h)
 clear h
 go_enter Tryz.func31,Tryz.ntmps31
 go_wp2_with fail
 refine HS.out.mono ?_
 rintro e w1 ⟨t,r,ht,hr,hrl,hl,rfl,hK,hR⟩
 have HA:Hid (t.fine=true∧∀ u ∈ r,u.fine=true):=⟨ht,hr⟩
 have HK:Hid (Kept (only b) w w1∧Zeb w1 B b ra rl rc):=⟨hK,hR⟩
 have He:Hid ((⟨(Zci t r++[46]).toArray⟩:ByteArray)=⟨(Zci t r).toArray⟩++⟨#[46]⟩):=by show _=_; rw [← Zbb]
 clear hK hR HS ht hr
 go_wp2
 go_ret
 exact ⟨⟨t,r,HA.out.1,HA.out.2,hrl,hl,by rw [He.out]; rfl⟩,HK.out.1,HK.out.2⟩
theorem Zjb (P:List (GT × List GT)) (a:GT) (c:List GT):Zce (P++[(a,c)])=Zce P++clT a c:=by simp [Zce]
theorem Ymu (P:List (GT × List GT)) (a:GT):(⟨(Zce (P++[(a,[])])).toArray⟩:ByteArray)=⟨(Zce P).toArray⟩++⟨a.text.toArray⟩++⟨#[46]⟩:=by
 show _=⟨(Zce P).toArray⟩++⟨a.text.toArray⟩++(⟨[46].toArray⟩:ByteArray)
 rw [Zbb,Zbb,Zjb]
 simp [clT]
theorem Yly (P:List (GT × List GT)) (a t:GT) (r:List GT):(⟨(Zce (P++[(a,t::r)])).toArray⟩:ByteArray)=⟨(Zce P).toArray⟩++⟨a.text.toArray⟩++⟨#[58,45]⟩++⟨(Zci t r).toArray⟩++⟨#[46]⟩:=by
 show _=⟨(Zce P).toArray⟩++⟨a.text.toArray⟩++(⟨[58,45].toArray⟩:ByteArray)++⟨(Zci t r).toArray⟩++(⟨[46].toArray⟩:ByteArray)
 rw [Zbb,Zbb,Zbb,Zbb,Zjb]
 simp [clT]
theorem Zuk (w:World) (B b:Nat) (ra:Option Addr) (rl rc:Nat) (h:Zeb w B b ra rl rc):Calls Tryz.prog 30 #[.pointer (some ⟨b,0,none⟩)] w fun e w'=>(∃ (P:List (GT × List GT)),1≤P.length∧P.length≤5∧(∀ c ∈ P,ClFine c∧c.1.hd≠Zfv)∧(Zce P).length≤590∧e = .returned (.tuple #[.string ⟨(Zce P).toArray⟩,.int .i64 P.length]))∧Kept (only b) w w'∧Zeb w' B b ra rl rc:=by
 have HT:=Zac (Zfe w B b ra rl rc h 5 ⟨by omega,by omega⟩)
 clear h
 go_enter Tryz.func30,Tryz.ntmps30
 go_wp2_with fail
 refine HT.out.mono ?_
 rintro e w1 ⟨v,hv,rfl,hK,hR⟩
 have HK:Hid (Kept (only b) w w1∧Zeb w1 B b ra rl rc):=⟨hK,hR⟩
 clear hK hR HT
 obtain ⟨n,hn,hn5,hn1⟩:∃ n:Nat,(1:Int)+(v:Int)=(n:Int)∧n≤5∧1≤n:=⟨1+v,by omega,by omega,by omega⟩
 go_wp2
 go_loopw [4,6] (fun sv i u=>∃ (P:List (GT × List GT)),P.length≤n∧i = .int .i64 P.length∧sv = .string ⟨(Zce P).toArray⟩∧(∀ c ∈ P,ClFine c∧c.1.hd≠Zfv)∧(Zce P).length≤118 * P.length∧Kept (only b) w u∧Zeb u B b ra rl rc) (fun _ i _=>n - (intOf i).toNat)
 case atStart=>exact ⟨[],by simp,rfl,rfl,by simp,by simp [Zce],HK.out.1,HK.out.2⟩
 case round =>
  obtain ⟨P,hP,rfl,rfl,hf,hbl,hKu,hRu⟩:=hrel
  have HKu:Hid (Kept (only b) w wr∧Zeb wr B b ra rl rc):=⟨hKu,hRu⟩
  have Hf:=Zac hf
  by_cases hlt:P.length<n
  ·have HS:=Zac (Zlo wr B b ra rl rc hRu)
   clear hKu hRu hf
   go_wp2_with fail
   refine HS.out.mono ?_
   rintro e w3 ⟨a,ha,hah,hal,rfl,hK3,hR3⟩
   have HK3:Hid (Kept (only b) w w3∧Zeb w3 B b ra rl rc):=⟨HKu.out.1.trans hK3,hR3⟩
   have HT3:=Zac (Zfe w3 B b ra rl rc hR3 2 ⟨by omega,by omega⟩)
   have Ha:=Zac ha
   have Hah:=Zac hah
   clear hK3 hR3 ha HS hah
   go_wp2_with fail
   refine HT3.out.mono ?_
   rintro e w4 ⟨v4,hv4,rfl,hK4,hR4⟩
   have HK4:Hid (Kept (only b) w w4∧Zeb w4 B b ra rl rc):=⟨HK3.out.1.trans hK4,hR4⟩
   rcases (by omega:v4=0∨v4=1) with rfl | rfl
   ·have He:=Zac (Ymu P a)
    clear hK4 hR4 HT3
    go_wp2
    go_roundw
    case rel =>
     refine ⟨P++[(a,[])],by simp; omega,by simp,by rw [He.out],fun c hc => ?_,by rw [Zjb]; simp [clT]; omega,HK4.out.1,HK4.out.2⟩
     rcases Qk.1 hc with hc | hc
     ·exact Hf.out c hc
     ·simp at hc
      subst hc
      exact ⟨⟨Ha.out,by simp,by simp⟩,Hah.out⟩
    case measure=>simp [intOf]; omega
   ·have HS4:=Zac (Zqd w4 B b ra rl rc hR4)
    clear hK4 hR4 HT3
    go_wp2_with fail
    refine HS4.out.mono ?_
    rintro e w5 ⟨t,r,ht,hr,hrl,hbl5,rfl,hK5,hR5⟩
    have HK5:Hid (Kept (only b) w w5∧Zeb w5 B b ra rl rc):=⟨HK4.out.1.trans hK5,hR5⟩
    have He:=Zac (Yly P a t r)
    have Ht:Hid (t.fine=true∧∀ u ∈ r,u.fine=true):=⟨ht,hr⟩
    clear hK5 hR5 HS4 ht hr
    go_wp2
    go_roundw
    case rel =>
     refine ⟨P++[(a,t::r)],by simp; omega,by simp,by rw [He.out],fun c hc => ?_,by rw [Zjb]; simp [clT]; omega,HK5.out.1,HK5.out.2⟩
     rcases Qk.1 hc with hc | hc
     ·exact Hf.out c hc
     ·simp at hc
      subst hc
      refine ⟨⟨Ha.out,fun x hx => ?_,by simp; omega⟩,Hah.out⟩
      rcases Qp.1 hx with rfl | hx
      ·exact Ht.out.1
      ·exact Ht.out.2 x hx
    case measure=>simp [intOf]; omega
  ·have hPn:P.length=n:=by omega
   have HPn:=Zac hPn
   clear hKu hRu hf hPn
   go_wp2
   go_ret2
   exact ⟨⟨P,by have:=HPn.out; omega,by have:=HPn.out; omega,Hf.out,by have:=HPn.out; omega,by rw [← HPn.out]; rfl⟩,HKu.out.1,HKu.out.2⟩
theorem Yiz {n:ND} (hQ:NodeQ Zgq n) (hN:NOk n) (hk:∀ k ∈ n.used,k≤99):(Zev n).length≤100000000:=by
 have hd9:∀ d ∈ n.done.map (·.2),d≤100:=fun d hd=>by
  obtain ⟨g,hg,rfl⟩:=List.mem_map.1 hd
  have:=(hN.ds g hg).2
  have:=hN.ul
  omega
 have hfl:(n.done.map (·.1)).flatten.length≤30 * (n.done.map (·.1)).length:=Znw (fun t ht=>by
  obtain ⟨g,hg,rfl⟩:=List.mem_map.1 ht
  exact (hN.ds g hg).1)
 have hdn:n.done.length≤100:=by rw [hN.dl]; exact hN.ul
 simp only [Ql] at hfl
 have:=Ztb (n.done.map (·.1)) (n.done.map (·.2)) n.used [] hd9 hk (fun t ht=>by
  have hin:t ∈ n.terms:=by unfold ND.terms; simp only [Qk]; exact Or.inr (Or.inr ht)
  obtain ⟨g,hg,rfl⟩:=List.mem_map.1 ht
  refine ⟨hN.wf _ hin,by have:=(hN.ds g hg).1; omega,fun s hs => ?_⟩
  by_cases e:s.name=[]
  ·rw [e]; simp
  ·have:=(hQ.names _ hin s hs e).2
   omega) (by simp only [Jt]; omega)
 simp only [Ql] at this
 unfold Zev
 omega
theorem Ybk {cs:List Cls} {a:List (List Sym) × Names} (hcl:cs.length≤24):∀ {n:Nat} {s:SN},InvN cs a s→(Zbl cs n s).1.tries=s.tries+(Zbl cs n s).2:=by
 intro n
 induction n with
 | zero=>intro s _; rfl
 | succ n ih =>
  intro s hI
  simp only [Zbl]
  split
  ·rename_i hgo
   obtain ⟨m,k,r,c,hw,hc,_⟩:=hI.head hgo.2.1
   have hI1:InvN cs a (Zam cs s):=hI.try' hcl hgo.1 hw hc hgo.2.2
   have e3:=(Zhp hw hc hgo.1).2.2.1
   have:=ih hI1
   simp only
   omega
  ·rfl
theorem Ybl {cs:List Cls} {a:List (List Sym) × Names} (hcl:cs.length≤24) {n:Nat} {s:SN} (hI:InvN cs a s):(Zaz cs n s).1.tries=s.tries+(Zaz cs n s).2:=by
 unfold Zaz
 split
 ·rfl
 ·have h:=Ybk (n:=n) hcl (hI.seek (by omega))
  simp only
  have he:∀ z:SN,(endN z).tries=z.tries:=fun z=>by
   unfold endN Zfu
   split
   ·rfl
   ·split
    ·split
     ·rfl
     ·split <;> rfl
    ·rfl
  rw [he]
  exact h
theorem Yja {cs:List Cls} {a:List (List Sym) × Names} (hcl:cs.length≤24) {tries size:Nat}:∀ {f:Nat} {m:SN} {t:Tr},InvN cs a m→m.tries=t.tries→t.tries≤tries→InvN cs a (aftN cs a tries size f m t).1∧(aftN cs a tries size f m t).1.tries≤tries:=by
 intro f
 induction f with
 | zero=>intro m t hI h1 h2; exact ⟨hI,by show m.tries≤tries; omega⟩
 | succ f ih =>
  intro m t hI h1 h2
  rw [aftN]
  split
  ·have hI1:=hI.step hcl (n:=Zco size (tries - t.tries))
   have h3:=Ybl (n:=Zco size (tries - t.tries)) hcl hI
   have h4:=Zmg (cs:=cs) (n:=Zco size (tries - t.tries)) (s:=m)
   have h5:Zco size (tries - t.tries)≤tries - t.tries:=by unfold Zco; split <;> omega
   split
   ·exact ⟨hI1,by show (Zaz cs _ m).1.tries≤tries; omega⟩
   ·exact ih hI1 (by rw [Zea,h3,h1]) (by rw [Zea]; omega)
  ·exact ⟨hI,by show m.tries≤tries; omega⟩
structure WarrF (p q:ByteArray) (a:List (List Sym) × Names) (R:SN × Tr):Prop where
 len:R.2.ans.length=R.2.wts.length
 each:∀ (i:Nat) (A W:List UInt8),R.2.ans[i]?=some A→R.2.wts[i]?=some W→yesN p q ⟨W.toArray⟩=(A,0,0)∧W.length≤400∧∃ E,Zqx p q ⟨W.toArray⟩=(E,0,0)∧E.length≤100000000∧∃ L,(∀ s ∈ L,SegOk s)∧L≠[]∧E=linT L∧W++[46]=linB L∧∃ c,E[0]?=some c∧c≠32
 all:R.1.status=2→R.1.tree.length≤20000∧allN p q ⟨R.1.tree.toArray⟩=(R.2.ans,0,0)
theorem Ybm (P:List (GT × List GT)) (hP:∀ c ∈ P,ClFine c) (hl:P.length≤24) (hs:(Zce P).length≤800) (t:GT) (r:List GT) (ht:t.fine=true) (hr:∀ u ∈ r,u.fine=true) (hrl:r.length<6) (hq:(Zci t r++[46]).length≤120) (tries size:Nat) (h400:tries≤700) :
  WarrF ⟨(Zce P).toArray⟩ ⟨(Zci t r++[46]).toArray⟩ (Zhz (t::r) []) (aftN (P.map clOf) (Zhz (t::r) []) tries size (tries+1) (newN (P.map clOf) (Zhz (t::r) [])) ⟨[],[],0,0⟩):=by
 have hp:=Zju P hP hl hs
 have hk:=Zlh t r ht hr hrl hq
 obtain ⟨_,_,_,hcs,hcl⟩:=Zcx hp
 obtain ⟨_,_,_,_,_,_,hane,_,_⟩:=Zdf hk
 obtain ⟨cs,hcse⟩:∃ cs,cs=P.map clOf:=⟨_,rfl⟩
 obtain ⟨a,hae⟩:∃ a,a=Zhz (t::r) []:=⟨_,rfl⟩
 have hQc:∀ c ∈ cs,CQ Zgq c:=fun c hc=>by
  rw [hcse] at hc
  obtain ⟨x,hx,rfl⟩:=List.mem_map.1 hc
  exact Yea (hP x hx)
 have hQt:NodeQ Zgq (topN a):=NodeQ.top (by
  rw [hae]
  exact Zpm _ _ (fun u hu=>by
   rcases Qp.1 hu with rfl | hu
   ·exact (GT.fine_iff ht).2.1
   ·exact (GT.fine_iff (hr u hu)).2.1))
 rw [← hcse] at hp hcs hcl ⊢
 rw [← hae] at hk hane ⊢
 have hT:=(Told.new cs hane).aft hcl (tries:=tries) (size:=size) (f:=tries+1) (InvN.new cs hane) (Or.inl (Zhv cs hane))
 refine ⟨hT.len,fun i A W hA hW => ?_,fun h2 => ?_⟩
 ·obtain ⟨n,h1,h2,h3,h4,h5,rfl,rfl⟩:=hT.each i A W hA hW
  obtain ⟨y1,y2⟩:=Zpi hp hk hcl h1 h2 h3 h4 h5
  have hQ:=NodeQ.reach hQc hQt h1
  have hN:=Yed (fun c hc=>(hcs c hc).1) h3 h1
  have hwl:=Znj n.used (fun j hj=>by have:=h5 j hj; omega)
  refine ⟨y1,by unfold Zdl; omega,_,y2,Yiz hQ hN (fun k hk=>by have:=h5 k hk; omega),?_⟩
  exact Zre hQ hN h3
 ·have hn0:(newN cs a).tries=0:=by
   unfold newN Zcv Zbx
   rw [if_neg (Zeo hane)]
  obtain ⟨hI,htr⟩:=Yja (cs:=cs) (a:=a) hcl (tries:=tries) (size:=size) (f:=tries+1) (t:=⟨[],[],0,0⟩) (InvN.new cs hane) hn0 (Qm _)
  have hlen:=hI.len
  have hl:(aftN cs a tries size (tries+1) (newN cs a) ⟨[],[],0,0⟩).1.tree.length≤20000:=by omega
  have hw:=hI.no h2
  have htree:=hT.tree (by omega)
  rw [hw] at htree
  exact ⟨hl,Zxm hp hk hcl htree hl⟩
def Zku (l:List UInt8) (p:Nat):UInt8:=(l[p]?).getD 0
theorem Yjb {s:ByteArray} {p:Nat} (h:p<s.size):Zku s.data.toList p=s[p]:=by unfold Zku; rw [Ykh h]; rfl
theorem Yjc {s:ByteArray} {p:Nat} (h:s.size≤p):Zku s.data.toList p=0:=by
 unfold Zku
 rw [List.getElem?_eq_none (by simpa using h)]
 rfl
theorem Zyj {l:List UInt8} {p:Nat} {c:UInt8} (hc:c≠0):Zku l p=c↔l[p]?=some c:=by
 unfold Zku
 cases l[p]? with
 | none=>simp; exact fun h=>hc h.symm
 | some d=>simp
theorem Zul (s:ByteArray) (p:Nat) (w:World) (hs:s.size≤100000) (hp:p≤100000):Calls Tryz.prog 136 #[.string s,.int .i64 p] w fun e w'=>e = .returned (.int .u8 (Zku s.data.toList p).toNat)∧w'=w:=by
 by_cases h:p<s.size
 ·have Hb:=Zac (Yjb h)
  have h1:¬ ((s.size:Int)≤(p:Int)):=by omega
  go_enter Tryz.func136,Tryz.ntmps136
  go_wp2
  go_ret
  exact ⟨by rw [Hb.out]; rfl,rfl⟩
 ·have Hb:=Zac (Yjc (Nat.le_of_not_lt h))
  have h1:((s.size:Int)≤(p:Int)):=by omega
  go_enter Tryz.func136,Tryz.ntmps136
  go_wp2
  go_ret
  exact ⟨by rw [Hb.out]; rfl,rfl⟩
theorem Zwo (w:World) (b:Nat) (o:Int) (due:Bool) (hb:w.heap[b]?=some (.cells #[.int .i64 o,.bool due] 173 (0,0))):Calls Tryz.prog 101 #[.pointer (some ⟨b,0,none⟩)] w fun e w'=>e = .returned (.bool (!due && (o == 0)))∧w'=w:=by
 obtain ⟨b0,b1,bf⟩:=box2 hb
 have hbl:=Zab hb
 clear hb
 cases due with
 | true =>
  go_enter Tryz.func101,Tryz.ntmps101
  go_wp2
  go_ret
  exact ⟨rfl,rfl⟩
 | false =>
  go_enter Tryz.func101,Tryz.ntmps101
  go_wp2
  go_ret
  exact ⟨rfl,rfl⟩
def Zfg (l:List UInt8) (p o:Nat) (due:Bool):Nat × Nat × Bool :=
 if due=true then (if Zku l p=33 then (p+1,o,false) else if Zku l p=40 then (p+1,o+1,false) else (p,o,true))
 else if Zku l p=41 then (p+1,o - 1,false) else (p+(Zak (l.drop p)).2,o,decide (0<(Zak (l.drop p)).2))
def Zip (l:List UInt8) (p o:Nat) (due:Bool) (b:Nat) (w:World) (e:Ending) (w':World):Prop:=e = .returned (.int .i64 (Zfg l p o due).1)∧Kept (only b) w w'∧w'.heap[b]?=some (.cells #[.int .i64 (Zfg l p o due).2.1,.bool (Zfg l p o due).2.2] 173 (0,0))
theorem Yfz (s:ByteArray) (p o:Nat) (due:Bool) (b:Nat) (w:World) (hs:s.size≤20000) (hp:p≤20000) (ho:o≤20000) (ho1:due=false→0<o) (hb:w.heap[b]?=some (.cells #[.int .i64 o,.bool due] 173 (0,0))) :
  Calls Tryz.prog 102 #[.pointer (some ⟨b,0,none⟩),.string s,.int .i64 p] w (Zip s.data.toList p o due b w):=by
 obtain ⟨b0,b1,bf⟩:=box2 hb
 have hbl:=Zab hb
 have Hb:=Zac hb
 have HB:=Zac (Zul s p w (by omega) (by omega))
 obtain ⟨c,hc⟩:∃ c,c=Zku s.data.toList p:=⟨_,rfl⟩
 rw [← hc] at HB
 clear hb
 cases due with
 | true =>
  by_cases h33:c=33
  ·have Hfin:Hid (Zfg s.data.toList p o true=(p+1,o,false)):=by show _=_; unfold Zfg; rw [if_pos rfl,if_pos (by rw [← hc]; exact h33)]
   have k1:((c.toNat:Int) != 33)=false:=by rw [h33]; rfl
   have k2:((c.toNat:Int) == 40)=false:=by rw [h33]; rfl
   clear hc h33 ho1
   go_enter Tryz.func102,Tryz.ntmps102
   go_wp2_with fail
   refine HB.out.mono ?_
   rintro e w1 ⟨rfl,rfl⟩
   go_wp2
   go_ret
   unfold Zip
   rw [Hfin.out]
   exact ⟨by simp,(Qx _ _).put 1 _,Zaf Hb.out 1 _⟩
  ·have k1:((c.toNat:Int) != 33)=true:=by rw [bne_iff_ne]; exact Ygz h33
   by_cases h40:c=40
   ·have Hfin:Hid (Zfg s.data.toList p o true=(p+1,o+1,false)):=by show _=_; unfold Zfg; rw [if_pos rfl,if_neg (by rw [← hc]; exact h33),if_pos (by rw [← hc]; exact h40)]
    have k2:((c.toNat:Int) != 40)=false:=by rw [h40]; rfl
    have k3:((c.toNat:Int) == 40)=true:=by rw [h40]; rfl
    clear hc h33 h40 ho1
    go_enter Tryz.func102,Tryz.ntmps102
    go_wp2_with fail
    refine HB.out.mono ?_
    rintro e w1 ⟨rfl,rfl⟩
    go_wp2
    go_ret
    unfold Zip
    rw [Hfin.out]
    exact ⟨by simp,((Qx _ _).put 0 _).put 1 _,Zaf (Zaf Hb.out 0 _) 1 _⟩
   ·have Hfin:Hid (Zfg s.data.toList p o true=(p,o,true)):=by show _=_; unfold Zfg; rw [if_pos rfl,if_neg (by rw [← hc]; exact h33),if_neg (by rw [← hc]; exact h40)]
    have k2:((c.toNat:Int) != 40)=true:=by rw [bne_iff_ne]; exact Ygz h40
    clear hc h33 h40 ho1
    go_enter Tryz.func102,Tryz.ntmps102
    go_wp2_with fail
    refine HB.out.mono ?_
    rintro e w1 ⟨rfl,rfl⟩
    go_wp2
    go_ret
    unfold Zip
    rw [Hfin.out]
    exact ⟨rfl,Qx _ _,Hb.out⟩
 | false =>
  have ho2:=ho1 rfl
  by_cases h41:c=41
  ·have Hfin:Hid (Zfg s.data.toList p o false=(p+1,o - 1,false)):=by show _=_; unfold Zfg; rw [if_neg (by simp),if_pos (by rw [← hc]; exact h41)]
   have k1:((c.toNat:Int) == 41)=true:=by rw [h41]; rfl
   clear hc h41 ho1
   go_enter Tryz.func102,Tryz.ntmps102
   go_wp2_with fail
   refine HB.out.mono ?_
   rintro e w1 ⟨rfl,rfl⟩
   go_wp2
   go_ret
   unfold Zip
   rw [Hfin.out]
   refine ⟨by simp,(Qx _ _).put 0 _,?_⟩
   rw [show ((p+1,o - 1,false):Nat × Nat × Bool).2.1=o - 1 from rfl,show ((o - 1:Nat):Int)=(o:Int) - 1 by omega]
   exact Zaf Hb.out 0 _
  ·obtain ⟨N,hN⟩:∃ N,N=(Zak (s.data.toList.drop p)).2:=⟨_,rfl⟩
   have Hfin:Hid (Zfg s.data.toList p o false=(p+N,o,decide (0<N))):=by show _=_; unfold Zfg; rw [if_neg (by simp),if_neg (by rw [← hc]; exact h41),← hN]
   have k1:((c.toNat:Int) == 41)=false:=by rw [Qu]; exact Ygz h41
   have HA:=Zac (Yfj s p w (by omega) (by omega))
   obtain ⟨V,hV⟩:∃ V,V=(Zak (s.data.toList.drop p)).1:=⟨_,rfl⟩
   rw [← hN,← hV] at HA
   clear hc h41 ho1 hN hV
   go_enter Tryz.func102,Tryz.ntmps102
   go_wp2_with fail
   refine HB.out.mono ?_
   rintro e w1 ⟨rfl,rfl⟩
   go_wp2_with fail
   refine HA.out.mono ?_
   rintro e w1 ⟨rfl,rfl⟩
   by_cases h0:0<N
   ·have h2:(p:Int)<(p:Int)+(N:Int):=by omega
    go_wp2
    go_ret
    unfold Zip
    rw [Hfin.out]
    refine ⟨by simp,(Qx _ _).put 1 _,?_⟩
    rw [show ((p+N,o,decide (0<N)):Nat × Nat × Bool).2.2=true from decide_eq_true h0]
    exact Zaf Hb.out 1 _
   ·obtain rfl:N=0:=by omega
    go_wp2
    go_ret
    unfold Zip
    rw [Hfin.out]
    refine ⟨by simp,(Qx _ _).put 1 _,?_⟩
    exact Zaf Hb.out 1 _
def Zwp (l:List UInt8) (w:World) (e:Ending) (w':World):Prop:=Ext w w'∧e = .returned (match Zfn l with | none => .agg #[.int .i64 0,.int .i64 0] | some p => .agg #[.int .i64 6,.int .i64 p])
theorem Ybn {l:List UInt8} {f p o:Nat} {due:Bool} (h:l.length≤p):Zdb l (f+1) p o due=if due=true∨0<o then some p else none:=by
 unfold Zdb
 rw [List.getElem?_eq_none h]
theorem Zum {l:List UInt8} {f p:Nat} (h:p<l.length):Zdb l (f+1) p 0 false=some p:=by
 unfold Zdb
 rw [Qb h]
 simp
theorem Zwq {l:List UInt8} {f p o:Nat} {due:Bool} (h:p<l.length) (ho:due=false→0<o):Zdb l (f+1) p o due=if (Zfg l p o due).1=p then some p else Zdb l f (Zfg l p o due).1 (Zfg l p o due).2.1 (Zfg l p o due).2.2:=by
 have hb:Zku l p=l[p]:=by unfold Zku; rw [Qb h]; rfl
 rw [Zdb,Zfg,Qb h,hb]
 simp only
 cases due with
 | true =>
  simp only [if_true]
  split
  ·simp
  ·split
   ·simp
   ·simp
 | false =>
  have:=ho rfl
  simp only [Bool.false_eq_true,if_false]
  rw [if_neg (by omega)]
  split
  ·simp
  ·by_cases h0:(Zak (l.drop p)).2=0
   ·simp [h0]
   ·rw [if_neg h0,if_neg (by simp only; omega)]
    simp [show 0<(Zak (l.drop p)).2 by omega]
theorem Yjd {l:List UInt8} {p o:Nat} {due:Bool} (h:p<l.length) (ho:o≤p):p≤(Zfg l p o due).1∧(Zfg l p o due).1≤l.length∧((Zfg l p o due).1≠p→(Zfg l p o due).2.1≤(Zfg l p o due).1):=by
 have hn:=Zdy (l.drop p)
 simp only [List.length_drop] at hn
 unfold Zfg
 split
 ·split
  ·exact ⟨Nat.le_succ _,h,fun _=>by show o≤p+1; omega⟩
  ·split
   ·exact ⟨Nat.le_succ _,h,fun _=>by show o+1≤p+1; omega⟩
   ·exact ⟨Qe _,Nat.le_of_lt h,fun h=>absurd rfl h⟩
 ·split
  ·exact ⟨Nat.le_succ _,h,fun _=>by show o - 1≤p+1; omega⟩
  ·exact ⟨Nat.le_add_right _ _,by show p+_≤_; omega,fun _=>by show o≤p+_; omega⟩
theorem Zeg {w w1 w2:World} {b:Nat} (h:Ext w w1) (hk:Kept (only b) w1 w2) (hb:w.heap.size≤b):Ext w w2 :=
 h.trans (hk.below h.size (fun k e=>by have e:k=b:=e; omega))
theorem Zrq (s:ByteArray) (w:World) (hs:s.size≤20000):Calls Tryz.prog 81 #[.string s] w (Zwp s.data.toList w):=by
 have hsl:s.data.toList.length=s.size:=by simp
 obtain ⟨l,hl⟩:∃ l,l=s.data.toList:=⟨_,rfl⟩
 have HT:=Zac (fun p o due b u (h1:p≤20000) (h2:o≤20000) h3 h4=>Yfz s p o due b u hs h1 h2 h3 h4)
 rw [← hl] at hsl HT ⊢
 have HW:=Zac (fun u b o due hb=>Zwo u b o due hb)
 have Hsl:=Zac hsl
 clear hsl
 go_enter Tryz.func81,Tryz.ntmps81
 go_wp2
 go_loopg [4] (s.size+1) (fun gk av wr=>∃ (p o f:Nat) (due:Bool),av = .int .i64 p∧p≤s.size∧s.size - p<gk∧o≤p∧s.size<f+p∧Zdb l f p o due=Zfn l∧Ext w wr∧wr.heap[w.heap.size]?=some (.cells #[.int .i64 0,.int .i64 0] 91 (0,0))∧wr.heap[w.heap.size+1]?=some (.cells #[.int .i64 o,.bool due] 173 (0,0)))
 case atStart=>exact ⟨0,0,s.size+1,true,by go_num,by omega,by omega,by omega,by omega,by unfold Zfn; rw [Hsl.out],(Ext.of (by repeat' (first | with_reducible(first|exact Qx _ _|apply Kept.drew|apply Kept.drewN|apply Qz|refine Qy ?_ ?_ _)|exact fun h=>absurd h (by simp <;> omega)))),Zas (heap_alloc_new w _) _,Zdq (by simp) _⟩
 case round =>
  obtain ⟨p,o,f,due,rfl,hp,hgk,hop,hf,hsh,hE,hb0,hb1⟩:=hrel
  obtain ⟨f,rfl⟩:∃ f',f=f'+1:=⟨f - 1,by omega⟩
  have hs1:=Zab hb1
  have HWr:=Zac (HW.out wr _ o due hb1)
  by_cases hgo:p<s.size∧¬ (due=false∧o=0)
  ·obtain ⟨hlt,hnw⟩:=hgo
   have how:due=false→0<o:=fun h=>Nat.pos_of_ne_zero (fun h'=>hnw ⟨h,h'⟩)
   have hw0:(!due && ((o:Int) == 0))=false:=by
    cases due with
    | true=>rfl
    | false =>
     have:=how rfl
     simp
     omega
   rw [hw0] at HWr
   have HTr:=Zac (HT.out p o due (w.heap.size+1) wr (by omega) (by omega) how hb1)
   rw [Zwq (by rw [Hsl.out]; exact hlt) how] at hsh
   obtain ⟨p2,hp2⟩:∃ p2,p2=(Zfg l p o due).1:=⟨_,rfl⟩
   obtain ⟨o2,ho2⟩:∃ o2,o2=(Zfg l p o due).2.1:=⟨_,rfl⟩
   obtain ⟨d2,hd2⟩:∃ d2,d2=(Zfg l p o due).2.2:=⟨_,rfl⟩
   unfold Zip at HTr
   rw [← hp2,← ho2,← hd2] at hsh HTr
   have hbd:=Yjd (l:=l) (p:=p) (o:=o) (due:=due) (by rw [Hsl.out]; exact hlt) hop
   rw [← hp2,← ho2,Hsl.out] at hbd
   obtain ⟨hbd1,hbd2,hbd3⟩:=hbd
   have Hsh:=Zac hsh
   have HE:=Zac hE
   have Hb0:=Zac hb0
   have hlt':(p:Int)<(s.size:Int):=by omega
   clear hsh hE hb0 hb1 hw0 hp2 ho2 hd2
   go_wp2_with fail
   refine HWr.out.mono ?_
   rintro e w1 ⟨rfl,rfl⟩
   go_wp2_with fail
   refine HTr.out.mono ?_
   rintro e w2 ⟨rfl,hK2,hb2⟩
   have hb0':=(hK2.block w.heap.size (by omega) (fun e=>by have e:w.heap.size=w.heap.size+1:=e; omega)).trans Hb0.out
   have HE2:Hid (Ext w w2):=Zeg HE.out hK2 (by omega)
   by_cases he:p2=p
   ·have Hn:Hid (Zfn l=some p):=by show _=_; rw [← Hsh.out,if_pos he]
    subst he
    obtain ⟨c0,c1,cf⟩:=box2 hb0'
    have hlb:=Zab hb0'
    clear hb0' hK2 hb2
    go_wp2
    refine bodyPost_ret (v := .agg #[.int .i64 6,.int .i64 p2]) (by simp [results,Tryz.results81,go_sem,c0,c1,cf]) rfl ?_
    exact ⟨Zeg HE2.out (((Qx _ _).put 0 _).put 1 _) (Qe _),by rw [Hn.out]⟩
   ·have he2:((p2:Int) == (p:Int))=false:=by rw [Qu]; omega
    have Hn:Hid (Zdb l f p2 o2 d2=Zfn l):=by show _=_; rw [← Hsh.out,if_neg he]
    have Hb0':=Zac hb0'
    have Hb2:=Zac hb2
    have ho3:=hbd3 he
    clear hb0' hK2 hb2 Hsh
    go_wp2
    go_roundg (s.size - p)
    case measure=>omega
    case rel=>exact ⟨p2,o2,f,d2,rfl,hbd2,by omega,ho3,by omega,Hn.out,HE2.out,Hb0'.out,Hb2.out⟩
  ·have hend:¬ (((!(!due && ((o:Int) == 0))) && decide ((p:Int)<(s.size:Int)))=true):=fun h=>by
    rw [Bool.and_eq_true,decide_eq_true_iff] at h
    refine hgo ⟨by omega,fun ⟨h1,h2⟩ => ?_⟩
    rw [h1,h2] at h
    simp at h
   obtain ⟨c0,c1,cf⟩:=box2 hb0
   have HE:=Zac hE
   have hlb:=Zab hb0
   by_cases hlt:p<s.size
   ·have hwh:due=false∧o=0:=by
     by_cases h:due=false∧o=0
     ·exact h
     ·exact absurd ⟨hlt,h⟩ hgo
    obtain ⟨rfl,rfl⟩:=hwh
    have Hn:Hid (Zfn l=some p):=by show _=_; rw [← hsh]; exact Zum (by rw [Hsl.out]; exact hlt)
    have hlt':(p:Int)<(s.size:Int):=by omega
    clear hsh hE hb0 hb1 hend hgo
    go_wp2_with fail
    refine HWr.out.mono ?_
    rintro e w1 ⟨rfl,rfl⟩
    go_wp2
    refine bodyPost_ret (v := .agg #[.int .i64 6,.int .i64 p]) (by simp [results,Tryz.results81,go_sem,c0,c1,cf]) rfl ?_
    exact ⟨Zeg HE.out (((Qx _ _).put 0 _).put 1 _) (Qe _),by rw [Hn.out]⟩
   ·have hlt':¬ (p:Int)<(s.size:Int):=by omega
    have hn:=Ybn (l:=l) (f:=f) (p:=p) (o:=o) (due:=due) (by rw [Hsl.out]; omega)
    rw [hsh] at hn
    by_cases hwh:due=false∧o=0
    ·obtain ⟨rfl,rfl⟩:=hwh
     have Hn:Hid (Zfn l=none):=by show _=_; rw [hn]; simp
     clear hsh hE hb0 hb1 hend hgo hn
     go_wp2_with fail
     refine HWr.out.mono ?_
     rintro e w1 ⟨rfl,rfl⟩
     go_wp2_with fail
     refine HWr.out.mono ?_
     rintro e w1 ⟨rfl,rfl⟩
     go_wp2
     refine bodyPost_ret (v := .agg #[.int .i64 0,.int .i64 0]) (by simp [results,Tryz.results81,go_sem,c0,c1,cf]) rfl ?_
     exact ⟨Zeg HE.out (((Qx _ _).put 0 _).put 1 _) (Qe _),by rw [Hn.out]⟩
    ·have Hn:Hid (Zfn l=some p):=by
      show _=_
      rw [hn,if_pos]
      by_cases h:due=true
      ·exact Or.inl h
      ·refine Or.inr (Nat.pos_of_ne_zero (fun h'=>hwh ⟨by simpa using h,h'⟩))
     have hw0:(!due && ((o:Int) == 0))=false:=by
      cases due with
      | true=>rfl
      | false =>
       simp
       intro h
       exact hwh ⟨rfl,by omega⟩
     rw [hw0] at HWr
     clear hsh hE hb0 hb1 hend hgo hn hw0 hwh
     go_wp2_with fail
     refine HWr.out.mono ?_
     rintro e w1 ⟨rfl,rfl⟩
     go_wp2_with fail
     refine HWr.out.mono ?_
     rintro e w1 ⟨rfl,rfl⟩
     go_wp2
     refine bodyPost_ret (v := .agg #[.int .i64 6,.int .i64 p]) (by simp [results,Tryz.results81,go_sem,c0,c1,cf]) rfl ?_
     exact ⟨Zeg HE.out (((Qx _ _).put 0 _).put 1 _) (Qe _),by rw [Hn.out]⟩
def HoTy (t:TypeId):Prop:=t=142∨t=235∨t=9
def FrT (w w':World):Prop:=∀ (k:Nat) (cl:Array Value) (t:TypeId) (fr:Nat × Nat),w.heap[k]?=some (.cells cl t fr)→¬ HoTy t→w'.heap[k]?=some (.cells cl t fr)
theorem FrT.trans {w1 w2 w3:World} (h:FrT w1 w2) (h':FrT w2 w3):FrT w1 w3:=fun k cl t fr e ht=>h' k cl t fr (h k cl t fr e ht) ht
theorem FrT.of_ext {w w':World} (h:Ext w w'):FrT w w':=fun k cl t fr e _=>(h.block k (Zab e)).trans e
theorem FrT.of_kept {S:Nat→Prop} {w w':World} (h:Kept S w w') (hS:∀ k,S k→∃ cl t fr,w.heap[k]?=some (.cells cl t fr)∧HoTy t):FrT w w':=fun k cl t fr e ht=>(h.block k (Zab e) (fun hs=>by
 obtain ⟨cl',t',fr',h1,h2⟩:=hS k hs
 rw [h1] at e
 simp at e
 exact ht (e.2.1 ▸ h2))).trans e
theorem FrT.own {w w':World} {B:Nat} {e:TypeId} {size n:Nat} {v:Value} {xs:List Value} (hF:FrT w w') (he:¬ HoTy e) (h:w.ownsRow B e size v n xs):w'.ownsRow B e size v n xs :=
 Zah h (fun k hj=>by
  rcases h.2 with ⟨rfl,_⟩ | ⟨g,cap,cur,rfl,_,hg,_⟩
  ·simp [Value.ownBlock] at hj
  ·simp [Value.ownBlock] at hj
   subst hj
   rw [hF _ _ _ _ hg he,hg])
theorem FrT.terms {w w':World} {v:Value} {ls:List (List Sym)} (hF:FrT w w') (h:TermsIn w v ls):TermsIn w' v ls:=by
 obtain ⟨vs,h⟩:=h
 exact ⟨vs,hF.own (by simp [HoTy]) h.owns,fun i l hl=>by
  obtain ⟨x,h1,h2⟩:=h.all i l hl
  exact ⟨x,h1,hF.own (by simp [HoTy]) h2⟩⟩
theorem CNode.fr {w w':World} {gv vv rv uv:Value} {n0:ND} (h:CNode w gv vv rv uv n0) (hF:FrT w w'):CNode w' gv vv rv uv n0:=by
 obtain ⟨n,h1,h2⟩:=h
 exact ⟨n,⟨hF.terms h1.goals,hF.terms h1.vals,hF.terms h1.done⟩,h2⟩
structure RowH (B:Nat) (w:World) (v:Value) (ds:List (ND × Nat)) (xs:List Value):Prop where
 owns:w.ownsRow B 235 5 v ds.length xs
 all:∀ (i:Nat) (d:ND × Nat),ds[i]?=some d→∃ x0 x1 x2 x3,xs[i * 5]?=some x0∧xs[i * 5+1]?=some x1∧xs[i * 5+2]?=some x2∧xs[i * 5+3]?=some x3∧xs[i * 5+4]?=some (.int .i64 d.2)∧CNode w x0 x1 x2 x3 d.1
theorem RowH.keep {B:Nat} {w w':World} {v:Value} {ds:List (ND × Nat)} {xs:List Value} (h:RowH B w v ds xs) (hF:FrT w w') (ho:∀ k,v.ownBlock=some k→w'.heap[k]?=w.heap[k]?):RowH B w' v ds xs :=
 ⟨Zah h.owns ho,fun i d hd=>by
  obtain ⟨x0,x1,x2,x3,y0,y1,y2,y3,y4,g⟩:=h.all i d hd
  exact ⟨x0,x1,x2,x3,y0,y1,y2,y3,y4,g.fr hF⟩⟩
theorem RowH.pop {B:Nat} {w:World} {g n cap:Nat} {ds:List (ND × Nat)} {d:ND × Nat} {xs:List Value} (h:RowH B w (.slice (some ⟨g,0,none⟩) (n+1) cap) (ds++[d]) xs) (hn:ds.length=n):RowH B w (.slice (some ⟨g,0,none⟩) n cap) ds (xs.take (n * 5)):=by
 have ho:=h.owns
 rw [Qg,Qn,hn] at ho
 refine ⟨by rw [hn]; exact Ztc ho,fun i x hx => ?_⟩
 have hi:=(Qa.1 hx).1
 obtain ⟨x0,x1,x2,x3,y0,y1,y2,y3,y4,g⟩:=h.all i x (by rw [Qc hi]; exact hx)
 exact ⟨x0,x1,x2,x3,by rw [List.getElem?_take_of_lt (by omega)]; exact y0,by rw [List.getElem?_take_of_lt (by omega)]; exact y1,by rw [List.getElem?_take_of_lt (by omega)]; exact y2,by rw [List.getElem?_take_of_lt (by omega)]; exact y3,by rw [List.getElem?_take_of_lt (by omega)]; exact y4,g⟩
structure CHo (w0 w:World) (b:Nat) (cv nv:Value) (s:ByteArray) (p:Nat) (way:List (ND × Nat)) (A:List (List UInt8)) (wa:Option Addr) (wc:Nat) (aa:Option Addr) (ac:Nat):Prop where
 ext:Ext w0 w
 low:w0.heap.size≤b
 box:w.heap[b]?=some (.cells #[cv,nv,.string s,.int .i64 p,.slice wa way.length wc,.slice aa A.length ac] 142 (0,0))
 row:∃ ys,RowH w0.heap.size w (.slice wa way.length wc) way.reverse ys
 ans:w.ownsRow w0.heap.size 9 1 (.slice aa A.length ac) A.length (strs A)
def HoIn (w0 w:World) (b:Nat) (cv nv:Value) (s:ByteArray) (p:Nat) (way:List (ND × Nat)) (A:List (List UInt8)):Prop:=∃ wa wc aa ac,CHo w0 w b cv nv s p way A wa wc aa ac
theorem Zfs {w:World} {B e size n:Nat} {v:Value} {xs:List Value} {b:Nat} {cl:Array Value} {t:TypeId} {fr:Nat × Nat} (h:w.ownsRow B e size v n xs) (hb:w.heap[b]?=some (.cells cl t fr)) (ht:e≠t):∀ k,v.ownBlock=some k→k≠b:=fun k hj e'=>by
 subst e'
 rcases h.2 with ⟨rfl,_⟩ | ⟨g,cap,cur,rfl,_,hg,_⟩
 ·simp [Value.ownBlock] at hj
 ·simp [Value.ownBlock] at hj
  subst hj
  rw [hg] at hb
  simp at hb
  exact ht hb.2.1
theorem CHo.grow {w0 w w':World} {b:Nat} {cv nv:Value} {s:ByteArray} {p:Nat} {way:List (ND × Nat)} {A:List (List UInt8)} {wa:Option Addr} {wc:Nat} {aa:Option Addr} {ac:Nat} (h:CHo w0 w b cv nv s p way A wa wc aa ac) (e:Ext w w'):CHo w0 w' b cv nv s p way A wa wc aa ac:=by
 obtain ⟨ys,h2⟩:=h.row
 exact ⟨h.ext.trans (e.mono h.ext.size),h.low,(e.block _ (Zab h.box)).trans h.box,⟨ys,h2.keep (FrT.of_ext e) (fun k hk=>e.block k (h2.owns.lt k hk).2)⟩,Zah h.ans (fun k hk=>e.block k (h.ans.lt k hk).2)⟩
theorem CHo.upd {w0 w w':World} {b:Nat} {cv nv:Value} {s:ByteArray} {p p':Nat} {way way':List (ND × Nat)} {A:List (List UInt8)} {wa wa':Option Addr} {wc wc':Nat} {aa:Option Addr} {ac:Nat} (h:CHo w0 w b cv nv s p way A wa wc aa ac) (hk:Kept (only b) w w') (hbox:w'.heap[b]?=some (.cells #[cv,nv,.string s,.int .i64 p',.slice wa' way'.length wc',.slice aa A.length ac] 142 (0,0)))
  (hrow:∃ ys,RowH w0.heap.size w (.slice wa' way'.length wc') way'.reverse ys):CHo w0 w' b cv nv s p' way' A wa' wc' aa ac∧FrT w w':=by
 obtain ⟨ys,h2⟩:=hrow
 have hF:FrT w w':=FrT.of_kept hk (fun k e=>by
  have e:k=b:=e
  subst e
  exact ⟨_,_,_,h.box,by simp [HoTy]⟩)
 refine ⟨⟨Zeg h.ext hk h.low,h.low,hbox,⟨ys,h2.keep hF (fun k hj=>hk.block k (h2.owns.lt k hj).2 (Zfs h2.owns h.box (by decide) k hj))⟩,Zah h.ans (fun k hj=>hk.block k (h.ans.lt k hj).2 (Zfs h.ans h.box (by decide) k hj))⟩,hF⟩
theorem Zrr (w0 w:World) (b:Nat) (cv nv:Value) (s:ByteArray) (p:Nat) (way:List (ND × Nat)) (A:List (List UInt8)) (c:UInt8) (hc:c≠0) (h:HoIn w0 w b cv nv s p way A) (hs:s.size≤20000) (hp:p≤s.size) :
  Calls Tryz.prog 137 #[.pointer (some ⟨b,0,none⟩),.int .u8 c.toNat] w fun e w'=>FrT w w'∧((s.data.toList[p]?=some c∧e = .returned (.bool true)∧HoIn w0 w' b cv nv s (p+1) way A)∨(s.data.toList[p]?≠some c∧e = .returned (.bool false)∧HoIn w0 w' b cv nv s p way A)):=by
 obtain ⟨wa,wc,aa,ac,h⟩:=h
 obtain ⟨b0,b1,b2,b3,b4,b5,bf⟩:=box6 h.box
 have hbl:=Zab h.box
 have H:=Zac h
 have HB:=Zac (fun u=>Zul s p u (by omega) (by omega))
 by_cases he:s.data.toList[p]?=some c
 ·rw [(Zyj hc).2 he] at HB
  have k1:((c.toNat:Int) != (c.toNat:Int))=false:=by simp
  clear h
  go_enter Tryz.func137,Tryz.ntmps137
  go_wp2_with fail
  go_quiet ((go_at_call 136; exact Calls.quiet_of_same (HB.out _)))
  go_wp2
  go_ret
  obtain ⟨g1,g2⟩:=H.out.upd (p':=p+1) (((Qx (only b) w).drewN nq).put 3 (.int .i64 ((p:Int)+1))) (Zaf (w:=w.drewN nq) H.out.box 3 _) H.out.row
  exact ⟨g2,Or.inl ⟨he,rfl,_,_,_,_,g1⟩⟩
 ·obtain ⟨d,hd⟩:∃ d,d=Zku s.data.toList p:=⟨_,rfl⟩
  rw [← hd] at HB
  have k1:((d.toNat:Int) != (c.toNat:Int))=true:=by
   rw [bne_iff_ne]
   exact Ygz (fun e=>he ((Zyj hc).1 (hd ▸ e)))
  clear h hd
  go_enter Tryz.func137,Tryz.ntmps137
  go_wp2_with fail
  go_quiet ((go_at_call 136; exact Calls.quiet_of_same (HB.out _)))
  go_wp2
  go_ret
  have hE:Ext w (w.drewN nq):=Ext.of ((Qx _ w).drewN _)
  exact ⟨FrT.of_ext hE,Or.inr ⟨he,rfl,_,_,_,_,H.out.grow hE⟩⟩
theorem Ybo (w0 w:World) (b:Nat) (cv nv:Value) (s:ByteArray) (p:Nat) (d:ND × Nat) (r:List (ND × Nat)) (A:List (List UInt8)) (h:HoIn w0 w b cv nv s p (d::r) A) (hs:s.size≤20000) (hp:p≤s.size) (hr:r.length≤20000) :
  Calls Tryz.prog 139 #[.pointer (some ⟨b,0,none⟩)] w fun e w'=>FrT w w'∧((s.data.toList[p]?=some 41∧e = .returned (.bool true)∧HoIn w0 w' b cv nv s (p+1) r A)∨(s.data.toList[p]?≠some 41∧e = .returned (.bool false)∧HoIn w0 w' b cv nv s p (d::r) A)):=by
 have HP:=Zac (Zrr w0 w b cv nv s p (d::r) A 41 (by decide) h hs hp)
 obtain ⟨wa,wc,aa,ac,h⟩:=h
 have hbx:=h.box
 simp only [Qf] at hbx
 obtain ⟨b0,b1,b2,b3,b4,b5,bf⟩:=box6 hbx
 have hbl:=Zab hbx
 have hgd:decide ((r.length:Int)<0)=false:=by rw [decide_eq_false_iff_not]; omega
 simp only [show ((41:UInt8).toNat:Int)=41 from rfl] at HP
 clear h hbx
 go_enter Tryz.func139,Tryz.ntmps139
 go_wp2_with fail
 refine HP.out.mono ?_
 rintro e w1 ⟨hF1,⟨hc,rfl,h1⟩ | ⟨hc,rfl,h1⟩⟩
 ·obtain ⟨wa1,wc1,aa1,ac1,h1⟩:=h1
  have hbx1:=h1.box
  simp only [Qf] at hbx1
  clear b0 b1 b2 b3 b4 b5 bf
  obtain ⟨b0,b1,b2,b3,b4,b5,bf⟩:=box6 hbx1
  obtain ⟨ys,hrow⟩:=h1.row
  simp only [Qf,List.reverse_cons] at hrow
  have ho:=hrow.owns
  rw [Qg,List.length_reverse,Qn] at ho
  obtain ⟨wb,wcap,wcur,hwe,_,hwb,hwcap⟩:=Zap ho (by omega)
  simp only [Value.slice.injEq] at hwe
  obtain ⟨rfl,_,rfl⟩:=hwe
  have hpop:=Zac (hrow.pop List.length_reverse)
  have hbl1:=Zab hbx1
  have H1:=Zac h1
  have HF1:=Zac hF1
  have Hbx1:=Zac hbx1
  have Hc:=Zac hc
  clear h1 hbx1 hrow ho hwb hF1 hc HP
  go_wp2
  go_ret
  obtain ⟨g1,g2⟩:=H1.out.upd (way':=r) ((Qx (only b) w1).put 4 (.slice (some ⟨wb,0,none⟩) r.length wc1)) (Zaf Hbx1.out 4 _) ⟨_,hpop.out⟩
  exact ⟨HF1.out.trans g2,Or.inl ⟨Hc.out,rfl,_,_,_,_,g1⟩⟩
 ·have H1:=Zac h1
  have HF1:=Zac hF1
  have Hc:=Zac hc
  clear h1 hF1 hc HP
  go_wp2
  go_ret
  exact ⟨HF1.out,Or.inr ⟨Hc.out,rfl,H1.out⟩⟩
end Go.Proofs.YtlmjilpjmgjjcaaGreatDoor
