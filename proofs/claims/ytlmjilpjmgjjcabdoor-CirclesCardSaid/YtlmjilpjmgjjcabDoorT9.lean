/-
  PROVED HERE: the given card of 'Circles' (no conditions).
-/
import Derived.Test.YtlmjilpjmgjjcabDoorT8
import Derived.Test.YtlmjilpjmgjjcabDoorRows
import Derived.Test.YtlmjilpjmgjjcabDoorCards
import Derived.Test.YtlmjilpjmgjjcabDoorTie
import Derived.ProofKit
import Derived.LaidMore
import Derived.OpenShut
import Derived.Stop.Joined
import Derived.SevenTiedAt
import Derived.Deep.Slices
import Derived.Carry
set_option linter.unusedSimpArgs false
set_option linter.unusedVariables false
set_option maxRecDepth 10000
set_option maxHeartbeats 4000000
namespace Go.Proofs.YtlmjilpjmgjjcabDoor
open Go.RowKit
def Zqx (w:World) (b:Nat) (x:CX) (cs:List Cls) (a:List (List Sym) × Names) (R:SN × Tr) (e:Ending) (w':World):Prop :=
 Kept (ownS b x) w w'∧(∃ x',CSr w' b x' cs a R.1∧Zfh w x x')∧InvN cs a R.1∧∃ aa ac wa wc,e = .returned (.tuple #[.agg #[.slice aa R.2.ans.length ac,.slice wa R.2.wts.length wc,.int .i64 R.2.tries,.int .i64 R.2.status,.string ⟨(Zci a R.1.status R.1.found R.1.tree).2.2.toArray⟩],.bool true]) ∧
  w'.ownsRow w.heap.size 9 1 (.slice aa R.2.ans.length ac) R.2.ans.length (strs R.2.ans)∧w'.ownsRow w.heap.size 9 1 (.slice wa R.2.wts.length wc) R.2.wts.length (strs R.2.wts)
theorem AftAt.fin {w V wr Z:World} {b bt br:Nat} {x x1:CX} {cs:List Cls} {a:List (List Sym) × Names} {m:SN} {c0 c1:Value} {tr st:Nat} {av:Value} {A:List (List UInt8)} {wv:Value} {W:List (List UInt8)} {cl:Array Value} (h:AftAt V wr b bt x x1 cs a m c0 c1 tr st av A wv W) (hbr:wr.heap[br]?=some (.cells cl 36 (0,0))) (hw:w.heap.size≤br) (hEV:Ext w V) (hZ:Kept (fun k=>k=bt∨k=br) wr Z) :
  Kept (ownS b x) w Z∧(∃ x',CSr Z b x' cs a m∧Zfh w x x')∧InvN cs a m∧Z.ownsRow w.heap.size 9 1 av A.length (strs A)∧Z.ownsRow w.heap.size 9 1 wv W.length (strs W):=by
 have hs:=hEV.size
 have hS:OfTy (fun k=>k=bt∨k=br) wr 36:=fun k e=>by
  rcases e with rfl | rfl
  ·exact ⟨_,_,h.box⟩
  ·exact ⟨_,_,hbr⟩
 have hO:OffCode (fun k=>k=bt∨k=br) wr:=fun k e=>by
  obtain ⟨cl,fr,h1⟩:=hS k e
  exact ⟨_,_,_,h1,by simp [Zcb]⟩
 refine ⟨((Zoj hEV).trans (h.kept)).then hZ (fun i hi e => ?_),⟨x1,h.sr.keep hZ hO (fun k hk e => ?_),fun k hk => ?_,h.new.2⟩,h.inv,Zbc (hS.row hZ h.ans (by decide)) hs,Zbc (hS.row hZ h.wts (by decide)) hs⟩
 ·have:=h.bt0
  omega
 ·obtain ⟨cl,fr,h1⟩:=hS k e
  exact h.sr.not h1 (by decide) (by decide) hk
 ·rcases h.new.1 k hk with h1 | h1
  ·exact Or.inl h1
  ·exact Or.inr (by omega)
theorem Zwv (w:World) (b:Nat) (x:CX) (cs:List Cls) (q:ByteArray) (a:List (List Sym) × Names) (m:SN) (tries size:Nat) (h:CSr w b x cs a m) (hI:InvN cs a m) (hF:Zeq m) (hm:m.status=0) (hcs:∀ c ∈ cs,COk c∧CNm c) (hcf:∀ c ∈ cs,CFew c) (hcl:cs.length≤24) (hask:Zey q=some a) (ht:tries≤3001) (hs:0<size) (hs2:size≤3000) :
  Calls Tryd.prog 11 #[.pointer (some ⟨b,0,none⟩),.int .i64 tries,.int .i64 size] w (Zqx w b x cs a (aftN cs a tries size (tries+1) m ⟨[],[],0,0⟩)):=by
 have hbl:=Zab h.box
 obtain ⟨V,hV⟩:∃ V,V=w.alloc (.cells #[.slice none 0 0,.slice none 0 0,.int .i64 0,.int .i64 0,.string ⟨#[]⟩] 36):=⟨_,rfl⟩
 have hEV:Ext w V:=by rw [hV]; exact (Ext.of (by repeat' (first | with_reducible(first|exact Qx _ _|apply Kept.drew|apply Kept.drewN|apply Qz|refine Qy ?_ ?_ _)|exact fun h=>absurd h (by simp <;> omega))))
 have hVs:V.heap.size=w.heap.size+1:=by rw [hV]; simp
 have hbr:V.heap[w.heap.size]?=some (.cells #[.slice none 0 0,.slice none 0 0,.int .i64 0,.int .i64 0,.string ⟨#[]⟩] 36 (0,0)):=by rw [hV]; exact heap_alloc_new w _
 have hCV:=h.ext hEV
 have H0:Hid (AftAt V (V.alloc (.cells #[.slice none 0 0,.slice none 0 0,.int .i64 0,.int .i64 0,.string ⟨#[]⟩] 36)) b (w.heap.size+1) x x cs a m (.slice none 0 0) (.slice none 0 0) 0 0 (.slice none 0 0) [] (.slice none 0 0) []) :=
  ⟨(Qx _ _).alloc _,⟨m,hCV⟩,hCV.ext (Ext.of (by repeat' (first | with_reducible(first|exact Qx _ _|apply Kept.drew|apply Kept.drewN|apply Qz|refine Qy ?_ ?_ _)|exact fun h=>absurd h (by simp <;> omega)))),⟨fun k hk=>Or.inl hk,rfl,rfl,rfl,rfl⟩,hI,hF,by omega,by rw [← hVs]; exact heap_alloc_new V _,World.ownsRow_nil _ _ _ _,World.ownsRow_nil _ _ _ _,fun k hk=>by simp [Zbo,Value.ownBlock] at hk⟩
 have Hbr:Hid (∀ u,Kept (ownS b x) V u→u.heap[w.heap.size]?=some (.cells #[.slice none 0 0,.slice none 0 0,.int .i64 0,.int .i64 0,.string ⟨#[]⟩] 36 (0,0))):=fun u hu=>(hu.block _ (Zab hbr) (hCV.not hbr (by decide) (by decide))).trans hbr
 have HV:=Zac hV
 have HEV:=Zac hEV
 have Hcs:=Zac hcs
 have Hcf:=Zac hcf
 have Hask:=Zac hask
 obtain ⟨R,hR⟩:∃ R,R=aftN cs a tries size (tries+1) m ⟨[],[],0,0⟩:=⟨_,rfl⟩
 have HR:=Zac hR
 rw [← hR]
 clear h hI hF hcs hcf hask hR hV hEV hbr hCV hVs
 go_enter Tryd.func11,Tryd.ntmps11
 go_wp2
 go_loopg [] (tries+1) (fun gk wr=>∃ (m':SN) (x':CX) (t:Tr) (aa:Option Addr) (ac:Nat) (wa:Option Addr) (wc:Nat),t.tries≤tries∧tries - t.tries<gk∧(m'.status=0∨m'.status=1)∧t.status=m'.status∧t.ans.length≤t.tries∧t.wts.length≤t.tries∧R=aftN cs a tries size gk m' t∧AftAt V wr b (w.heap.size+1) x x' cs a m' (.slice aa t.ans.length ac) (.slice wa t.wts.length wc) t.tries t.status (.slice aa t.ans.length ac) t.ans (.slice wa t.wts.length wc) t.wts)
 case atStart=>exact ⟨m,x,⟨[],[],0,0⟩,none,0,none,0,Qm _,by simp,Or.inl hm,hm.symm,by simp,by simp,HR.out,by rw [← HV.out]; exact H0.out⟩
 case round =>
  obtain ⟨m1,x1,⟨A,W,T,st⟩,aa,ac,wa,wc,hT,hgk,hst,hst2,hAl,hWl,hRe,hA⟩:=hrel
  simp only at hT hgk hst hst2 hAl hWl hA
  have c2:wr.cell? ⟨w.heap.size+1,2,none⟩=some (.int .i64 T):=Zaa hA.box 2 _ rfl
  have hbt:=Zab hA.box
  have HA:=Zac hA
  have HRe:=Zac hRe
  have Hst:=Zac hst2
  have hst1:st=0∨st=1:=by omega
  clear hA hRe H0 hst hst2
  by_cases hlt:T<tries
  ·have tf:=fun i=>Zae HA.out.box i
   obtain ⟨N,hN⟩:∃ N,N=Zft size (tries - T):=⟨_,rfl⟩
   have hN0:0<N∧N≤3000∧N≤tries - T:=by rw [hN]; unfold Zft; split <;> omega
   have hI2:(T:Int)<(tries:Int):=by omega
   obtain ⟨M,d,hr⟩:∃ M d,Zct cs N m1=(M,d):=⟨_,_,rfl⟩
   have HS:=Zac (Zyz wr b x1 cs a m1 N HA.out.sr HA.out.inv Hcs.out Hcf.out hcl hN0.2.1 (by rw [← Hst.out]; omega))
   have HA1:=Zac (fun (w1:World) (x2:CX) (hK:Kept (ownS b x1) wr w1) (hC:CSr w1 b x2 cs a (Zct cs N m1).1) (hN:Zfh wr x1 x2)=>HA.out.step hcl hK hC hN)
   have hdN:d≤N:=by have:=Zyd (cs:=cs) (n:=N) (s:=m1); rw [hr] at this; exact this
   have hless:d<N→M.status≠0:=fun h=>by have:=Zss (cs:=cs) (n:=N) (s:=m1); rw [hr] at this; exact this h
   have hsome:M.status=0∨M.status=1→d≠0:=fun h=>by have:=Zst (cs:=cs) (n:=N) (s:=m1) hN0.1 (by rw [← Hst.out]; omega); rw [hr] at this; exact this h
   rw [hr] at HS HA1
   simp only at HS HA1
   have Hrec:Hid (R=if M.status=2∨M.status=3 then (M,addN a ⟨A,W,T,st⟩ (M,d)) else aftN cs a tries size (gk - 1) M (addN a ⟨A,W,T,st⟩ (M,d))):=by
    show _=_
    rw [HRe.out]
    obtain ⟨f,rfl⟩:∃ f,gk=f+1:=⟨gk - 1,by omega⟩
    simp only [aftN]
    rw [if_pos hlt,← hN,hr]
    rfl
   rcases Nat.lt_or_ge (tries - T) size with hsz | hsz
   ·have hI1:(tries:Int) - (T:Int)<(size:Int):=by omega
    have hNt:(tries:Int) - (T:Int)=(N:Int):=by rw [hN]; unfold Zft; rw [if_pos hsz]; omega
    clear hN
    go_wp2_with fail
    refine HS.out.mono ?_
    rintro e w1 ⟨rfl,x2,hK,hC,hNw⟩
    have HB:=Zac (HA1.out w1 x2 hK hC hNw)
    clear hK hC hNw HS HA1
    have b2:w1.cell? ⟨w.heap.size+1,2,none⟩=some (.int .i64 T):=Zaa HB.out.box 2 _ rfl
    have b3:w1.cell? ⟨w.heap.size+1,3,none⟩=some (.int .i64 st):=Zaa HB.out.box 3 _ rfl
    have bf:=fun i=>Zae HB.out.box i
    have bl:=Zab HB.out.box
    have g1:¬ (d:Int)<0:=by omega
    have g2:¬ (N:Int)<(d:Int):=by omega
    clear c2 tf
    obtain ⟨TD,hTD,hTD2⟩:∃ TD:Nat,(T:Int)+(d:Int)=(TD:Int)∧TD=T+d:=⟨T+d,by omega,rfl⟩
    have HTD2:=Zac hTD2
    have hTDb:TD≤6001:=by omega
    clear hTD2
    obtain ⟨sM,hsM⟩:∃ z,z=M.status:=⟨_,rfl⟩
    have hsM3:sM≤3:=by rw [hsM]; exact HB.out.inv.st
    rw [← hsM] at hless hsome
    have HsM:=Zac hsM
    have HB2:Hid (AftAt V (w1.setCell ⟨w.heap.size+1,2,none⟩ (.int .i64 TD)) b (w.heap.size+1) x x2 cs a M (.slice aa A.length ac) (.slice wa W.length wc) TD st (.slice aa A.length ac) A (.slice wa W.length wc) W):=HB.out.put ((Qx _ _).put 2 _) (Zah HB.out.box 2 _)
    have HSt:=Zac (Zka _ b x2 cs a M HB2.out.sr)
    rw [← hsM] at HSt
    have HB3:Hid (AftAt V ((w1.setCell ⟨w.heap.size+1,2,none⟩ (.int .i64 TD)).setCell ⟨w.heap.size+1,3,none⟩ (.int .i64 sM)) b (w.heap.size+1) x x2 cs a M (.slice aa A.length ac) (.slice wa W.length wc) TD sM (.slice aa A.length ac) A (.slice wa W.length wc) W):=HB2.out.put ((Qx _ _).put 3 _) (Zah HB2.out.box 3 _)
    have HAn:=Zac (Zkc _ b x2 cs q a M HB3.out.sr HB3.out.inv Hask.out)
    obtain ⟨hX,hY,hZ⟩:=Zii HB3.out.inv HB3.out.fw
    rw [← hsM] at hX hY hZ
    rw [← hsM] at HAn
    obtain ⟨X,hXe⟩:∃ X,X=(Zci a sM M.found M.tree).1:=⟨_,rfl⟩
    obtain ⟨Y,hYe⟩:∃ Y,Y=(Zci a sM M.found M.tree).2.1:=⟨_,rfl⟩
    rw [← hXe] at HAn hX
    rw [← hYe] at hY
    have HXY:Hid (X=(Zci a sM M.found M.tree).1∧Y=(Zci a sM M.found M.tree).2.1):=⟨hXe,hYe⟩
    clear hXe hYe hsM hN0
    go_wp2_with fail
    refine HSt.out.mono ?_
    rintro e w2 ⟨rfl,rfl⟩
    go_wp2_with fail
    refine HAn.out.mono ?_
    rintro e w4 ⟨rfl,hE4⟩
    have HB4:=Zac (HB3.out.ext hE4)
    have HWa:=Zac (Ziu w4 b x2 cs a M HB4.out.sr HB4.out.inv hcl)
    rw [← HsM.out,← HXY.out.2] at HWa
    obtain ⟨d0,d1,d2,d3,d4⟩:w4.cell? ⟨w.heap.size+1,0,none⟩=some (.slice aa A.length ac)∧w4.cell? ⟨w.heap.size+1,1,none⟩=some (.slice wa W.length wc)∧w4.cell? ⟨w.heap.size+1,2,none⟩=some (.int .i64 TD)∧w4.cell? ⟨w.heap.size+1,3,none⟩=some (.int .i64 sM)∧w4.cell? ⟨w.heap.size+1,4,none⟩=some (.string ⟨#[]⟩):=⟨Zaa HB4.out.box 0 _ rfl,Zaa HB4.out.box 1 _ rfl,Zaa HB4.out.box 2 _ rfl,Zaa HB4.out.box 3 _ rfl,Zaa HB4.out.box 4 _ rfl⟩
    have df:=fun i=>Zae HB4.out.box i
    have dl:=Zab HB4.out.box
    clear hE4 HB HB2 HB3 HAn HSt b2 b3 bf bl g1 g2
    go_wp2_with fail
    refine HWa.out.mono ?_
    rintro e w5 ⟨rfl,h5⟩
    obtain rfl:w4=w5:=h5.symm
    by_cases h1:sM=1
    ·subst h1
     have hXn:X≠[]:=fun e=>by have:=hX.1 e; omega
     have hYn:Y≠[]:=fun e=>by have:=hY.1 e; omega
     have hXi:X.isEmpty=false:=by simpa using hXn
     have hYi:Y.isEmpty=false:=by simpa using hYn
     have hd0:d≠0:=hsome (Or.inr rfl)
     have hd1:((d:Int) == 0)=false:=by rw [Qu]; omega
     have dV:V.heap.size≤w4.heap.size:=HB4.out.kept.size
     have HE:Hid (∀ w9 aa' ac' wa' wc',AftAt V w9 b (w.heap.size+1) x x2 cs a M (.slice aa' (A.length+1) ac') (.slice wa' (W.length+1) wc') TD 1 (.slice aa' (A.length+1) ac') (A++[X]) (.slice wa' (W.length+1) wc') (W++[Y])→∃ (m':SN) (x':CX) (t:Tr) (aa:Option Addr) (ac:Nat) (wa:Option Addr) (wc:Nat),t.tries≤tries∧tries - t.tries<gk - 1∧(m'.status=0∨m'.status=1)∧t.status=m'.status∧t.ans.length≤t.tries∧t.wts.length≤t.tries∧R=aftN cs a tries size (gk - 1) m' t∧AftAt V w9 b (w.heap.size+1) x x' cs a m' (.slice aa t.ans.length ac) (.slice wa t.wts.length wc) t.tries t.status (.slice aa t.ans.length ac) t.ans (.slice wa t.wts.length wc) t.wts):=fun w9 aa' ac' wa' wc' h9=>by
      have e:=HTD2.out
      refine ⟨M,x2,⟨A++[X],W++[Y],TD,1⟩,aa',ac',wa',wc',by simp only; omega,by simp only; omega,Or.inr HsM.out.symm,HsM.out,by simp only [Qg,Qn]; omega,by simp only [Qg,Qn]; omega,?_,by simpa using h9⟩
      rw [Hrec.out,if_neg (by rw [← HsM.out]; omega)]
      unfold addN
      simp only
      rw [if_pos HsM.out.symm,← HsM.out,← HXY.out.1,← HXY.out.2,← e]
     clear hX hY hZ hless hsome hd0
     go_wp2_with (at_builtin; go_loud (refine Zam w4 rfl (.tmp 76) (.tmp 78) 34 rfl V.heap.size 9 Tryd.infoStr Tryd.underlying34 rfl (by decide) (.slice aa A.length ac) A.length (strs A) rfl HB4.out.ans #[.string ⟨X.toArray⟩] (N:=w4.heap.size) rfl rfl rfl (by simp [Value.oneCell']) ?_ ?_ ?_))
     ·omega
     ·exact dV
     intro av' w6 hA6
     obtain ⟨aa6,ac6,rfl⟩:=Zad hA6.owns
     have HB6:=Zac (HB4.out.app1 hA6)
     have e0:w6.cell? ⟨w.heap.size+1,0,none⟩=some (.slice aa A.length ac):=Zaa HB6.out.box 0 _ rfl
     have e1:w6.cell? ⟨w.heap.size+1,1,none⟩=some (.slice wa W.length wc):=Zaa HB6.out.box 1 _ rfl
     have ef:=fun i=>Zae HB6.out.box i
     have el:=Zab HB6.out.box
     have HB7:Hid (AftAt V (w6.setCell ⟨w.heap.size+1,0,none⟩ (.slice aa6 (A.length+1) ac6)) b (w.heap.size+1) x x2 cs a M (.slice aa6 (A.length+1) ac6) (.slice wa W.length wc) TD 1 (.slice aa6 (A.length+1) ac6) (A++[X]) (.slice wa W.length wc) W):=HB6.out.put ((Qx _ _).put 0 _) (Zah HB6.out.box 0 _)
     have kV:=HB7.out.kept.size
     have HW7:=Zac HB7.out.wts
     clear hA6 d0 d1 d2 d3 d4 df dl dV
     go_wp2_with (at_builtin; go_loud (refine Zam (w6.setCell ⟨w.heap.size+1,0,none⟩ (.slice aa6 (A.length+1) ac6)) rfl (.tmp 82) (.tmp 84) 34 rfl V.heap.size 9 Tryd.infoStr Tryd.underlying34 rfl (by decide) (.slice wa W.length wc) W.length (strs W) rfl HW7.out #[.string ⟨Y.toArray⟩] rfl (by simp) rfl (by simp [Value.oneCell']) ?_ ?_ ?_))
     ·omega
     ·exact kV
     intro wv' w8 hA8
     obtain ⟨wa8,wc8,rfl⟩:=Zad hA8.owns
     have HB8:=Zac (HB7.out.app2 hA8)
     have i1:w8.cell? ⟨w.heap.size+1,1,none⟩=some (.slice wa W.length wc):=Zaa HB8.out.box 1 _ rfl
     have i3:w8.cell? ⟨w.heap.size+1,3,none⟩=some (.int .i64 1):=Zaa HB8.out.box 3 _ rfl
     have if':=fun i=>Zae HB8.out.box i
     have il:=Zab HB8.out.box
     have HB9:Hid (AftAt V (w8.setCell ⟨w.heap.size+1,1,none⟩ (.slice wa8 (W.length+1) wc8)) b (w.heap.size+1) x x2 cs a M (.slice aa6 (A.length+1) ac6) (.slice wa8 (W.length+1) wc8) TD 1 (.slice aa6 (A.length+1) ac6) (A++[X]) (.slice wa8 (W.length+1) wc8) (W++[Y])):=HB8.out.put ((Qx _ _).put 1 _) (Zah HB8.out.box 1 _)
     clear hA8 e0 e1 ef el kV
     go_wp2
     all_goals
      go_roundg (gk - 1)
      case measure=>omega
      case rel=>exact HE.out _ _ _ _ _ HB9.out
    ·obtain rfl:X=[]:=hX.2 h1
     obtain rfl:Y=[]:=hY.2 h1
     by_cases h0:sM=0
     ·subst h0
      have hd0:d≠0:=hsome (Or.inl rfl)
      have hd1:((d:Int) == 0)=false:=by rw [Qu]; omega
      obtain rfl:d=N:=by
       rcases Nat.lt_or_ge d N with h | h
       ·exact absurd rfl (hless h)
       ·omega
      have HE:Hid (∃ (m':SN) (x':CX) (t:Tr) (aa:Option Addr) (ac:Nat) (wa:Option Addr) (wc:Nat),t.tries≤tries∧tries - t.tries<gk - 1∧(m'.status=0∨m'.status=1)∧t.status=m'.status∧t.ans.length≤t.tries∧t.wts.length≤t.tries∧R=aftN cs a tries size (gk - 1) m' t∧AftAt V w4 b (w.heap.size+1) x x' cs a m' (.slice aa t.ans.length ac) (.slice wa t.wts.length wc) t.tries t.status (.slice aa t.ans.length ac) t.ans (.slice wa t.wts.length wc) t.wts):=by
       have e:=HTD2.out
       refine ⟨M,x2,⟨A,W,TD,0⟩,aa,ac,wa,wc,by simp only; omega,by simp only; omega,Or.inl HsM.out.symm,HsM.out,by simp only; omega,by simp only; omega,?_,HB4.out⟩
       rw [Hrec.out,if_neg (by rw [← HsM.out]; omega)]
       unfold addN
       simp only
       rw [if_neg (by rw [← HsM.out]; omega),← HsM.out,← e]
      clear hX hY hZ hless hsome hd0
      go_wp2
      all_goals
       go_roundg (gk - 1)
       case measure=>omega
       case rel=>exact HE.out
     ·have hsM2:sM=2∨sM=3:=by omega
      have HTr:=Zac (Zkb w4 b x2 cs a M HB4.out.sr)
      rw [← HsM.out] at HTr
      obtain ⟨Q,hQ⟩:∃ Q,Q=(Zci a sM M.found M.tree).2.2:=⟨_,rfl⟩
      rw [← hQ] at HTr hZ
      have HQ:=Zac hQ
      have hbb:=Hbr.out w4 HB4.out.kept
      have Hbb:=Zac hbb
      obtain ⟨r0,r1,r2,r3,r4⟩:w4.cell? ⟨w.heap.size,0,none⟩=some (.slice none 0 0)∧w4.cell? ⟨w.heap.size,1,none⟩=some (.slice none 0 0)∧w4.cell? ⟨w.heap.size,2,none⟩=some (.int .i64 0)∧w4.cell? ⟨w.heap.size,3,none⟩=some (.int .i64 0)∧w4.cell? ⟨w.heap.size,4,none⟩=some (.string ⟨#[]⟩):=⟨Zaa hbb 0 _ rfl,Zaa hbb 1 _ rfl,Zaa hbb 2 _ rfl,Zaa hbb 3 _ rfl,Zaa hbb 4 _ rfl⟩
      have rf:=fun i=>Zae hbb i
      have Hfin:Hid (∀ Z,Kept (fun k=>k=w.heap.size+1∨k=w.heap.size) w4 Z→Zqx w b x cs a R (.returned (.tuple #[.agg #[.slice aa A.length ac,.slice wa W.length wc,.int .i64 TD,.int .i64 sM,.string ⟨Q.toArray⟩],.bool true])) Z):=fun Z hZ=>by
       have e:R=(M,⟨A,W,TD,sM⟩):=by
        have e:=HTD2.out
        rw [Hrec.out,if_pos (by rw [← HsM.out]; exact hsM2)]
        unfold addN
        simp only
        rw [if_neg (by rw [← HsM.out]; exact h1),← HsM.out,← e]
       obtain ⟨k1,k2,k3,k4,k5⟩:=HB4.out.fin Hbb.out (Qe _) HEV.out hZ
       rw [e]
       exact ⟨k1,k2,k3,aa,ac,wa,wc,by simp only; rw [← HsM.out,← HQ.out],k4,k5⟩
      clear hbb hQ
      rcases hsM2 with rfl | rfl
      ·have hQi:Q.isEmpty=false:=by
        have:Q≠[]:=fun e=>absurd rfl (hZ.1 e)
        simpa using this
       clear hX hY hZ hless hsome h1 h0
       go_wp2_with fail
       refine HTr.out.mono ?_
       rintro e w6 ⟨rfl,h6⟩
       obtain rfl:w4=w6:=h6.symm
       go_wp2_with fail
       go_region
       go_wp2
       refine bodyPost_ret (v := .tuple #[.agg #[.slice aa A.length ac,.slice wa W.length wc,.int .i64 TD,.int .i64 (2:Nat),.string ⟨Q.toArray⟩],.bool true]) (by simp [results,Tryd.results11,go_sem,r0,r1,r2,r3,r4,d0,d1,d2,d3,d4,rf,df,dl]) rfl ?_
       exact Hfin.out _ (by repeat (first | with_reducible exact Qx _ _ | with_reducible apply Kept.drew | with_reducible refine Qy ?_ (fun _=>by simp) _))
      ·obtain rfl:Q=[]:=hZ.2 (by omega)
       clear hX hY hZ hless hsome h1 h0
       go_wp2_with fail
       refine HTr.out.mono ?_
       rintro e w6 ⟨rfl,h6⟩
       obtain rfl:w4=w6:=h6.symm
       go_wp2_with fail
       go_region
       go_wp2
       refine bodyPost_ret (v := .tuple #[.agg #[.slice aa A.length ac,.slice wa W.length wc,.int .i64 TD,.int .i64 (3:Nat),.string ⟨#[]⟩],.bool true]) (by simp [results,Tryd.results11,go_sem,r0,r1,r2,r3,r4,d0,d1,d2,d3,d4,rf,df,dl]) rfl ?_
       exact Hfin.out _ (by repeat (first | with_reducible exact Qx _ _ | with_reducible apply Kept.drew | with_reducible refine Qy ?_ (fun _=>by simp) _))
   ·have hI1:¬ (tries:Int) - (T:Int)<(size:Int):=by omega
    obtain rfl:size=N:=by rw [hN]; unfold Zft; rw [if_neg (by omega)]
    clear hN
    go_wp2_with fail
    refine HS.out.mono ?_
    rintro e w1 ⟨rfl,x2,hK,hC,hNw⟩
    have HB:=Zac (HA1.out w1 x2 hK hC hNw)
    clear hK hC hNw HS HA1
    have b2:w1.cell? ⟨w.heap.size+1,2,none⟩=some (.int .i64 T):=Zaa HB.out.box 2 _ rfl
    have b3:w1.cell? ⟨w.heap.size+1,3,none⟩=some (.int .i64 st):=Zaa HB.out.box 3 _ rfl
    have bf:=fun i=>Zae HB.out.box i
    have bl:=Zab HB.out.box
    have g1:¬ (d:Int)<0:=by omega
    have g2:¬ (size:Int)<(d:Int):=by omega
    clear c2 tf
    obtain ⟨TD,hTD,hTD2⟩:∃ TD:Nat,(T:Int)+(d:Int)=(TD:Int)∧TD=T+d:=⟨T+d,by omega,rfl⟩
    have HTD2:=Zac hTD2
    have hTDb:TD≤6001:=by omega
    clear hTD2
    obtain ⟨sM,hsM⟩:∃ z,z=M.status:=⟨_,rfl⟩
    have hsM3:sM≤3:=by rw [hsM]; exact HB.out.inv.st
    rw [← hsM] at hless hsome
    have HsM:=Zac hsM
    have HB2:Hid (AftAt V (w1.setCell ⟨w.heap.size+1,2,none⟩ (.int .i64 TD)) b (w.heap.size+1) x x2 cs a M (.slice aa A.length ac) (.slice wa W.length wc) TD st (.slice aa A.length ac) A (.slice wa W.length wc) W):=HB.out.put ((Qx _ _).put 2 _) (Zah HB.out.box 2 _)
    have HSt:=Zac (Zka _ b x2 cs a M HB2.out.sr)
    rw [← hsM] at HSt
    have HB3:Hid (AftAt V ((w1.setCell ⟨w.heap.size+1,2,none⟩ (.int .i64 TD)).setCell ⟨w.heap.size+1,3,none⟩ (.int .i64 sM)) b (w.heap.size+1) x x2 cs a M (.slice aa A.length ac) (.slice wa W.length wc) TD sM (.slice aa A.length ac) A (.slice wa W.length wc) W):=HB2.out.put ((Qx _ _).put 3 _) (Zah HB2.out.box 3 _)
    have HAn:=Zac (Zkc _ b x2 cs q a M HB3.out.sr HB3.out.inv Hask.out)
    obtain ⟨hX,hY,hZ⟩:=Zii HB3.out.inv HB3.out.fw
    rw [← hsM] at hX hY hZ
    rw [← hsM] at HAn
    obtain ⟨X,hXe⟩:∃ X,X=(Zci a sM M.found M.tree).1:=⟨_,rfl⟩
    obtain ⟨Y,hYe⟩:∃ Y,Y=(Zci a sM M.found M.tree).2.1:=⟨_,rfl⟩
    rw [← hXe] at HAn hX
    rw [← hYe] at hY
    have HXY:Hid (X=(Zci a sM M.found M.tree).1∧Y=(Zci a sM M.found M.tree).2.1):=⟨hXe,hYe⟩
    clear hXe hYe hsM hN0
    go_wp2_with fail
    refine HSt.out.mono ?_
    rintro e w2 ⟨rfl,rfl⟩
    go_wp2_with fail
    refine HAn.out.mono ?_
    rintro e w4 ⟨rfl,hE4⟩
    have HB4:=Zac (HB3.out.ext hE4)
    have HWa:=Zac (Ziu w4 b x2 cs a M HB4.out.sr HB4.out.inv hcl)
    rw [← HsM.out,← HXY.out.2] at HWa
    obtain ⟨d0,d1,d2,d3,d4⟩:w4.cell? ⟨w.heap.size+1,0,none⟩=some (.slice aa A.length ac)∧w4.cell? ⟨w.heap.size+1,1,none⟩=some (.slice wa W.length wc)∧w4.cell? ⟨w.heap.size+1,2,none⟩=some (.int .i64 TD)∧w4.cell? ⟨w.heap.size+1,3,none⟩=some (.int .i64 sM)∧w4.cell? ⟨w.heap.size+1,4,none⟩=some (.string ⟨#[]⟩):=⟨Zaa HB4.out.box 0 _ rfl,Zaa HB4.out.box 1 _ rfl,Zaa HB4.out.box 2 _ rfl,Zaa HB4.out.box 3 _ rfl,Zaa HB4.out.box 4 _ rfl⟩
    have df:=fun i=>Zae HB4.out.box i
    have dl:=Zab HB4.out.box
    clear hE4 HB HB2 HB3 HAn HSt b2 b3 bf bl g1 g2
    go_wp2_with fail
    refine HWa.out.mono ?_
    rintro e w5 ⟨rfl,h5⟩
    obtain rfl:w4=w5:=h5.symm
    by_cases h1:sM=1
    ·subst h1
     have hXn:X≠[]:=fun e=>by have:=hX.1 e; omega
     have hYn:Y≠[]:=fun e=>by have:=hY.1 e; omega
     have hXi:X.isEmpty=false:=by simpa using hXn
     have hYi:Y.isEmpty=false:=by simpa using hYn
     have hd0:d≠0:=hsome (Or.inr rfl)
     have hd1:((d:Int) == 0)=false:=by rw [Qu]; omega
     have dV:V.heap.size≤w4.heap.size:=HB4.out.kept.size
     have HE:Hid (∀ w9 aa' ac' wa' wc',AftAt V w9 b (w.heap.size+1) x x2 cs a M (.slice aa' (A.length+1) ac') (.slice wa' (W.length+1) wc') TD 1 (.slice aa' (A.length+1) ac') (A++[X]) (.slice wa' (W.length+1) wc') (W++[Y])→∃ (m':SN) (x':CX) (t:Tr) (aa:Option Addr) (ac:Nat) (wa:Option Addr) (wc:Nat),t.tries≤tries∧tries - t.tries<gk - 1∧(m'.status=0∨m'.status=1)∧t.status=m'.status∧t.ans.length≤t.tries∧t.wts.length≤t.tries∧R=aftN cs a tries size (gk - 1) m' t∧AftAt V w9 b (w.heap.size+1) x x' cs a m' (.slice aa t.ans.length ac) (.slice wa t.wts.length wc) t.tries t.status (.slice aa t.ans.length ac) t.ans (.slice wa t.wts.length wc) t.wts):=fun w9 aa' ac' wa' wc' h9=>by
      have e:=HTD2.out
      refine ⟨M,x2,⟨A++[X],W++[Y],TD,1⟩,aa',ac',wa',wc',by simp only; omega,by simp only; omega,Or.inr HsM.out.symm,HsM.out,by simp only [Qg,Qn]; omega,by simp only [Qg,Qn]; omega,?_,by simpa using h9⟩
      rw [Hrec.out,if_neg (by rw [← HsM.out]; omega)]
      unfold addN
      simp only
      rw [if_pos HsM.out.symm,← HsM.out,← HXY.out.1,← HXY.out.2,← e]
     clear hX hY hZ hless hsome hd0
     go_wp2_with (at_builtin; go_loud (refine Zam w4 rfl (.tmp 76) (.tmp 78) 34 rfl V.heap.size 9 Tryd.infoStr Tryd.underlying34 rfl (by decide) (.slice aa A.length ac) A.length (strs A) rfl HB4.out.ans #[.string ⟨X.toArray⟩] (N:=w4.heap.size) rfl rfl rfl (by simp [Value.oneCell']) ?_ ?_ ?_))
     ·omega
     ·exact dV
     intro av' w6 hA6
     obtain ⟨aa6,ac6,rfl⟩:=Zad hA6.owns
     have HB6:=Zac (HB4.out.app1 hA6)
     have e0:w6.cell? ⟨w.heap.size+1,0,none⟩=some (.slice aa A.length ac):=Zaa HB6.out.box 0 _ rfl
     have e1:w6.cell? ⟨w.heap.size+1,1,none⟩=some (.slice wa W.length wc):=Zaa HB6.out.box 1 _ rfl
     have ef:=fun i=>Zae HB6.out.box i
     have el:=Zab HB6.out.box
     have HB7:Hid (AftAt V (w6.setCell ⟨w.heap.size+1,0,none⟩ (.slice aa6 (A.length+1) ac6)) b (w.heap.size+1) x x2 cs a M (.slice aa6 (A.length+1) ac6) (.slice wa W.length wc) TD 1 (.slice aa6 (A.length+1) ac6) (A++[X]) (.slice wa W.length wc) W):=HB6.out.put ((Qx _ _).put 0 _) (Zah HB6.out.box 0 _)
     have kV:=HB7.out.kept.size
     have HW7:=Zac HB7.out.wts
     clear hA6 d0 d1 d2 d3 d4 df dl dV
     go_wp2_with (at_builtin; go_loud (refine Zam (w6.setCell ⟨w.heap.size+1,0,none⟩ (.slice aa6 (A.length+1) ac6)) rfl (.tmp 82) (.tmp 84) 34 rfl V.heap.size 9 Tryd.infoStr Tryd.underlying34 rfl (by decide) (.slice wa W.length wc) W.length (strs W) rfl HW7.out #[.string ⟨Y.toArray⟩] rfl (by simp) rfl (by simp [Value.oneCell']) ?_ ?_ ?_))
     ·omega
     ·exact kV
     intro wv' w8 hA8
     obtain ⟨wa8,wc8,rfl⟩:=Zad hA8.owns
     have HB8:=Zac (HB7.out.app2 hA8)
     have i1:w8.cell? ⟨w.heap.size+1,1,none⟩=some (.slice wa W.length wc):=Zaa HB8.out.box 1 _ rfl
     have i3:w8.cell? ⟨w.heap.size+1,3,none⟩=some (.int .i64 1):=Zaa HB8.out.box 3 _ rfl
     have if':=fun i=>Zae HB8.out.box i
     have il:=Zab HB8.out.box
     have HB9:Hid (AftAt V (w8.setCell ⟨w.heap.size+1,1,none⟩ (.slice wa8 (W.length+1) wc8)) b (w.heap.size+1) x x2 cs a M (.slice aa6 (A.length+1) ac6) (.slice wa8 (W.length+1) wc8) TD 1 (.slice aa6 (A.length+1) ac6) (A++[X]) (.slice wa8 (W.length+1) wc8) (W++[Y])):=HB8.out.put ((Qx _ _).put 1 _) (Zah HB8.out.box 1 _)
     clear hA8 e0 e1 ef el kV
     go_wp2
     all_goals
      go_roundg (gk - 1)
      case measure=>omega
      case rel=>exact HE.out _ _ _ _ _ HB9.out
    ·obtain rfl:X=[]:=hX.2 h1
     obtain rfl:Y=[]:=hY.2 h1
     by_cases h0:sM=0
     ·subst h0
      have hd0:d≠0:=hsome (Or.inl rfl)
      have hd1:((d:Int) == 0)=false:=by rw [Qu]; omega
      obtain rfl:size=d:=by
       rcases Nat.lt_or_ge d size with h | h
       ·exact absurd rfl (hless h)
       ·omega
      have HE:Hid (∃ (m':SN) (x':CX) (t:Tr) (aa:Option Addr) (ac:Nat) (wa:Option Addr) (wc:Nat),t.tries≤tries∧tries - t.tries<gk - 1∧(m'.status=0∨m'.status=1)∧t.status=m'.status∧t.ans.length≤t.tries∧t.wts.length≤t.tries∧R=aftN cs a tries size (gk - 1) m' t∧AftAt V w4 b (w.heap.size+1) x x' cs a m' (.slice aa t.ans.length ac) (.slice wa t.wts.length wc) t.tries t.status (.slice aa t.ans.length ac) t.ans (.slice wa t.wts.length wc) t.wts):=by
       have e:=HTD2.out
       refine ⟨M,x2,⟨A,W,TD,0⟩,aa,ac,wa,wc,by simp only; omega,by simp only; omega,Or.inl HsM.out.symm,HsM.out,by simp only; omega,by simp only; omega,?_,HB4.out⟩
       rw [Hrec.out,if_neg (by rw [← HsM.out]; omega)]
       unfold addN
       simp only
       rw [if_neg (by rw [← HsM.out]; omega),← HsM.out,← e]
      clear hX hY hZ hless hsome hd0
      go_wp2
      all_goals
       go_roundg (gk - 1)
       case measure=>omega
       case rel=>exact HE.out
     ·have hsM2:sM=2∨sM=3:=by omega
      have HTr:=Zac (Zkb w4 b x2 cs a M HB4.out.sr)
      rw [← HsM.out] at HTr
      obtain ⟨Q,hQ⟩:∃ Q,Q=(Zci a sM M.found M.tree).2.2:=⟨_,rfl⟩
      rw [← hQ] at HTr hZ
      have HQ:=Zac hQ
      have hbb:=Hbr.out w4 HB4.out.kept
      have Hbb:=Zac hbb
      obtain ⟨r0,r1,r2,r3,r4⟩:w4.cell? ⟨w.heap.size,0,none⟩=some (.slice none 0 0)∧w4.cell? ⟨w.heap.size,1,none⟩=some (.slice none 0 0)∧w4.cell? ⟨w.heap.size,2,none⟩=some (.int .i64 0)∧w4.cell? ⟨w.heap.size,3,none⟩=some (.int .i64 0)∧w4.cell? ⟨w.heap.size,4,none⟩=some (.string ⟨#[]⟩):=⟨Zaa hbb 0 _ rfl,Zaa hbb 1 _ rfl,Zaa hbb 2 _ rfl,Zaa hbb 3 _ rfl,Zaa hbb 4 _ rfl⟩
      have rf:=fun i=>Zae hbb i
      have Hfin:Hid (∀ Z,Kept (fun k=>k=w.heap.size+1∨k=w.heap.size) w4 Z→Zqx w b x cs a R (.returned (.tuple #[.agg #[.slice aa A.length ac,.slice wa W.length wc,.int .i64 TD,.int .i64 sM,.string ⟨Q.toArray⟩],.bool true])) Z):=fun Z hZ=>by
       have e:R=(M,⟨A,W,TD,sM⟩):=by
        have e:=HTD2.out
        rw [Hrec.out,if_pos (by rw [← HsM.out]; exact hsM2)]
        unfold addN
        simp only
        rw [if_neg (by rw [← HsM.out]; exact h1),← HsM.out,← e]
       obtain ⟨k1,k2,k3,k4,k5⟩:=HB4.out.fin Hbb.out (Qe _) HEV.out hZ
       rw [e]
       exact ⟨k1,k2,k3,aa,ac,wa,wc,by simp only; rw [← HsM.out,← HQ.out],k4,k5⟩
      clear hbb hQ
      rcases hsM2 with rfl | rfl
      ·have hQi:Q.isEmpty=false:=by
        have:Q≠[]:=fun e=>absurd rfl (hZ.1 e)
        simpa using this
       clear hX hY hZ hless hsome h1 h0
       go_wp2_with fail
       refine HTr.out.mono ?_
       rintro e w6 ⟨rfl,h6⟩
       obtain rfl:w4=w6:=h6.symm
       go_wp2_with fail
       go_region
       go_wp2
       refine bodyPost_ret (v := .tuple #[.agg #[.slice aa A.length ac,.slice wa W.length wc,.int .i64 TD,.int .i64 (2:Nat),.string ⟨Q.toArray⟩],.bool true]) (by simp [results,Tryd.results11,go_sem,r0,r1,r2,r3,r4,d0,d1,d2,d3,d4,rf,df,dl]) rfl ?_
       exact Hfin.out _ (by repeat (first | with_reducible exact Qx _ _ | with_reducible apply Kept.drew | with_reducible refine Qy ?_ (fun _=>by simp) _))
      ·obtain rfl:Q=[]:=hZ.2 (by omega)
       clear hX hY hZ hless hsome h1 h0
       go_wp2_with fail
       refine HTr.out.mono ?_
       rintro e w6 ⟨rfl,h6⟩
       obtain rfl:w4=w6:=h6.symm
       go_wp2_with fail
       go_region
       go_wp2
       refine bodyPost_ret (v := .tuple #[.agg #[.slice aa A.length ac,.slice wa W.length wc,.int .i64 TD,.int .i64 (3:Nat),.string ⟨#[]⟩],.bool true]) (by simp [results,Tryd.results11,go_sem,r0,r1,r2,r3,r4,d0,d1,d2,d3,d4,rf,df,dl]) rfl ?_
       exact Hfin.out _ (by repeat (first | with_reducible exact Qx _ _ | with_reducible apply Kept.drew | with_reducible refine Qy ?_ (fun _=>by simp) _))
  ·have HTr:=Zac (Zkb wr b x1 cs a m1 HA.out.sr)
   have hbb:=Hbr.out wr HA.out.kept
   have Hbb:=Zac hbb
   obtain ⟨r0,r1,r2,r3,r4⟩:wr.cell? ⟨w.heap.size,0,none⟩=some (.slice none 0 0)∧wr.cell? ⟨w.heap.size,1,none⟩=some (.slice none 0 0)∧wr.cell? ⟨w.heap.size,2,none⟩=some (.int .i64 0)∧wr.cell? ⟨w.heap.size,3,none⟩=some (.int .i64 0)∧wr.cell? ⟨w.heap.size,4,none⟩=some (.string ⟨#[]⟩):=⟨Zaa hbb 0 _ rfl,Zaa hbb 1 _ rfl,Zaa hbb 2 _ rfl,Zaa hbb 3 _ rfl,Zaa hbb 4 _ rfl⟩
   have rf:=fun i=>Zae hbb i
   have tf:=fun i=>Zae HA.out.box i
   have c0:wr.cell? ⟨w.heap.size+1,0,none⟩=some (.slice aa A.length ac):=Zaa HA.out.box 0 _ rfl
   have c1:wr.cell? ⟨w.heap.size+1,1,none⟩=some (.slice wa W.length wc):=Zaa HA.out.box 1 _ rfl
   have c3:wr.cell? ⟨w.heap.size+1,3,none⟩=some (.int .i64 st):=Zaa HA.out.box 3 _ rfl
   have c4:wr.cell? ⟨w.heap.size+1,4,none⟩=some (.string ⟨#[]⟩):=Zaa HA.out.box 4 _ rfl
   have Htold:Hid ((Zci a m1.status m1.found m1.tree).2.2=[]):=(Zii HA.out.inv HA.out.fw).2.2.2 (by rw [← Hst.out]; omega)
   rw [Htold.out] at HTr
   have hst3:((st:Int) != 2)=true:=by rw [bne_iff_ne]; omega
   clear hbb
   have Hfin:Hid (∀ Z,Kept (fun k=>k=w.heap.size+1∨k=w.heap.size) wr Z→Zqx w b x cs a R (.returned (.tuple #[.agg #[.slice aa A.length ac,.slice wa W.length wc,.int .i64 T,.int .i64 st,.string ⟨#[]⟩],.bool true])) Z):=fun Z hZ=>by
    have e:R=(m1,⟨A,W,T,st⟩):=by
     rw [HRe.out]
     obtain ⟨f,rfl⟩:∃ f,gk=f+1:=⟨gk - 1,by omega⟩
     simp only [aftN]
     rw [if_neg hlt]
    obtain ⟨k1,k2,k3,k4,k5⟩:=HA.out.fin Hbb.out (Qe _) HEV.out hZ
    rw [e]
    exact ⟨k1,k2,k3,aa,ac,wa,wc,by simp only; rw [Htold.out],k4,k5⟩
   go_wp2_with fail
   refine HTr.out.mono ?_
   rintro e w1 ⟨rfl,rfl⟩
   go_wp2_with fail
   go_region
   go_wp2
   refine bodyPost_ret (v := .tuple #[.agg #[.slice aa A.length ac,.slice wa W.length wc,.int .i64 T,.int .i64 st,.string ⟨#[]⟩],.bool true]) (by simp [results,Tryd.results11,go_sem,r0,r1,r2,r3,r4,c0,c1,c2,c3,c4,rf,tf,hst3,hbt]) rfl ?_
   exact Hfin.out _ (by repeat (first | with_reducible exact Qx _ _ | with_reducible apply Kept.drew | with_reducible refine Qy ?_ (fun _=>by simp) _))
def NewC (p q:ByteArray) (w:World) (e:Ending) (w':World):Prop:=Ext w w' ∧
 ((Zde p=none∧e = .returned (.tuple #[.pointer none,.int .i64 4])) ∨
 ((∃ cs,Zde p=some cs)∧Zey q=none∧e = .returned (.tuple #[.pointer none,.int .i64 5])) ∨
 (∃ cs a b,∃ x:CX,Zde p=some cs∧Zey q=some a∧e = .returned (.tuple #[.pointer (some ⟨b,0,none⟩),.int .i64 0])∧(∀ k,ownS b x k→w.heap.size≤k)∧CSr w' b x cs a (newN cs a)))
theorem Ybq {a:List (List Sym) × Names} (hN:NOk (topN a)) (han:a.2.length≤121):∀ l ∈ a.1,TmOk l:=fun l hl=>by
 have hlt:l ∈ (topN a).terms:=by
  unfold ND.terms topN
  refine List.mem_append_left _ ?_
  simp
  exact hl
 have hg:=(hN.gs (l,0) (by unfold topN; simp; exact hl)).1
 exact Zkh (hN.wf l hlt) (by have h':l.length≤30:=hg; omega) (hN.occ l hlt) (by have:(topN a).vars=a.2.length:=rfl; omega)
theorem Zzb (p q:ByteArray) (w:World) (hp:p.size≤maxLen) (hq:q.size≤maxLen):Calls Tryd.prog 9 #[.string p,.string q] w (NewC p q w):=by
 have HB:=Zac (Zwl p q w hp hq)
 clear hp hq
 go_enter Tryd.func9,Tryd.ntmps9
 go_wp2_with fail
 refine HB.out.mono ?_
 rintro e w1 ⟨hE1,hB⟩
 have HE1:=Zac hE1
 have hs1:=hE1.size
 clear hE1
 rcases hB with ⟨hno,rfl⟩ | ⟨⟨cs,hsome⟩,hno,rfl⟩ | ⟨cs,a,l1,lc,xs,h1,h2,h3,b1,bc,n1,nc,hsome,hask,rfl,hP,hT,hns⟩
 ·have Hno:=Zac hno
  clear hno
  go_wp2
  go_ret2
  exact ⟨HE1.out.trans (((Ext.of (by repeat' (first | with_reducible(first|exact Qx _ _|apply Kept.drew|apply Kept.drewN|apply Qz|refine Qy ?_ ?_ _)|exact fun h=>absurd h (by simp <;> omega)))):Ext w1 (w1.alloc _)).mono hs1),Or.inl ⟨Hno.out,rfl⟩⟩
 ·have Hno:=Zac hno
  have Hsome:=Zac hsome
  clear hno hsome
  go_wp2
  go_ret2
  exact ⟨HE1.out.trans (((Ext.of (by repeat' (first | with_reducible(first|exact Qx _ _|apply Kept.drew|apply Kept.drewN|apply Qz|refine Qy ?_ ?_ _)|exact fun h=>absurd h (by simp <;> omega)))):Ext w1 (w1.alloc _)).mono hs1),Or.inr (Or.inl ⟨⟨cs,Hsome.out⟩,Hno.out,rfl⟩)⟩
 ·obtain ⟨_,_,_,hcs,hcl⟩:=Zek hsome
  obtain ⟨_,_,_,hOk,hNm,ha1,ha2,ha3,_⟩:=Zee hask
  have hFw:=Yam hask
  obtain ⟨W2,hW2⟩:∃ W2,W2=(w1.alloc (.cells #[.slice h1 h2 h3,.slice b1 a.1.length bc,.slice n1 a.2.length nc] 55)).alloc (.cells #[.slice l1 cs.length lc,.slice n1 a.2.length nc,.slice none 0 0,.int .i64 0,.int .i64 0,.slice none 0 0,.slice none 0 0,.string ⟨#[]⟩] 60):=⟨_,rfl⟩
  have hE12:Ext w1 W2:=by rw [hW2]; exact (Ext.of (by repeat' (first | with_reducible(first|exact Qx _ _|apply Kept.drew|apply Kept.drewN|apply Qz|refine Qy ?_ ?_ _)|exact fun h=>absurd h (by simp <;> omega))))
  have hs2:W2.heap.size=w1.heap.size+2:=by rw [hW2]; simp
  have hbx:W2.heap[w1.heap.size+1]?=some (.cells #[.slice l1 cs.length lc,.slice n1 a.2.length nc,.slice none 0 0,.int .i64 0,.int .i64 0,.slice none 0 0,.slice none 0 0,.string ⟨#[]⟩] 60 (0,0)):=by rw [hW2]; exact heap_alloc2_new w1 _ _
  have hC2:CSr W2 (w1.heap.size+1) ⟨l1,lc,n1,nc,none,0,none,0,0,none,0,0⟩ cs a ⟨[],0,0,⟨[],[],[],[],0⟩,[]⟩:=⟨hbx,⟨xs,hP.ext hE12⟩,Zao hns (fun j hj=>hE12.block j (hns.lt j hj).2),⟨[],RowL.nil _⟩,fun h=>by simp at h⟩
  have HTop:=Zac (Zyo W2 (.slice h1 h2 h3) (.slice b1 a.1.length bc) (.slice n1 a.2.length nc) a.1 a.2 ⟨_,_,_,rfl⟩ (hT.ext hE12) (Zao hns (fun j hj=>hE12.block j (hns.lt j hj).2)) (by omega) (by omega) (Ybq hOk ha3))
  have Hst:Hid (∀ w3 g1 gc v1 vc,Ext W2 w3→TermsIn w3 (.slice g1 a.1.length gc) a.1→TermsIn w3 (.slice v1 a.2.length vc) ((List.range a.2.length).map vr)→∀ o,CSr (w3.alloc o) (w1.heap.size+1) ⟨l1,lc,n1,nc,none,0,none,0,0,none,0,0⟩ cs a ⟨[],0,0,⟨[],[],[],[],0⟩,[]⟩∧Ext w (w3.alloc o)∧Calls Tryd.prog 23 #[.pointer (some ⟨w1.heap.size+1,0,none⟩),.agg #[.slice g1 a.1.length gc,.slice v1 a.2.length vc,.slice none 0 0,.int .i64 a.2.length]] (w3.alloc o) fun e w'=>e = .returned (.tuple #[])∧∃ x',Kept (ownS (w1.heap.size+1) ⟨l1,lc,n1,nc,none,0,none,0,0,none,0,0⟩) (w3.alloc o) w'∧CSr w' (w1.heap.size+1) x' cs a (Zbw ⟨[],0,0,⟨[],[],[],[],0⟩,[]⟩ (topN a))∧Zfh (w3.alloc o) ⟨l1,lc,n1,nc,none,0,none,0,0,none,0,0⟩ x'):=fun w3 g1 gc v1 vc hE3 hg hv o=>by
   have hE34:Ext w3 (w3.alloc o):=(Ext.of (by repeat' (first | with_reducible(first|exact Qx _ _|apply Kept.drew|apply Kept.drewN|apply Qz|refine Qy ?_ ?_ _)|exact fun h=>absurd h (by simp <;> omega))))
   have hE24:Ext W2 (w3.alloc o):=hE3.trans (hE34.mono hE3.size)
   have hC:=hC2.ext hE24
   have hEw:Ext w (w3.alloc o):=(HE1.out.trans (hE12.mono HE1.out.size)).trans (hE24.mono (by omega))
   have hCN:CNode (w3.alloc o) (.slice g1 a.1.length gc) (.slice v1 a.2.length vc) (.slice none 0 0) (.int .i64 a.2.length) (topN a):=by
    refine ⟨topN a,⟨?_,hv.ext hE34,⟨[],TermsAt.nil _ _⟩⟩,rfl,hOk,hNm,hFw,Same.refl hOk⟩
    have:(topN a).goals.map (·.1)=a.1:=by unfold topN; rw [List.map_map]; exact (List.map_congr_left (fun _ _=>rfl)).trans (List.map_id _)
    rw [this]; exact hg.ext hE34
   exact ⟨hC,hEw,Zlj (w3.alloc o) _ _ cs a _ _ _ _ _ _ hC hCN (by simp) (Zgj ha2) (by simp)⟩
  have HL:Hid (∀ u (xx:CX),CSr u (w1.heap.size+1) xx cs a (Zbw ⟨[],0,0,⟨[],[],[],[],0⟩,[]⟩ (topN a))→Calls Tryd.prog 24 #[.pointer (some ⟨w1.heap.size+1,0,none⟩)] u fun e w'=>e = .returned (.tuple #[])∧Kept (only (w1.heap.size+1)) u w'∧CSr w' (w1.heap.size+1) xx cs a (newN cs a)):=fun u xx h1=>by
   have e:Zbw ⟨[],0,0,⟨[],[],[],[],0⟩,[]⟩ (topN a)=(⟨[(topN a,0)],0,0,⟨[],[],[],[],0⟩,[40]⟩:SN):=by unfold Zbw; rw [if_neg (Zgj ha2)]; rfl
   refine Zoi u _ xx cs a _ h1 (by rw [e]; simp) (by rw [e]; intro y hy; simp at hy; subst hy; exact Qm _) hcl (by rw [e]; simp)
  have HW2:=Zac hW2
  have Hsome:=Zac hsome
  have Hask:=Zac hask
  clear hsome hask hP hT hns hcs hOk hNm ha1 ha2 ha3 hFw hE12 hbx hC2 hW2
  go_wp2_with fail
  rw [← HW2.out]
  refine HTop.out.mono ?_
  rintro e w3 ⟨hE3,g1,gc,v1,vc,rfl,hg,hv⟩
  have hs3:=hE3.size
  have H3:=Zac (Hst.out w3 g1 gc v1 vc hE3 hg hv)
  clear hE3 hg hv HTop Hst
  go_wp2_with fail
  refine (H3.out _).2.2.mono ?_
  rintro e w4 ⟨rfl,x4,hK4,hC4,hN4⟩
  have H4:=Zac (HL.out w4 x4 hC4)
  have hs4:=hK4.size
  simp at hs4
  have HK4:=Zac hK4
  have HN4:=Zac hN4
  clear hK4 hC4 hN4 HL
  go_wp2_with fail
  refine H4.out.mono ?_
  rintro e w5 ⟨rfl,hK5,hC5⟩
  have HK5:=Zac hK5
  have HC5:=Zac hC5
  clear hK5 hC5
  go_wp2
  go_ret2
  refine ⟨?_,Or.inr (Or.inr ⟨cs,a,w1.heap.size+1,x4,Hsome.out,Hask.out,rfl,fun k hk => ?_,HC5.out⟩)⟩
  ·have h1:=(H3.out (.cells #[.slice g1 a.1.length gc,.slice v1 a.2.length vc,.slice none 0 0,.int .i64 a.2.length] 62)).2.1
   refine h1.trans ((HK4.out.below h1.size (fun k hk => ?_)).trans (HK5.out.below (Qq h1.size HK4.out.size) (fun k hk => ?_)))
   ·rcases hk with rfl | ⟨p,hp,_⟩
    ·omega
    ·simp at hp
   ·have:k=w1.heap.size+1:=hk
    omega
  ·rcases hk with rfl | hk
   ·omega
   ·rcases HN4.out.1 k hk with ⟨p,hp,_⟩ | h
    ·simp at hp
    ·simp at h
     omega
def Zww (w:World) (a:List (List Sym) × Names) (R:SN × Tr) (e:Ending) (w':World):Prop :=
 Ext w w'∧∃ aa ac wa wc,e = .returned (.tuple #[.agg #[.slice aa R.2.ans.length ac,.slice wa R.2.wts.length wc,.int .i64 R.2.tries,.int .i64 R.2.status,.string ⟨(Zci a R.1.status R.1.found R.1.tree).2.2.toArray⟩],.bool true]) ∧
  w'.ownsRow w.heap.size 9 1 (.slice aa R.2.ans.length ac) R.2.ans.length (strs R.2.ans)∧w'.ownsRow w.heap.size 9 1 (.slice wa R.2.wts.length wc) R.2.wts.length (strs R.2.wts)
theorem Zpx (cs:List Cls) {a:List (List Sym) × Names} (h:a.1≠[]):(newN cs a).status=0:=by
 unfold newN Zcs Zbw
 rw [if_neg (Zgj h)]
theorem Zwx (p q:ByteArray) (w:World) (cs:List Cls) (a:List (List Sym) × Names) (hp:p.size≤maxLen) (hq:q.size≤maxLen) (hcs:Zde p=some cs) (hask:Zey q=some a) :
  Calls Tryd.prog 14 #[.string p,.string q] w (Zww w a (aftN cs a 3001 3000 3002 (newN cs a) ⟨[],[],0,0⟩)):=by
 obtain ⟨R,hR⟩:∃ R,R=aftN cs a 3001 3000 3002 (newN cs a) ⟨[],[],0,0⟩:=⟨_,rfl⟩
 have HN:=Zac (Zzb p q (w.alloc (.cells #[.slice none 0 0,.slice none 0 0,.int .i64 0,.int .i64 0,.string ⟨#[]⟩] 36)) hp hq)
 obtain ⟨_,_,_,_,_,_,hne,_,_⟩:=Zee hask
 have HI:=Zac (InvN.new cs hne)
 have Hs:=Zac (Zpx cs hne)
 have Hcs:Hid ((∀ c ∈ cs,COk c∧CNm c)∧(∀ c ∈ cs,CFew c)∧cs.length≤24):=by
  obtain ⟨_,_,_,h1,h2⟩:=Zek hcs
  exact ⟨h1,Zyt hcs,by omega⟩
 have Hp:=Zac hcs
 have Hq:=Zac hask
 have HR:=Zac hR
 rw [← hR]
 clear hp hq hne hcs hask hR
 go_enter Tryd.func14,Tryd.ntmps14
 go_wp2_with fail
 refine HN.out.mono ?_
 rintro e w1 ⟨hE1,⟨h1,_⟩ | ⟨_,h1,_⟩ | ⟨cs',a',b,x,h1,h2,rfl,hge,hC⟩⟩
 ·rw [Hp.out] at h1; simp at h1
 ·rw [Hq.out] at h1; simp at h1
 obtain rfl:cs'=cs:=by rw [Hp.out] at h1; exact (Option.some.inj h1).symm
 obtain rfl:a'=a:=by rw [Hq.out] at h2; exact (Option.some.inj h2).symm
 have HA:=Zac (Zwv w1 b x cs' q a' (newN cs' a') 3001 3000 hC HI.out (fun h=>by rw [Hs.out] at h; simp at h) Hs.out Hcs.out.1 Hcs.out.2.1 Hcs.out.2.2 Hq.out (by omega) (by omega) (by omega))
 have hbl:=Zab hC.box
 have hE0:Ext w (w.alloc (.cells #[.slice none 0 0,.slice none 0 0,.int .i64 0,.int .i64 0,.string ⟨#[]⟩] 36)):=(Ext.of (by repeat' (first | with_reducible(first|exact Qx _ _|apply Kept.drew|apply Kept.drewN|apply Qz|refine Qy ?_ ?_ _)|exact fun h=>absurd h (by simp <;> omega))))
 have HE1:=Zac hE1
 have hs1:=hE1.size
 simp at hs1
 have hb0:w1.heap[w.heap.size]?=some (.cells #[.slice none 0 0,.slice none 0 0,.int .i64 0,.int .i64 0,.string ⟨#[]⟩] 36 (0,0)):=(hE1.block _ (by simp)).trans (heap_alloc_new w _)
 have hn0:¬ ownS b x w.heap.size:=hC.not hb0 (by decide) (by decide)
 have Hge:=Zac hge
 have HE01:Hid (Ext w w1):=hE0.trans (hE1.mono hE0.size)
 rw [← HR.out] at HA
 clear hge hC hE1 hE0 HN
 go_wp2_with fail
 refine HA.out.mono ?_
 rintro e w2 ⟨hK2,hx2,hI2,aa,ac,wa,wc,rfl,ha2,hw2⟩
 have hb2:=(hK2.block _ (Zab hb0) hn0).trans hb0
 obtain ⟨r0,r1,r2,r3,r4⟩:w2.cell? ⟨w.heap.size,0,none⟩=some (.slice none 0 0)∧w2.cell? ⟨w.heap.size,1,none⟩=some (.slice none 0 0)∧w2.cell? ⟨w.heap.size,2,none⟩=some (.int .i64 0)∧w2.cell? ⟨w.heap.size,3,none⟩=some (.int .i64 0)∧w2.cell? ⟨w.heap.size,4,none⟩=some (.string ⟨#[]⟩):=⟨Zaa hb2 0 _ rfl,Zaa hb2 1 _ rfl,Zaa hb2 2 _ rfl,Zaa hb2 3 _ rfl,Zaa hb2 4 _ rfl⟩
 have rf:=fun i=>Zae hb2 i
 have hl2:=Zab hb2
 have hE2:Ext w w2:=HE01.out.trans (hK2.below (by omega) (fun k hk=>by have:=Hge.out k hk; simp at this; omega))
 obtain ⟨At,hAt⟩:∃ z,z=R.2.ans.length:=⟨_,rfl⟩
 obtain ⟨Wt,hWt⟩:∃ z,z=R.2.wts.length:=⟨_,rfl⟩
 obtain ⟨Tt,hTt⟩:∃ z,z=R.2.tries:=⟨_,rfl⟩
 obtain ⟨St,hSt⟩:∃ z,z=R.2.status:=⟨_,rfl⟩
 obtain ⟨Qt,hQt⟩:∃ z,z=(Zci a' R.1.status R.1.found R.1.tree).2.2:=⟨_,rfl⟩
 have Hfin:Hid (∀ Z,Kept (fun k=>w.heap.size≤k∧(k=w.heap.size∨w2.heap.size≤k)) w2 Z→Zww w a' R (.returned (.tuple #[.agg #[.slice aa At ac,.slice wa Wt wc,.int .i64 Tt,.int .i64 St,.string ⟨Qt.toArray⟩],.bool true])) Z):=fun Z hZ=>by
  rw [hAt,hWt,hTt,hSt,hQt]
  have hS:∀ k,k<w2.heap.size→(w.heap.size≤k∧(k=w.heap.size∨w2.heap.size≤k))→k=w.heap.size:=fun k hk h=>by omega
  have hrow:∀ {v:Value} {xs:List Value} {n:Nat},w2.ownsRow w1.heap.size 9 1 v n xs→Z.ownsRow w.heap.size 9 1 v n xs:=fun hr=>Zbc (Zao hr (fun k hk=>hZ.block k (hr.lt k hk).2 (fun h=>by have:=hS k (hr.lt k hk).2 h; have:=(hr.lt k hk).1; omega))) (by omega)
  exact ⟨hE2.trans (hZ.below (by omega) (fun k h=>h.1)),aa,ac,wa,wc,rfl,hrow ha2,hrow hw2⟩
 rw [← hAt,← hWt,← hTt,← hSt,← hQt]
 clear hK2 hx2 hI2 ha2 hw2 hb2 hE2 hAt hWt hTt hSt hQt hb0 hn0 HA HE01 HE1 HR
 go_wp2
 refine bodyPost_ret (v := .tuple #[.agg #[.slice aa At ac,.slice wa Wt wc,.int .i64 Tt,.int .i64 St,.string ⟨Qt.toArray⟩],.bool true]) (by simp [results,Tryd.results14,go_sem,r0,r1,r2,r3,r4,rf,hl2]) rfl ?_
 refine Hfin.out _ ?_
 repeat (first | with_reducible exact Qx _ _ | with_reducible apply Qz | with_reducible apply Kept.drew | with_reducible refine Qy ?_ (fun _=>⟨Qe _,Or.inl rfl⟩) _)
theorem Zwy {w:World} {B n c i:Nat} {a:Option Addr} {A:List (List UInt8)} (h:w.ownsRow B 9 1 (.slice a n c) n (strs A)) (hi:i<n):∃ g y,a=some ⟨g,0,none⟩∧g<w.heap.size∧A[i]?=some y∧w.cell? ⟨g,i,none⟩=some (.string ⟨y.toArray⟩):=by
 rcases h.2 with ⟨h1,h2⟩ | ⟨g,cap,cur,h1,h2⟩
 ·omega
 ·simp only [Value.slice.injEq] at h1
  obtain ⟨rfl,_,rfl⟩:=h1
  have hl:=h.1
  have hA:i<A.length:=by simp [strs] at hl; omega
  obtain ⟨y,hy⟩:∃ y,A[i]?=some y:=⟨_,Qb hA⟩
  exact ⟨g,y,rfl,(h.lt g rfl).2,hy,Zai h i _ (by unfold strs; rw [Qj,hy]; rfl)⟩
def symB (s t:Sym):Bool:=s.name == t.name && s.num == t.num && s.args == t.args
theorem Zwz {s t:Sym} (h:symB s t=true):s=t:=by
 unfold symB at h
 simp only [Bool.and_eq_true,beq_iff_eq] at h
 obtain ⟨⟨h1,h2⟩,h3⟩:=h
 cases s; cases t
 simp_all
theorem Yaq {s t:Sym} (h:symB s t=false):s≠t:=by
 rintro rfl
 simp [symB] at h
def Zml:List Sym→List Sym→Option (List Sym × List Sym)
 | s::a,t::b=>if symB s t then Zml a b else some ((s::a).take (skip 1 (s::a)),(t::b).take (skip 1 (t::b)))
 | _,_=>none
theorem Zqy {l:List Sym} {j:Nat} (h:Wf j l) (hj:0<j):Wf 1 (l.take (skip 1 l))∧l=l.take (skip 1 l)++l.drop (skip 1 l):=by
 refine ⟨?_,(List.take_append_drop _ _).symm⟩
 obtain ⟨k,rfl⟩:∃ k,j=1+k:=⟨j - 1,by omega⟩
 obtain ⟨a,b,rfl,ha,hb⟩:=Zhj h
 rw [Zhc b ha,List.take_left]
 exact ha
theorem Zlk {s:Sym} {l:List Sym}:((s::l).take (skip 1 (s::l))).head?=some s:=by simp [skip]
theorem Ztq:∀ {a b:List Sym} {j:Nat} {x y:List Sym},Wf j a→Wf j b→Zml a b=some (x,y)→Parts a b x y:=by
 intro a
 induction a with
 | nil=>intro b j x y _ _ h; simp [Zml] at h
 | cons s a ih =>
  intro b j x y ha hb h
  cases b with
  | nil=>simp [Zml] at h
  | cons t b =>
   unfold Zml at h
   split at h
   ·rename_i e
    obtain rfl:=Zwz e
    obtain ⟨_,_,_,h1⟩:=ha
    obtain ⟨_,_,_,h2⟩:=hb
    obtain ⟨⟨p,ra,rb,rfl,rfl⟩,wx,wy,ne⟩:=ih h1 h2 h
    exact ⟨⟨s::p,ra,rb,by simp,by simp⟩,wx,wy,ne⟩
   ·rename_i e
    obtain ⟨rfl,rfl⟩:(s::a).take (skip 1 (s::a))=x∧(t::b).take (skip 1 (t::b))=y:=by simpa using h
    obtain ⟨w1,e1⟩:=Zqy ha ha.1
    obtain ⟨w2,e2⟩:=Zqy hb hb.1
    refine ⟨⟨[],_,_,by rw [List.nil_append]; exact e1,by rw [List.nil_append]; exact e2⟩,w1,w2,?_⟩
    rw [Zlk,Zlk]
    intro h1
    exact Yaq (by simpa using e) (by simpa using h1)
theorem Ztr:∀ {a b:List Sym} {j:Nat},Wf j a→Wf j b→Zml a b=none→a=b:=by
 intro a
 induction a with
 | nil =>
  intro b j ha hb h
  cases b with
  | nil=>rfl
  | cons t b=>have h1:j=0:=ha; have h2:=hb.1; omega
 | cons s a ih =>
  intro b j ha hb h
  cases b with
  | nil=>have h1:j=0:=hb; have h2:=ha.1; omega
  | cons t b =>
   unfold Zml at h
   split at h
   ·rename_i e
    obtain rfl:=Zwz e
    obtain ⟨_,_,_,h1⟩:=ha
    obtain ⟨_,_,_,h2⟩:=hb
    rw [ih h1 h2 h]
   ·simp at h
def occB (v:Nat) (l:List Sym):Bool:=l.any (fun s=>s.name.isEmpty && s.num == v)
theorem Zqz {v:Nat} {l:List Sym} (h:occB v l=true):Occ v l:=by
 unfold occB at h
 rw [List.any_eq_true] at h
 obtain ⟨s,h1,h2⟩:=h
 simp only [Bool.and_eq_true,beq_iff_eq,List.isEmpty_iff] at h2
 exact ⟨s,h1,h2.1,h2.2⟩
def sgC (bs:List (Nat × List Sym)):Nat→List Sym:=fun n=>bs.foldl (fun t b=>ap (sub1 b.1 b.2) t) (vr n)
theorem Zra (bs:List (Nat × List Sym)) (v:Nat) (y:List Sym):sgC (bs++[(v,y)])=fun n=>ap (sub1 v y) (sgC bs n):=by
 funext n
 simp [sgC,List.foldl_append]
def fitC:Nat→List Sym→List Sym→List (Nat × List Sym)→Option (Option (List (Nat × List Sym)))
 | 0,_,_,_=>none
 | f+1,a,b,bs=>match Zml a b with
  | none=>some (some bs)
  | some (x,y)=>match x.head?,y.head? with
   | some s,some t=>if s.name.isEmpty then (if occB s.num y then some none else fitC f (ap (sub1 s.num y) a) (ap (sub1 s.num y) b) (bs++[(s.num,y)]))
     else if t.name.isEmpty then (if occB t.num x then some none else fitC f (ap (sub1 t.num x) a) (ap (sub1 t.num x) b) (bs++[(t.num,x)]))
     else some none
   | _,_=>none
theorem Zrb {x:List Sym} {s:Sym} (h:Wf 1 x) (hs:x.head?=some s) (hn:s.name.isEmpty=true):x=vr s.num:=by
 obtain ⟨s',r,rfl,_,h2⟩:=Zin h
 simp at hs
 subst hs
 exact h2 (by simpa using hn)
theorem Yar {a0 b0:List Sym} {j:Nat}:∀ {f:Nat} {a b:List Sym} {bs:List (Nat × List Sym)},Carr a0 b0 (sgC bs) a b→Wf j a→Wf j b →
  (fitC f a b bs=some none→NoFit a0 b0)∧(∀ bs',fitC f a b bs=some (some bs')→Mgu (sgC bs') a0 b0):=by
 intro f
 induction f with
 | zero=>intro a b bs _ _ _; exact ⟨fun h=>by simp [fitC] at h,fun _ h=>by simp [fitC] at h⟩
 | succ f ih =>
  intro a b bs hC ha hb
  unfold fitC
  cases hp:Zml a b with
  | none =>
   refine ⟨fun h=>by simp at h,fun bs' h => ?_⟩
   simp at h
   subst h
   exact hC.done (Ztr ha hb hp)
  | some xy =>
   obtain ⟨x,y⟩:=xy
   have hP:=Ztq ha hb hp
   simp only
   obtain ⟨s,r,hx,_,_⟩:=Zin hP.wx
   obtain ⟨t,q,hy,_,_⟩:=Zin hP.wy
   have hsx:x.head?=some s:=by rw [hx]; rfl
   have hty:y.head?=some t:=by rw [hy]; rfl
   rw [hsx,hty]
   simp only
   split
   ·rename_i e
    have hv:=Zrb hP.wx hsx e
    split
    ·rename_i o
     exact ⟨fun _=>hC.none (Or.inl (Zjd hP hv (Zqz o))),fun _ h=>by simp at h⟩
    ·have hC':=hC.step (Or.inl hP) hv
     rw [← Zra] at hC'
     exact ih hC' (Zgs (Zjc hP.wy) ha) (Zgs (Zjc hP.wy) hb)
   ·rename_i e
    split
    ·rename_i e2
     have hv:=Zrb hP.wy hty e2
     split
     ·rename_i o
      exact ⟨fun _=>hC.none (Or.inr (Zjd hP.symm hv (Zqz o))),fun _ h=>by simp at h⟩
     ·have hC':=hC.step (Or.inr hP.symm) hv
      rw [← Zra] at hC'
      exact ih hC' (Zgs (Zjc hP.wx) ha) (Zgs (Zjc hP.wx) hb)
    ·rename_i e2
     exact ⟨fun _=>hC.none (Or.inl (Zrj hP hx hy (by simpa using e) (by simpa using e2))),fun _ h=>by simp at h⟩
def tryC (n:ND) (c:Cls) (k:Nat):Option (ND × Nat):=match n.goals with
 | []=>none
 | g::gs=>match fitC 200 g.1 (ap (Zcp n.vars) c.head) [] with
  | none=>none
  | some none=>some (⟨[],[],[],[],0⟩,0)
  | some (some bs)=>if 30<(ap (sgC bs) g.1).length then some (⟨[],[],[],[],0⟩,3) else some (Zas (sgC bs) n c k g gs,Zdy (Zas (sgC bs) n c k g gs))
theorem Zzc {n:ND} {c:Cls} {k q:Nat} {ch:ND} (hn:NOk n) (hc:COk c) (h:tryC n c k=some (ch,q)):Out n c k q ch:=by
 unfold tryC at h
 split at h
 ·simp at h
 ·rename_i g gs hg
  have w1:Wf 1 g.1:=hn.wf g.1 (by unfold ND.terms; rw [hg]; simp)
  have w2:Wf 1 (ap (Zcp n.vars) c.head):=Zgs (fun m=>Zoo _) hc.wfh
  have hC:=Yar (f:=200) (bs:=[]) (j:=1) (Carr.start w1 w2) w1 w2
  refine ⟨g,gs,hg,?_⟩
  split at h
  ·simp at h
  ·rename_i e
   simp at h
   exact Or.inl ⟨h.2.symm,hC.1 e⟩
  ·rename_i bs e
   have hM:=hC.2 bs e
   split at h
   ·rename_i hl
    simp at h
    exact Or.inr (Or.inl ⟨h.2.symm,hM.small hl⟩)
   ·rename_i hl
    simp at h
    exact Or.inr (Or.inr ⟨sgC bs,hM,by omega,h.2.symm,h.1.symm⟩)
def RelW:List (ND × Nat)→List (ND × Nat)→Prop
 | [],[]=>True
 | x::r,y::q=>(NOk x.1∧Same x.1 y.1∧x.2=y.2)∧RelW r q
 | _,_=>False
structure RelS (s t:SN):Prop where
 way:RelW s.way t.way
 tries:s.tries=t.tries
 status:s.status=t.status
 found:s.status=1→NOk s.found∧Same s.found t.found
 tree:s.tree=t.tree
theorem RelW.nil_iff {a b:List (ND × Nat)} (h:RelW a b):a=[]↔b=[]:=by
 cases a <;> cases b <;> simp_all [RelW]
theorem RelW.leave (cs:List Cls):∀ {a b:List (ND × Nat)} {t:List UInt8},RelW a b→RelW (Zcm cs a t).1 (Zcm cs b t).1∧(Zcm cs a t).2=(Zcm cs b t).2:=by
 intro a
 induction a with
 | nil =>
  intro b t h
  cases b with
  | nil=>exact ⟨trivial,rfl⟩
  | cons y q=>exact h.elim
 | cons x r ih =>
  intro b t h
  cases b with
  | nil=>exact h.elim
  | cons y q =>
   obtain ⟨n,k⟩:=x
   obtain ⟨m,j⟩:=y
   obtain ⟨⟨h1,h2,h3⟩,h4⟩:=h
   simp only at h3
   subst h3
   unfold Zcm
   split
   ·exact ih h4
   ·exact ⟨⟨⟨h1,h2,rfl⟩,h4⟩,rfl⟩
def Zrc (cs:List Cls) (s:SN):SN:=⟨(Zcm cs s.way s.tree).1,s.tries,s.status,s.found,(Zcm cs s.way s.tree).2⟩
theorem RelS.left (cs:List Cls) {s t:SN} (h:RelS s t):RelS (Zrc cs s) (Zcs cs t):=by
 have h1:=h.way.leave cs (t:=s.tree)
 unfold Zrc Zcs
 refine ⟨?_,h.tries,h.status,h.found,?_⟩
 ·simp only; rw [← h.tree]; exact h1.1
 ·simp only; rw [← h.tree]; exact h1.2
def Zmm (s:SN) (n:ND):SN:=if n.goals.isEmpty then ⟨s.way,s.tries,1,n,s.tree++[33]⟩ else ⟨(n,0)::s.way,s.tries,s.status,s.found,s.tree++[40]⟩
theorem RelS.enter {s t:SN} (h:RelS s t) {n m:ND} (hn:NOk n) (hs:Same n m):RelS (Zmm s n) (Zbw t m):=by
 have hg:=hs.gl
 unfold Zmm Zbw
 by_cases he:n.goals=[]
 ·have he':m.goals=[]:=List.eq_nil_of_length_eq_zero (by rw [← hg,he]; rfl)
  rw [if_pos (by simp [he]),if_pos he']
  exact ⟨h.way,h.tries,rfl,fun _=>⟨hn,hs⟩,by simp only; rw [h.tree]⟩
 ·have he':m.goals≠[]:=fun e=>he (List.eq_nil_of_length_eq_zero (by rw [hg,e]; rfl))
  rw [if_neg (by simpa using he),if_neg he']
  exact ⟨⟨⟨hn,hs,rfl⟩,h.way⟩,h.tries,h.status,h.found,by simp only; rw [h.tree]⟩
def decC (k:Nat):List UInt8:=if k<10 then [UInt8.ofNat (48+k)] else Lib.decDigits k
theorem Zxa (k:Nat):decC k=Lib.decDigits k:=by
 unfold decC
 split
 ·rename_i h
  rw [Lib.decDigits_one h]
 ·rfl
def Zhx (cs:List Cls) (s:SN):Option SN:=match s.way with
 | []=>some s
 | (n,k)::r=>match cs[k]? with
  | none=>some s
  | some c=>match tryC n c k with
   | none=>none
   | some (ch,q)=>some (Zrc cs (if q=3 then ⟨(n,k+1)::r,s.tries+1,3,s.found,s.tree⟩
    else if q=1∨q=2 then Zmm ⟨(n,k+1)::r,s.tries+1,s.status,s.found,s.tree++decC k⟩ ch
    else ⟨(n,k+1)::r,s.tries+1,s.status,s.found,s.tree⟩))
theorem RelS.try' {cs:List Cls} (hcs:∀ c ∈ cs,COk c) {s t s':SN} (h:RelS s t) (he:Zhx cs s=some s'):RelS s' (Zaw cs t):=by
 unfold Zhx at he
 unfold Zaw
 have hw:=h.way
 cases hs:s.way with
 | nil =>
  rw [hs] at he hw
  cases ht:t.way with
  | nil=>simp at he; subst he; exact h
  | cons y q=>rw [ht] at hw; exact hw.elim
 | cons x r =>
  rw [hs] at he hw
  cases ht:t.way with
  | nil=>rw [ht] at hw; exact hw.elim
  | cons y q =>
   rw [ht] at hw
   obtain ⟨n,k⟩:=x
   obtain ⟨m,j⟩:=y
   obtain ⟨⟨h1,h2,h3⟩,h4⟩:=hw
   simp only at h1 h2 h3
   subst h3
   simp only at he ⊢
   cases hc:cs[k]? with
   | none=>rw [hc] at he; simp at he; subst he; exact h
   | some c =>
    rw [hc] at he
    simp only at he ⊢
    cases hq:tryC n c k with
    | none=>rw [hq] at he; simp at he
    | some cq =>
     obtain ⟨ch,q'⟩:=cq
     rw [hq] at he
     simp only [Qo] at he
     subst he
     rw [Zxa]
     have hcc:=hcs c (Qh hc)
     obtain ⟨e1,e2⟩:=Zls h1 h2 hcc (Zzc h1 hcc hq)
     refine RelS.left cs ?_
     rw [← e1]
     split
     ·exact ⟨⟨⟨h1,h2,rfl⟩,h4⟩,by simp only; rw [h.tries],rfl,fun h=>by simp at h,h.tree⟩
     ·split
      ·rename_i h12
       exact RelS.enter (s:=⟨(n,k+1)::r,s.tries+1,s.status,s.found,s.tree++Lib.decDigits k⟩) (t:=⟨(m,k+1)::q,t.tries+1,t.status,t.found,t.tree++Lib.decDigits k⟩) ⟨⟨⟨h1,h2,rfl⟩,h4⟩,by simp only; rw [h.tries],h.status,h.found,by simp only; rw [h.tree]⟩ (e2 h12).1 (e2 h12).2
      ·exact ⟨⟨⟨h1,h2,rfl⟩,h4⟩,by simp only; rw [h.tries],h.status,h.found,h.tree⟩
def Zkd (cs:List Cls):Nat→SN→Option (SN × Nat)
 | 0,s=>some (s,0)
 | n+1,s=>if s.status=0∧s.way.isEmpty=false∧s.tries<3000 then match Zhx cs s with
   | none=>none
   | some s'=>match Zkd cs n s' with
    | none=>none
    | some (u,m)=>some (u,m+1)
  else some (s,0)
theorem RelS.loop {cs:List Cls} (hcs:∀ c ∈ cs,COk c):∀ {n:Nat} {s t:SN} {r:SN × Nat},RelS s t→Zkd cs n s=some r→RelS r.1 (Zcj cs n t).1∧r.2=(Zcj cs n t).2:=by
 intro n
 induction n with
 | zero=>intro s t r h he; simp [Zkd] at he; subst he; exact ⟨h,rfl⟩
 | succ n ih =>
  intro s t r h he
  have hiff:(s.status=0∧s.way.isEmpty=false∧s.tries<3000)↔(t.status=0∧t.way≠[]∧t.tries<3000):=by
   rw [h.status,h.tries,List.isEmpty_eq_false_iff,Ne,h.way.nil_iff]
  unfold Zkd at he
  unfold Zcj
  split at he
  ·rename_i hc
   rw [if_pos (hiff.1 hc)]
   cases hm:Zhx cs s with
   | none=>rw [hm] at he; simp at he
   | some s' =>
    rw [hm] at he
    simp only at he
    cases hl:Zkd cs n s' with
    | none=>rw [hl] at he; simp at he
    | some um =>
     obtain ⟨u,m⟩:=um
     rw [hl] at he
     simp at he
     subst he
     have:=ih (h.try' hcs hm) hl
     exact ⟨this.1,by simp only; rw [← this.2]⟩
  ·rename_i hc
   rw [if_neg (fun e=>hc (hiff.2 e))]
   simp at he
   subst he
   exact ⟨h,rfl⟩
def Zrd (s:SN):SN:=⟨[],s.tries,3,s.found,[]⟩
def Yas (s:SN):SN:=if s.status=3 then Zrd s else if s.status=0 then (if s.way.isEmpty then ⟨s.way,s.tries,2,s.found,s.tree⟩ else if 3000≤s.tries then Zrd s else s) else s
theorem RelS.full {s t:SN} (h:RelS s t):RelS (Zrd s) (Zfe t):=⟨trivial,h.tries,rfl,fun h=>by simp [Zrd] at h,rfl⟩
theorem RelS.end' {s t:SN} (h:RelS s t):RelS (Yas s) (endN t):=by
 unfold Yas endN
 rw [h.status]
 split
 ·exact h.full
 ·split
  ·rename_i h3 h0
   by_cases hw:s.way=[]
   ·rw [if_pos (by simp [hw]),if_pos (h.way.nil_iff.1 hw)]
    exact ⟨h.way,h.tries,rfl,fun h=>by simp at h,h.tree⟩
   ·rw [if_neg (by simpa using hw),if_neg (fun e=>hw (h.way.nil_iff.2 e)),h.tries]
    split
    ·exact h.full
    ·exact h
  ·exact h
def Ziz (cs:List Cls) (n:Nat) (s:SN):Option (SN × Nat):=if s.status=2∨s.status=3 then some (s,0) else match Zkd cs n ⟨s.way,s.tries,0,s.found,s.tree⟩ with
 | none=>none
 | some (u,m)=>some (Yas u,m)
theorem RelS.step {cs:List Cls} (hcs:∀ c ∈ cs,COk c) {n:Nat} {s t:SN} {r:SN × Nat} (h:RelS s t) (he:Ziz cs n s=some r):RelS r.1 (Zct cs n t).1∧r.2=(Zct cs n t).2:=by
 unfold Ziz at he
 unfold Zct
 rw [h.status] at he
 split at he
 ·rename_i hc
  simp at he
  subst he
  rw [if_pos hc]
  exact ⟨h,rfl⟩
 ·rename_i hc
  rw [if_neg hc]
  cases hl:Zkd cs n ⟨s.way,s.tries,0,s.found,s.tree⟩ with
  | none=>rw [hl] at he; simp at he
  | some um =>
   obtain ⟨u,m⟩:=um
   rw [hl] at he
   simp at he
   subst he
   have:=RelS.loop hcs (s:=⟨s.way,s.tries,0,s.found,s.tree⟩) (t := { t with status:=0 }) ⟨h.way,h.tries,rfl,fun h=>by simp at h,h.tree⟩ hl
   exact ⟨this.1.end',this.2⟩
def Zpy (cs:List Cls) (a:List (List Sym) × Names):SN:=Zrc cs (Zmm ⟨[],0,0,⟨[],[],[],[],0⟩,[]⟩ (topN a))
theorem RelS.new {cs:List Cls} {a:List (List Sym) × Names} (h:NOk (topN a)):RelS (Zpy cs a) (newN cs a) :=
 RelS.left cs (RelS.enter (s:=⟨[],0,0,⟨[],[],[],[],0⟩,[]⟩) (t:=⟨[],0,0,⟨[],[],[],[],0⟩,[]⟩) ⟨trivial,rfl,rfl,fun h=>by simp at h,rfl⟩ h (Same.refl h))
def Zmn:List UInt8→List Nat→List UInt8
 | _,[]=>[]
 | sep,k::ks=>sep++(decC k++Zmn [46] ks)
theorem Zts:∀ (sep:List UInt8) (ks:List Nat),Zmn sep ks=Zdt sep ks:=by
 intro sep ks
 induction ks generalizing sep with
 | nil=>rfl
 | cons k ks ih=>simp only [Zmn,Zdt,Zxa,ih]
def Zxb (a:List (List Sym) × Names) (s:SN):List UInt8 × List UInt8 × List UInt8:=if s.status=1 then (Zdk a.2 s.found,Zmn [] s.found.used,[]) else if s.status=2 then ([],[],s.tree) else ([],[],[])
theorem Zre {a:List (List Sym) × Names} {s t:SN} (h:RelS s t):Zxb a s=Zci a t.status t.found t.tree:=by
 unfold Zxb Zci
 rw [h.status,h.tree]
 split
 ·rename_i h1
  obtain ⟨hn,hs⟩:=h.found (by rw [h.status]; exact h1)
  rw [show Zdk a.2 s.found=Zdk a.2 t.found by unfold Zdk; rw [hs.valsC hn],Zts,Zhp,hs.used]
 ·rfl
def addC (a:List (List Sym) × Names) (t:Tr) (r:SN × Nat):Tr :=
 if r.1.status=1 then ⟨t.ans++[(Zxb a r.1).1],t.wts++[(Zxb a r.1).2.1],t.tries+r.2,r.1.status⟩ else ⟨t.ans,t.wts,t.tries+r.2,r.1.status⟩
def aftC (cs:List Cls) (a:List (List Sym) × Names) (tries size:Nat):Nat→SN→Tr→Option (SN × Tr)
 | 0,m,t=>some (m,t)
 | f+1,m,t=>if t.tries<tries then match Ziz cs (Zft size (tries - t.tries)) m with
   | none=>none
   | some r=>if r.1.status=2∨r.1.status=3 then some (r.1,addC a t r) else aftC cs a tries size f r.1 (addC a t r)
  else some (m,t)
theorem Yat {a:List (List Sym) × Names} {t:Tr} {r u:SN × Nat} (h:RelS r.1 u.1) (h2:r.2=u.2):addC a t r=addN a t u:=by
 unfold addC addN
 rw [Zre h,h.status,h2]
theorem Yau {cs:List Cls} (hcs:∀ c ∈ cs,COk c) {a:List (List Sym) × Names} {tries size:Nat}:∀ {f:Nat} {s m:SN} {t:Tr} {r:SN × Tr},RelS s m→aftC cs a tries size f s t=some r→RelS r.1 (aftN cs a tries size f m t).1∧r.2=(aftN cs a tries size f m t).2:=by
 intro f
 induction f with
 | zero=>intro s m t r h he; simp [aftC] at he; subst he; exact ⟨h,rfl⟩
 | succ f ih =>
  intro s m t r h he
  unfold aftC at he
  unfold aftN
  split at he
  ·rename_i hlt
   rw [if_pos hlt]
   cases hs:Ziz cs (Zft size (tries - t.tries)) s with
   | none=>rw [hs] at he; simp at he
   | some u =>
    rw [hs] at he
    simp only at he
    obtain ⟨h1,h2⟩:=h.step hcs hs
    rw [Yat h1 h2,h1.status] at he
    split at he
    ·rename_i hd
     rw [if_pos hd]
     simp at he
     subst he
     exact ⟨h1,rfl⟩
    ·rename_i hd
     rw [if_neg hd]
     exact ih h1 he
  ·rename_i hlt
   rw [if_neg hlt]
   simp at he
   subst he
   exact ⟨h,rfl⟩
def Zgb (p q:List UInt8):Option (Tr × List UInt8):=match Zde ⟨p.toArray⟩,Zey ⟨q.toArray⟩ with
 | some cs,some a=>match aftC cs a 3001 3000 3002 (Zpy cs a) ⟨[],[],0,0⟩ with
  | some (u,t)=>some (t,(Zxb a u).2.2)
  | none=>none
 | _,_=>none
theorem Zxc {p q:List UInt8} {t:Tr} {T:List UInt8} (h:Zgb p q=some (t,T)):∃ cs a,Zde ⟨p.toArray⟩=some cs∧Zey ⟨q.toArray⟩=some a∧(aftN cs a 3001 3000 3002 (newN cs a) ⟨[],[],0,0⟩).2=t ∧
  (Zci a (aftN cs a 3001 3000 3002 (newN cs a) ⟨[],[],0,0⟩).1.status (aftN cs a 3001 3000 3002 (newN cs a) ⟨[],[],0,0⟩).1.found (aftN cs a 3001 3000 3002 (newN cs a) ⟨[],[],0,0⟩).1.tree).2.2=T:=by
 unfold Zgb at h
 cases hp:Zde ⟨p.toArray⟩ with
 | none=>rw [hp] at h; simp at h
 | some cs =>
  cases hq:Zey ⟨q.toArray⟩ with
  | none=>rw [hp,hq] at h; simp at h
  | some a =>
   rw [hp,hq] at h
   simp only at h
   obtain ⟨_,_,_,hcs,_⟩:=Zek hp
   obtain ⟨_,_,_,hOk,_,_,_,_,_⟩:=Zee hq
   cases hA:aftC cs a 3001 3000 3002 (Zpy cs a) ⟨[],[],0,0⟩ with
   | none=>rw [hA] at h; simp at h
   | some r =>
    obtain ⟨u,t'⟩:=r
    rw [hA] at h
    simp only [Qo,Prod.mk.injEq] at h
    obtain ⟨h1,h2⟩:=Yau (fun c hc=>(hcs c hc).1) (RelS.new hOk) hA
    exact ⟨cs,a,rfl,rfl,by rw [← h2]; exact h.1,by rw [← Zre h1]; exact h.2⟩
theorem Zeg {p q:List UInt8} {t:Tr} {T:List UInt8} (h:Zgb p q=some (t,T)) (w:World) :
  Calls Tryd.prog 14 #[.string ⟨p.toArray⟩,.string ⟨q.toArray⟩] w fun e w'=>Ext w w'∧∃ aa ac wa wc,e = .returned (.tuple #[.agg #[.slice aa t.ans.length ac,.slice wa t.wts.length wc,.int .i64 t.tries,.int .i64 t.status,.string ⟨T.toArray⟩],.bool true]) ∧
   w'.ownsRow w.heap.size 9 1 (.slice aa t.ans.length ac) t.ans.length (strs t.ans)∧w'.ownsRow w.heap.size 9 1 (.slice wa t.wts.length wc) t.wts.length (strs t.wts):=by
 obtain ⟨cs,a,hp,hq,h1,h2⟩:=Zxc h
 have hps:(⟨p.toArray⟩:ByteArray).size≤maxLen:=by
  have:=(Zek hp).1
  simp only [maxLen]; omega
 have hqs:(⟨q.toArray⟩:ByteArray).size≤maxLen:=by
  have:=(Zee hq).1
  simp only [maxLen]; omega
 have:=Zwx ⟨p.toArray⟩ ⟨q.toArray⟩ w cs a hps hqs hp hq
 unfold Zww at this
 rw [h1,h2] at this
 exact this
def innC:Nat→List UInt8
 | 0=>[88]
 | k+1=>[102,40]++innC k++[41]
def Zmo:List UInt8:=[101,113,40,65,44,65,41,46]
def Ztt (k:Nat):List UInt8:=[101,113,40,88,44]++innC k++[41,46]
def Ztu (k:Nat):List UInt8:=[101,113,40,103,40]++innC k++[44,89,41,44,103,40,89,44,102,40,88,41,41,41,46]
def Ybr (k:Nat):Tr × List UInt8:=if k=0 then (⟨[[88,61,65]],[[48]],1,2⟩,[40,48,33,41]) else (⟨[],[],1,2⟩,[40,41])
def Ybs (k:Nat):Tr × List UInt8:=if k=1 then (⟨[[88,61,65,44,89,61,102,40,65,41]],[[48]],1,2⟩,[40,48,33,41]) else (⟨[],[],1,2⟩,[40,41])
set_option maxRecDepth 100000 in
theorem Yav (k:Nat) (hk:k<9):Zgb Zmo (Ztt k)=some (Ybr k):=by
 rcases (by omega:k=0∨k=1∨k=2∨k=3∨k=4∨k=5∨k=6∨k=7∨k=8) with rfl | rfl | rfl | rfl | rfl | rfl | rfl | rfl | rfl
 all_goals kernel_rfl
set_option maxRecDepth 100000 in
theorem Yaw (k:Nat) (hk:k<9):Zgb Zmo (Ztu k)=some (Ybs k):=by
 rcases (by omega:k=0∨k=1∨k=2∨k=3∨k=4∨k=5∨k=6∨k=7∨k=8) with rfl | rfl | rfl | rfl | rfl | rfl | rfl | rfl | rfl
 all_goals kernel_rfl
theorem Zzd (k:Nat):(innC k).length=3 * k+1:=by
 induction k with
 | zero=>rfl
 | succ k ih=>simp [innC,ih]; omega
theorem Zll:(⟨Zmo.toArray⟩:ByteArray)=⟨#[101,113,40,65,44,65,41,46]⟩:=rfl
theorem Zxd (k:Nat):(⟨(Ztt k).toArray⟩:ByteArray)=⟨#[101,113,40,88,44]⟩++⟨(innC k).toArray⟩++⟨#[41,46]⟩:=by
 unfold Ztt
 rw [← Zbp,← Zbp]
theorem Zxe (k:Nat):(⟨(Ztu k).toArray⟩:ByteArray)=⟨#[101,113,40,103,40]⟩++⟨(innC k).toArray⟩++⟨#[44,89,41,44,103,40,89,44,102,40,88,41,41,41,46]⟩:=by
 unfold Ztu
 rw [← Zbp,← Zbp]
theorem Ybt (k:Nat):(⟨(innC (k+1)).toArray⟩:ByteArray)=⟨#[102,40]⟩++⟨(innC k).toArray⟩++⟨#[41]⟩:=by
 simp only [innC]
 rw [← Zbp,← Zbp]
theorem Zok (c:Int) (hc : -9223372036854775808≤c∧c<9223372036854775808) (w:World) :
  Calls Tryd.prog 5 #[.int .i64 c] w fun e w'=>e = .returned (.bool true)∧Ext w w':=by
 have HP:=Zac (Ztz c 9 w hc ⟨by decide,by decide⟩)
 go_enter Tryd.func5,Tryd.ntmps5
 go_wp2_with fail
 refine HP.out.mono ?_
 rintro e w1 ⟨k,hk,rfl,rfl⟩
 have hk9:k<9:=by omega
 clear HP hk hc
 go_wp2
 go_loop [4,5] (fun sv i=>∃ j:Nat,j≤k∧i = .int .i64 j∧sv = .string ⟨(innC j).toArray⟩) (fun _ i=>k - (intOf i).toNat)
 case atStart=>exact ⟨0,Qm _,rfl,rfl⟩
 case round =>
  obtain ⟨j,hj,rfl,rfl⟩:=hrel
  have hil:=Zzd j
  by_cases hlt:j<k
  ·have Hi:=Zac (Ybt j)
   go_wp2
   go_round
   case rel=>exact ⟨j+1,by omega,by go_num,by rw [Hi.out]⟩
   case measure=>simp [intOf]; omega
  ·obtain rfl:j=k:=by omega
   by_cases h0:j=0
   ·subst h0
    have H1:=Zac (fun u=>Zeg (show Zgb Zmo (Ztt 0)=some (⟨[[88,61,65]],[[48]],1,2⟩,[40,48,33,41]) from Yav 0 (by decide)) u)
    have H2:=Zac (fun u=>Zeg (show Zgb Zmo (Ztu 0)=some (⟨[],[],1,2⟩,[40,41]) from Yaw 0 (by decide)) u)
    rw [Zxd,Zll] at H1
    rw [Zxe,Zll] at H2
    simp only [Qn,Jt] at H1 H2
    go_wp2_with fail
    refine (H1.out _).mono ?_
    rintro e w2 ⟨hE2,aa,ac,wa,wc,rfl,ha2,hw2⟩
    obtain ⟨g,y,rfl,hg,hy,cg⟩:=Zwy (i:=0) ha2 (by decide)
    simp at hy
    subst hy
    have hs2:=hE2.size
    have HE2:=Zac hE2
    clear hE2 ha2 hw2 H1
    go_wp2_with fail
    refine (H2.out _).mono ?_
    rintro e w3 ⟨hE3,ba,bc,va,vc,rfl,hb3,hv3⟩
    have hs3:=hE3.size
    simp at hs3
    have hbx:w3.heap[w2.heap.size]?=some (.cells #[.slice (some ⟨g,0,none⟩) 1 ac,.slice wa 1 wc,.int .i64 1,.int .i64 2,.string ⟨#[40,48,33,41]⟩] 36 (0,0)):=(hE3.block _ (by simp)).trans (heap_alloc_new w2 _)
    have hl3:=Zab hbx
    have b0:=Zaa hbx 0 _ rfl
    have b2:=Zaa hbx 2 _ rfl
    have b3:=Zaa hbx 3 _ rfl
    have b4:=Zaa hbx 4 _ rfl
    have cg3:w3.cell? ⟨g,0,none⟩=some (.string ⟨#[88,61,65]⟩):=(hE3.cell (p:=⟨g,0,none⟩) (by simp; omega)).trans ((((Ext.of (by repeat' (first | with_reducible(first|exact Qx _ _|apply Kept.drew|apply Kept.drewN|apply Qz|refine Qy ?_ ?_ _)|exact fun h=>absurd h (by simp <;> omega)))):Ext w2 _).cell (p:=⟨g,0,none⟩) hg).trans cg)
    have hg3:g<w3.heap.size:=by omega
    have HE3:Hid (Ext w1 w3):=HE2.out.trans ((((Ext.of (by repeat' (first | with_reducible(first|exact Qx _ _|apply Kept.drew|apply Kept.drewN|apply Qz|refine Qy ?_ ?_ _)|exact fun h=>absurd h (by simp <;> omega)))):Ext w2 _).mono hs2).trans (hE3.mono (by simp; omega)))
    clear hE3 hb3 hv3 hbx H2
    go_wp2
    go_ret
    exact ⟨rfl,HE3.out.trans ((Ext.of (by repeat' (first | with_reducible(first|exact Qx _ _|apply Kept.drew|apply Kept.drewN|apply Qz|refine Qy ?_ ?_ _)|exact fun h=>absurd h (by simp <;> omega)))).mono HE3.out.size)⟩
   ·by_cases h1:j=1
    ·subst h1
     have H1:=Zac (fun u=>Zeg (show Zgb Zmo (Ztt 1)=some (⟨[],[],1,2⟩,[40,41]) from Yav 1 (by decide)) u)
     have H2:=Zac (fun u=>Zeg (show Zgb Zmo (Ztu 1)=some (⟨[[88,61,65,44,89,61,102,40,65,41]],[[48]],1,2⟩,[40,48,33,41]) from Yaw 1 (by decide)) u)
     rw [Zxd,Zll] at H1
     rw [Zxe,Zll] at H2
     simp only [Qn,Jt] at H1 H2
     go_wp2_with fail
     refine (H1.out _).mono ?_
     rintro e w2 ⟨hE2,aa,ac,wa,wc,rfl,ha2,hw2⟩
     have hs2:=hE2.size
     have HE2:=Zac hE2
     clear hE2 ha2 hw2 H1
     go_wp2_with fail
     refine (H2.out _).mono ?_
     rintro e w3 ⟨hE3,ba,bc,va,vc,rfl,hb3,hv3⟩
     obtain ⟨g2,y2,rfl,hg2,hy2,cg2⟩:=Zwy (i:=0) hb3 (by decide)
     simp at hy2
     subst hy2
     have hs3:=hE3.size
     simp at hs3
     have hbx:w3.heap[w2.heap.size]?=some (.cells #[.slice aa 0 ac,.slice wa 0 wc,.int .i64 1,.int .i64 2,.string ⟨#[40,41]⟩] 36 (0,0)):=(hE3.block _ (by simp)).trans (heap_alloc_new w2 _)
     have hl3:=Zab hbx
     have b0:=Zaa hbx 0 _ rfl
     have b2:=Zaa hbx 2 _ rfl
     have b3:=Zaa hbx 3 _ rfl
     have b4:=Zaa hbx 4 _ rfl
     have HE3:Hid (Ext w1 w3):=HE2.out.trans ((((Ext.of (by repeat' (first | with_reducible(first|exact Qx _ _|apply Kept.drew|apply Kept.drewN|apply Qz|refine Qy ?_ ?_ _)|exact fun h=>absurd h (by simp <;> omega)))):Ext w2 _).mono hs2).trans (hE3.mono (by simp; omega)))
     clear hE3 hb3 hv3 hbx H2
     go_wp2
     go_ret
     exact ⟨rfl,HE3.out.trans ((Ext.of (by repeat' (first | with_reducible(first|exact Qx _ _|apply Kept.drew|apply Kept.drewN|apply Qz|refine Qy ?_ ?_ _)|exact fun h=>absurd h (by simp <;> omega)))).mono HE3.out.size)⟩
    ·have hj0:((j:Int) == 0)=false:=by rw [Qu]; omega
     have hj1:((j:Int) == 1)=false:=by rw [Qu]; omega
     have H1:=Zac (fun u=>Zeg (show Zgb Zmo (Ztt j)=some (⟨[],[],1,2⟩,[40,41]) from (Yav j hk9).trans (by unfold Ybr; rw [if_neg h0])) u)
     have H2:=Zac (fun u=>Zeg (show Zgb Zmo (Ztu j)=some (⟨[],[],1,2⟩,[40,41]) from (Yaw j hk9).trans (by unfold Ybs; rw [if_neg h1])) u)
     rw [Zxd,Zll] at H1
     rw [Zxe,Zll] at H2
     simp only [Qn,Jt] at H1 H2
     go_wp2_with fail
     refine (H1.out _).mono ?_
     rintro e w2 ⟨hE2,aa,ac,wa,wc,rfl,ha2,hw2⟩
     have hs2:=hE2.size
     have HE2:=Zac hE2
     clear hE2 ha2 hw2 H1
     go_wp2_with fail
     refine (H2.out _).mono ?_
     rintro e w3 ⟨hE3,ba,bc,va,vc,rfl,hb3,hv3⟩
     have hs3:=hE3.size
     simp at hs3
     have hbx:w3.heap[w2.heap.size]?=some (.cells #[.slice aa 0 ac,.slice wa 0 wc,.int .i64 1,.int .i64 2,.string ⟨#[40,41]⟩] 36 (0,0)):=(hE3.block _ (by simp)).trans (heap_alloc_new w2 _)
     have hl3:=Zab hbx
     have b0:=Zaa hbx 0 _ rfl
     have b2:=Zaa hbx 2 _ rfl
     have b3:=Zaa hbx 3 _ rfl
     have b4:=Zaa hbx 4 _ rfl
     have HE3:Hid (Ext w1 w3):=HE2.out.trans ((((Ext.of (by repeat' (first | with_reducible(first|exact Qx _ _|apply Kept.drew|apply Kept.drewN|apply Qz|refine Qy ?_ ?_ _)|exact fun h=>absurd h (by simp <;> omega)))):Ext w2 _).mono hs2).trans (hE3.mono (by simp; omega)))
     clear hE3 hb3 hv3 hbx H2
     go_wp2
     go_ret
     exact ⟨rfl,HE3.out.trans ((Ext.of (by repeat' (first | with_reducible(first|exact Qx _ _|apply Kept.drew|apply Kept.drewN|apply Qz|refine Qy ?_ ?_ _)|exact fun h=>absurd h (by simp <;> omega)))).mono HE3.out.size)⟩
end Go.Proofs.YtlmjilpjmgjjcabDoor
namespace Go.Proofs.YtlmjilpjmgjjcabDoor
open Go.ChangeShapes Go.WideShapes Go.ChangeAt Go.WideMaps Go.WideElems Go.RowKit
theorem own_k:ownKnob Tryd.prog.godebug=none:=by kernel_rfl
theorem Zxf:laidOutB Tryd.prog=true:=by kernel_rfl
theorem Zpz {H:Type} {enc:TypeId × Value→H} {W:World} {base:Nat} {spare:Nat→Bool} {held:Bool} {n:Int} {d:DataW H} {ps:List MemPlace} (h:DataW.Trod enc Tryd.prog W base spare held 3 (.int .i64 n) d ps) : -9223372036854775808≤n∧n<9223372036854775808:=by
 obtain ⟨fuel,hf⟩:=h
 obtain ⟨s,h1,_,h3⟩:=DataW.trod_int Tryd.underlying3 hf
 simp [Value.cells] at h1
 subst h1
 have h4:(decide (IntKind.min .i64≤n) && decide (n≤IntKind.max .i64))=true:=h3
 rw [Bool.and_eq_true,decide_eq_true_eq,decide_eq_true_eq,show IntKind.min .i64 = -9223372036854775808 from rfl,show IntKind.max .i64=9223372036854775807 from rfl] at h4
 omega
theorem Zol (os:Os) (args:Array Value):laidMetH Tryd.prog Rows.circlesRow.laid ((World.doorLaid Tryd.prog 400 os).forCall (fun _ _=>0) ⟨#[],args,[]⟩).memory :=
 laidMetH_of_parts3 (fuel:=8) (laidMet_of_run' 8 (by kernel_rfl) (by kernel_rfl)) (by kernel_rfl) (by kernel_rfl)
set_option maxRecDepth 100000 in
theorem Zkj (os:Os) (started:os.Started) (H:Type) (enc:TypeId × Value→H) :
  ReturnsInHanded {} Tryd.checked os 5 .any (fun w args=>(Rows.circlesSpec.pre enc Tryd.prog Tryd.f5 [] false w args∧laidMetH Tryd.prog Rows.circlesRow.laid w)∧sizedMet enc Tryd.prog Tryd.f5 (OpenSpec.ofChange Rows.circlesSpec) false w args)
   (Rows.circlesSpec.post enc Tryd.prog Tryd.f5 false true false false):=by
 refine returnsInHanded_of_change_and (C:=Tryd.checked) (X:=fun w _=>laidMetH Tryd.prog Rows.circlesRow.laid w) (fun _ _ _ hh h=>h.of_heap hh) own_k started (by kernel_rfl) Tryd.func5
  (ChangeSpec.witness_shaped (enc:=enc) (C:=Tryd.checked) (os:=os) (X:=fun w _=>laidMetH Tryd.prog Rows.circlesRow.laid w) false (World.doorLaid Tryd.prog 400 os) #[.int .i64 0] 8 rfl (World.shaped_of_RefB (by kernel_rfl) (by kernel_rfl)) (by kernel_rfl) (by kernel_rfl) (by kernel_rfl) (Zol os _)) ?_
 intro W base args ds gs before hval0 hW _ _ hL _
 have hval:∀ (j:Nat) t v,Tryd.f5.params[j]?=some t→args[j]?=some v→Value.okWide Tryd.prog W .any base t v:=hval0
 have hW':=hW
 obtain ⟨p,q,hA0,hV,rfl,hfz,hnd⟩:=hW
 have hA:DataW.TrodAll enc Tryd.prog W 0 (fun _=>true) true Tryd.f5.params.toList args.toList ds p:=hA0
 rw [Tryd.params5] at hA hval
 obtain ⟨v0,d0,rfl,rfl,h0⟩:=trodAll_one hA
 obtain ⟨rfl,rfl⟩:=trodVars_none hV
 have lt0:∀ x ∈ p,x.block<W.heap.size:=by obtain ⟨m,hm⟩:=h0; exact DataW.trod_lt m _ _ _ hm
 obtain ⟨n0,rfl⟩:=okWide_int Tryd.underlying3 (hval 0 3 v0 rfl rfl)
 have hb:=Zpz h0
 clear hA0 hval0
 refine (Zok n0 hb W).mono fun e W' ⟨he,bel⟩ => ?_
 subst he
 exact ⟨_,rfl,_,_,_,[],_,[],hW',trodAll_mk1 (shut_bool Tryd.underlying4 _),trodAll_mk1 (Below.trod Zxf (by kernel_rfl) (of_decide_eq_true (by kernel_rfl)) h0 bel lt0),rfl,bel.frame _,fun h=>by cases h⟩
theorem Zqa:Rows.CirclesSaid :=
 OpenClaim.holds_of_wide 5 Tryd.f5 rfl rfl rfl rfl rfl rfl rfl ⟨rfl,rfl,rfl,rfl,rfl⟩ rfl rfl rfl rfl rfl (by kernel_rfl) Tryd.func5 (by kernel_rfl)
  (of_decide_eq_true (by kernel_rfl)) (by unfold Func.isWrapper; first | (rw [if_pos (by decide +kernel)]; kernel_rfl) | (rw [if_neg (by decide +kernel)]; exact ⟨rfl,rfl⟩))
  (fun os started H enc _=>Zkj os started H enc)
theorem circles_hold:Rows.CirclesCardSaid :=
 Claim7.holds_tied_plain_at .later [] [.data,.data,.data] true Rows.circlesCard.stood.harness false
  Zqa (fun _ h=>by cases h) (by kernel_rfl) (fun _ h=>by cases h) circles_row_tie rfl ⟨rfl,rfl⟩ (by kernel_rfl) rfl
  (fun f fn hf hfn=>by
   obtain rfl:f=5:=Option.some.inj ((show Tryd.prog.funcNamed Tryd.f5.name=some 5 by kernel_rfl).symm.trans hf) |>.symm
   obtain rfl:fn=Tryd.f5:=(Option.some.inj (Tryd.func5.symm.trans hfn)).symm
   exact ⟨by kernel_rfl,fun j t ht=>by
    rw [Tryd.params5] at ht
    have hm:t ∈ [3]:=by simpa using Array.mem_of_getElem? ht
    have hall:([3].all fun u => !Tryd.prog.wantsStandIn u)=true:=by kernel_rfl
    exact (show Tryd.prog.wantsStandIn t=false by simpa using List.all_eq_true.1 hall t hm)⟩)
  (by kernel_rfl)
end Go.Proofs.YtlmjilpjmgjjcabDoor
