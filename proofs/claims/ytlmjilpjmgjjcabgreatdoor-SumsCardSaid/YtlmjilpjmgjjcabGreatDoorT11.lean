/-
  PROVED HERE: the given card of 'Sums' (no conditions).
-/
import Derived.Test.YtlmjilpjmgjjcabGreatDoorT10
import Derived.Test.YtlmjilpjmgjjcabGreatDoorRows
import Derived.Test.YtlmjilpjmgjjcabGreatDoorCards
import Derived.Test.YtlmjilpjmgjjcabGreatDoorTie
import Derived.ProofKit
import Derived.LaidMore
import Derived.OpenShut
import Derived.Stop.Joined
import Derived.SevenTiedAt
import Derived.Deep.Slices
import Derived.Carry
set_option linter.unusedSimpArgs false
set_option linter.unusedVariables false
set_option maxRecDepth 10000
set_option maxHeartbeats 4000000
namespace Go.Proofs.YtlmjilpjmgjjcabGreatDoor
open Go.RowKit
theorem Zqs {S:Nat→Prop} {w w':World} (h:Ext w w'):Kept S w w':=⟨h.os,h.tape,h.output,h.size,fun k hk _=>h.block k hk⟩
theorem OfTy.terms {S:Nat→Prop} {w w':World} {v:Value} {ls:List (List Sym)} (hS:OfTy S w 9) (hk:Kept S w w') (h:TermsIn w v ls):TermsIn w' v ls:=by
 obtain ⟨vs,h⟩:=h
 exact ⟨vs,hS.row hk h.owns (by decide),fun i l hl=>by
  obtain ⟨x,h1,h2⟩:=h.all i l hl
  exact ⟨x,h1,hS.row hk h2 (by decide)⟩⟩
theorem OfTy.rowL {S:Nat→Prop} {w w':World} {v:Value} {ds:List (ND × Nat)} {xs:List Value} (hS:OfTy S w 9) (hk:Kept S w w') (h:RowL w v ds xs):RowL w' v ds xs :=
 ⟨hS.row hk h.owns (by decide),fun i d hd=>by
  obtain ⟨x0,x1,x2,x3,y0,y1,y2,y3,y4,n,h1,h2⟩:=h.all i d hd
  exact ⟨x0,x1,x2,x3,y0,y1,y2,y3,y4,n,⟨hS.terms hk h1.goals,hS.terms hk h1.vals,hS.terms hk h1.done⟩,h2⟩⟩
theorem CSr.texts {w0 w w':World} {b:Nat} {x0 x:CX} {cs:List Cls} {a:List (List Sym) × Names} {m0 m:SN} {S:Nat→Prop} (h0:CSr w0 b x0 cs a m0) (hK0:Kept (ownS b x0) w0 w) (h:CSr w b x cs a m) (hN:Zga w0 x0 x) (hk:Kept S w w') (hS:OfTy S w 9) (hge:∀ k,S k→w0.heap.size≤k):CSr w' b x cs a m:=by
 have hK:Kept (ownS b x0) w0 w':=hK0.then hk (fun i hi hs=>absurd (hge i hs) (by omega))
 obtain ⟨xs,h1⟩:=h0.prog
 obtain ⟨ys,h2⟩:=h.way
 obtain ⟨_,e1,e2,e3,e4⟩:=hN
 refine ⟨hS.block hk h.box (by decide),⟨xs,by rw [e1,e2]; exact h0.offS.prog hK h1⟩,by rw [e3,e4]; exact h0.offS.own (by simp [Zce]) hK h0.names,⟨ys,hS.rowL hk h2⟩,fun hs => ?_⟩
 obtain ⟨⟨n,g1,g2⟩,g3⟩:=h.found hs
 exact ⟨⟨n,hS.terms hk g1,g2⟩,hS.row hk g3 (by decide)⟩
theorem CSr.not {w:World} {b k:Nat} {x:CX} {cs:List Cls} {a:List (List Sym) × Names} {m:SN} {cl:Array Value} {t:TypeId} {fr:Nat × Nat} (h:CSr w b x cs a m) (hb:w.heap[k]?=some (.cells cl t fr)) (h1:t≠79) (h2:t≠104):¬ ownS b x k:=by
 rintro (rfl | hk)
 ·have:=h.box
  rw [hb] at this
  simp at this
  exact h1 this.2.1
 ·obtain ⟨ys,h3⟩:=h.way
  obtain ⟨cl',fr',h4⟩:=Zuf h3.owns k (Zju.2 hk)
  rw [hb] at h4
  simp at h4
  exact h2 h4.2.1
structure AftAt (w0 w:World) (b bt:Nat) (x0 x:CX) (cs:List Cls) (a:List (List Sym) × Names) (m:SN) (c0 c1:Value) (tr st:Nat) (av:Value) (A:List (List UInt8)) (wv:Value) (W:List (List UInt8)):Prop where
 kept:Kept (ownS b x0) w0 w
 sr0:∃ m0,CSr w0 b x0 cs a m0
 sr:CSr w b x cs a m
 new:Zga w0 x0 x
 inv:InvN cs a m
 fw:Zfm m
 bt0:w0.heap.size≤bt
 box:w.heap[bt]?=some (.cells #[c0,c1,.int .i64 tr,.int .i64 st,.string ⟨#[]⟩] 37 (0,0))
 ans:w.ownsRow w0.heap.size 9 1 av A.length (strs A)
 wts:w.ownsRow w0.heap.size 9 1 wv W.length (strs W)
 ap:∀ k,Zbj av k→¬ Zbj wv k
theorem AftAt.ext {w0 w w':World} {b bt:Nat} {x0 x:CX} {cs:List Cls} {a:List (List Sym) × Names} {m:SN} {c0 c1:Value} {tr st:Nat} {av:Value} {A:List (List UInt8)} {wv:Value} {W:List (List UInt8)} (h:AftAt w0 w b bt x0 x cs a m c0 c1 tr st av A wv W) (e:Ext w w'):AftAt w0 w' b bt x0 x cs a m c0 c1 tr st av A wv W :=
 ⟨h.kept.trans (Zqs e),h.sr0,h.sr.ext e,h.new,h.inv,h.fw,h.bt0,(e.block _ (Zab h.box)).trans h.box,Zaj h.ans (fun k hk=>e.block k (h.ans.lt k hk).2),Zaj h.wts (fun k hk=>e.block k (h.wts.lt k hk).2),h.ap⟩
theorem AftAt.step {w0 w w':World} {b bt:Nat} {x0 x x':CX} {cs:List Cls} {a:List (List Sym) × Names} {m:SN} {c0 c1:Value} {tr st n:Nat} {av:Value} {A:List (List UInt8)} {wv:Value} {W:List (List UInt8)} (h:AftAt w0 w b bt x0 x cs a m c0 c1 tr st av A wv W) (hcl:cs.length≤24) (hK:Kept (ownS b x) w w') (hC:CSr w' b x' cs a (Zdf cs n m).1) (hN:Zga w x x'):AftAt w0 w' b bt x0 x' cs a (Zdf cs n m).1 c0 c1 tr st av A wv W:=by
 refine ⟨h.kept.then hK (fun i hi ho=>Yah h.new hi ho),h.sr0,hC,⟨fun k hk => ?_,hN.2.1.trans h.new.2.1,hN.2.2.1.trans h.new.2.2.1,hN.2.2.2.1.trans h.new.2.2.2.1,hN.2.2.2.2.trans h.new.2.2.2.2⟩,h.inv.step hcl,Zsl h.fw,h.bt0,?_,h.sr.offS.own (by simp [Zce]) hK h.ans,h.sr.offS.own (by simp [Zce]) hK h.wts,h.ap⟩
 ·rcases hN.1 k hk with h1 | h1
  ·exact h.new.1 k h1
  ·exact Or.inr (by have:=h.kept.size; omega)
 ·exact (hK.block bt (Zab h.box) (h.sr.not h.box (by decide) (by decide))).trans h.box
theorem AftAt.put {w0 w w':World} {b bt:Nat} {x0 x:CX} {cs:List Cls} {a:List (List Sym) × Names} {m:SN} {c0 c1 c0' c1':Value} {tr st tr' st':Nat} {av:Value} {A:List (List UInt8)} {wv:Value} {W:List (List UInt8)} (h:AftAt w0 w b bt x0 x cs a m c0 c1 tr st av A wv W) (hK:Kept (only bt) w w')
  (hb:w'.heap[bt]?=some (.cells #[c0',c1',.int .i64 tr',.int .i64 st',.string ⟨#[]⟩] 37 (0,0))):AftAt w0 w' b bt x0 x cs a m c0' c1' tr' st' av A wv W:=by
 have hS:OfTy (only bt) w 37:=fun k e=>by
  have e:k=bt:=e
  subst e
  exact ⟨_,_,h.box⟩
 have hO:OffCode (only bt) w:=fun k e=>by
  obtain ⟨cl,fr,h1⟩:=hS k e
  exact ⟨_,_,_,h1,by simp [Zce]⟩
 refine ⟨h.kept.then hK (fun i hi e => ?_),h.sr0,h.sr.keep hK hO (fun k hk e => ?_),h.new,h.inv,h.fw,h.bt0,hb,hS.row hK h.ans (by decide),hS.row hK h.wts (by decide),h.ap⟩
 ·have e:i=bt:=e
  have:=h.bt0
  omega
 ·have e:k=bt:=e
  subst e
  exact h.sr.not h.box (by decide) (by decide) hk
theorem AftAt.app1 {w0 w w':World} {b bt:Nat} {x0 x:CX} {cs:List Cls} {a:List (List Sym) × Names} {m:SN} {c0 c1:Value} {tr st:Nat} {av av':Value} {A:List (List UInt8)} {X:List UInt8} {wv:Value} {W:List (List UInt8)} (h:AftAt w0 w b bt x0 x cs a m c0 c1 tr st av A wv W) (hA:Appended w w0.heap.size 9 1 av (A.length+1) (strs A++[.string ⟨X.toArray⟩]) av' w') :
  AftAt w0 w' b bt x0 x cs a m c0 c1 tr st av' (A++[X]) wv W:=by
 have hS:OfTy (Zbj av) w 9:=Zuf h.ans
 have hge:∀ k,Zbj av k→w0.heap.size≤k:=fun k hk=>(h.ans.lt k hk).1
 obtain ⟨m0,h0⟩:=h.sr0
 refine ⟨h.kept.then hA.kept (fun i hi e=>absurd (hge i e) (by omega)),h.sr0,h0.texts h.kept h.sr h.new hA.kept hS hge,h.new,h.inv,h.fw,h.bt0,hS.block hA.kept h.box (by decide),?_,?_,fun k hk hk2 => ?_⟩
 ·have:=hA.owns
  simpa [strs] using this
 ·exact Zaj h.wts (fun k hk=>hA.kept.block k (h.wts.lt k hk).2 (fun e=>h.ap k e hk))
 ·rcases hA.where_ with e | ⟨g,e,hg⟩
  ·exact h.ap k (by unfold Zbj at hk ⊢; rw [← e]; exact hk) hk2
  ·unfold Zbj at hk
   rw [e] at hk
   simp at hk
   have:=(h.wts.lt k hk2).2
   omega
theorem AftAt.app2 {w0 w w':World} {b bt:Nat} {x0 x:CX} {cs:List Cls} {a:List (List Sym) × Names} {m:SN} {c0 c1:Value} {tr st:Nat} {av wv':Value} {A:List (List UInt8)} {X:List UInt8} {wv:Value} {W:List (List UInt8)} (h:AftAt w0 w b bt x0 x cs a m c0 c1 tr st av A wv W) (hA:Appended w w0.heap.size 9 1 wv (W.length+1) (strs W++[.string ⟨X.toArray⟩]) wv' w') :
  AftAt w0 w' b bt x0 x cs a m c0 c1 tr st av A wv' (W++[X]):=by
 have hS:OfTy (Zbj wv) w 9:=Zuf h.wts
 have hge:∀ k,Zbj wv k→w0.heap.size≤k:=fun k hk=>(h.wts.lt k hk).1
 obtain ⟨m0,h0⟩:=h.sr0
 refine ⟨h.kept.then hA.kept (fun i hi e=>absurd (hge i e) (by omega)),h.sr0,h0.texts h.kept h.sr h.new hA.kept hS hge,h.new,h.inv,h.fw,h.bt0,hS.block hA.kept h.box (by decide),?_,?_,fun k hk hk2 => ?_⟩
 ·exact Zaj h.ans (fun k hk=>hA.kept.block k (h.ans.lt k hk).2 (fun e=>h.ap k hk e))
 ·have:=hA.owns
  simpa [strs] using this
 ·rcases hA.where_ with e | ⟨g,e,hg⟩
  ·exact h.ap k hk (by unfold Zbj at hk2 ⊢; rw [← e]; exact hk2)
  ·unfold Zbj at hk2
   rw [e] at hk2
   simp at hk2
   have:=(h.ans.lt k hk).2
   omega
def Zug (w:World) (b:Nat) (x:CX) (cs:List Cls) (a:List (List Sym) × Names) (R:SN × Tr) (e:Ending) (w':World):Prop :=
 Kept (ownS b x) w w'∧(∃ x',CSr w' b x' cs a R.1∧Zga w x x')∧InvN cs a R.1∧∃ aa ac wa wc,e = .returned (.tuple #[.agg #[.slice aa R.2.ans.length ac,.slice wa R.2.wts.length wc,.int .i64 R.2.tries,.int .i64 R.2.status,.string ⟨(Zcs a R.1.status R.1.found R.1.tree).2.2.toArray⟩],.bool true]) ∧
  w'.ownsRow w.heap.size 9 1 (.slice aa R.2.ans.length ac) R.2.ans.length (strs R.2.ans)∧w'.ownsRow w.heap.size 9 1 (.slice wa R.2.wts.length wc) R.2.wts.length (strs R.2.wts)
theorem AftAt.fin {w V wr Z:World} {b bt br:Nat} {x x1:CX} {cs:List Cls} {a:List (List Sym) × Names} {m:SN} {c0 c1:Value} {tr st:Nat} {av:Value} {A:List (List UInt8)} {wv:Value} {W:List (List UInt8)} {cl:Array Value} (h:AftAt V wr b bt x x1 cs a m c0 c1 tr st av A wv W) (hbr:wr.heap[br]?=some (.cells cl 37 (0,0))) (hw:w.heap.size≤br) (hEV:Ext w V) (hZ:Kept (fun k=>k=bt∨k=br) wr Z) :
  Kept (ownS b x) w Z∧(∃ x',CSr Z b x' cs a m∧Zga w x x')∧InvN cs a m∧Z.ownsRow w.heap.size 9 1 av A.length (strs A)∧Z.ownsRow w.heap.size 9 1 wv W.length (strs W):=by
 have hs:=hEV.size
 have hS:OfTy (fun k=>k=bt∨k=br) wr 37:=fun k e=>by
  rcases e with rfl | rfl
  ·exact ⟨_,_,h.box⟩
  ·exact ⟨_,_,hbr⟩
 have hO:OffCode (fun k=>k=bt∨k=br) wr:=fun k e=>by
  obtain ⟨cl,fr,h1⟩:=hS k e
  exact ⟨_,_,_,h1,by simp [Zce]⟩
 refine ⟨((Zqs hEV).trans (h.kept)).then hZ (fun i hi e => ?_),⟨x1,h.sr.keep hZ hO (fun k hk e => ?_),fun k hk => ?_,h.new.2⟩,h.inv,Zbd (hS.row hZ h.ans (by decide)) hs,Zbd (hS.row hZ h.wts (by decide)) hs⟩
 ·have:=h.bt0
  omega
 ·obtain ⟨cl,fr,h1⟩:=hS k e
  exact h.sr.not h1 (by decide) (by decide) hk
 ·rcases h.new.1 k hk with h1 | h1
  ·exact Or.inl h1
  ·exact Or.inr (by omega)
theorem Yak (w:World) (b:Nat) (x:CX) (cs:List Cls) (q:ByteArray) (a:List (List Sym) × Names) (m:SN) (tries size:Nat) (h:CSr w b x cs a m) (hI:InvN cs a m) (hF:Zfm m) (hm:m.status=0) (hcs:∀ c ∈ cs,COk c∧CNm c) (hcf:∀ c ∈ cs,CFew c) (hcl:cs.length≤24) (hask:Zdt q=some a) (ht:tries≤3001) (hs:0<size) (hs2:size≤3000) :
  Calls Tryz.prog 21 #[.pointer (some ⟨b,0,none⟩),.int .i64 tries,.int .i64 size] w (Zug w b x cs a (aftN cs a tries size (tries+1) m ⟨[],[],0,0⟩)):=by
 have hbl:=Zab h.box
 obtain ⟨V,hV⟩:∃ V,V=w.alloc (.cells #[.slice none 0 0,.slice none 0 0,.int .i64 0,.int .i64 0,.string ⟨#[]⟩] 37):=⟨_,rfl⟩
 have hEV:Ext w V:=by rw [hV]; exact (Ext.of (by repeat' (first | with_reducible(first|exact Qx _ _|apply Kept.drew|apply Kept.drewN|apply Qz|refine Qy ?_ ?_ _)|exact fun h=>absurd h (by simp <;> omega))))
 have hVs:V.heap.size=w.heap.size+1:=by rw [hV]; simp
 have hbr:V.heap[w.heap.size]?=some (.cells #[.slice none 0 0,.slice none 0 0,.int .i64 0,.int .i64 0,.string ⟨#[]⟩] 37 (0,0)):=by rw [hV]; exact heap_alloc_new w _
 have hCV:=h.ext hEV
 have H0:Hid (AftAt V (V.alloc (.cells #[.slice none 0 0,.slice none 0 0,.int .i64 0,.int .i64 0,.string ⟨#[]⟩] 37)) b (w.heap.size+1) x x cs a m (.slice none 0 0) (.slice none 0 0) 0 0 (.slice none 0 0) [] (.slice none 0 0) []) :=
  ⟨(Qx _ _).alloc _,⟨m,hCV⟩,hCV.ext (Ext.of (by repeat' (first | with_reducible(first|exact Qx _ _|apply Kept.drew|apply Kept.drewN|apply Qz|refine Qy ?_ ?_ _)|exact fun h=>absurd h (by simp <;> omega)))),⟨fun k hk=>Or.inl hk,rfl,rfl,rfl,rfl⟩,hI,hF,by omega,by rw [← hVs]; exact heap_alloc_new V _,World.ownsRow_nil _ _ _ _,World.ownsRow_nil _ _ _ _,fun k hk=>by simp [Zbj,Value.ownBlock] at hk⟩
 have Hbr:Hid (∀ u,Kept (ownS b x) V u→u.heap[w.heap.size]?=some (.cells #[.slice none 0 0,.slice none 0 0,.int .i64 0,.int .i64 0,.string ⟨#[]⟩] 37 (0,0))):=fun u hu=>(hu.block _ (Zab hbr) (hCV.not hbr (by decide) (by decide))).trans hbr
 have HV:=Zac hV
 have HEV:=Zac hEV
 have Hcs:=Zac hcs
 have Hcf:=Zac hcf
 have Hask:=Zac hask
 obtain ⟨R,hR⟩:∃ R,R=aftN cs a tries size (tries+1) m ⟨[],[],0,0⟩:=⟨_,rfl⟩
 have HR:=Zac hR
 rw [← hR]
 clear h hI hF hcs hcf hask hR hV hEV hbr hCV hVs
 go_enter Tryz.func21,Tryz.ntmps21
 go_wp2
 go_loopg [] (tries+1) (fun gk wr=>∃ (m':SN) (x':CX) (t:Tr) (aa:Option Addr) (ac:Nat) (wa:Option Addr) (wc:Nat),t.tries≤tries∧tries - t.tries<gk∧(m'.status=0∨m'.status=1)∧t.status=m'.status∧t.ans.length≤t.tries∧t.wts.length≤t.tries∧R=aftN cs a tries size gk m' t∧AftAt V wr b (w.heap.size+1) x x' cs a m' (.slice aa t.ans.length ac) (.slice wa t.wts.length wc) t.tries t.status (.slice aa t.ans.length ac) t.ans (.slice wa t.wts.length wc) t.wts)
 case atStart=>exact ⟨m,x,⟨[],[],0,0⟩,none,0,none,0,Qm _,by simp,Or.inl hm,hm.symm,by simp,by simp,HR.out,by rw [← HV.out]; exact H0.out⟩
 case round =>
  obtain ⟨m1,x1,⟨A,W,T,st⟩,aa,ac,wa,wc,hT,hgk,hst,hst2,hAl,hWl,hRe,hA⟩:=hrel
  simp only at hT hgk hst hst2 hAl hWl hA
  have c2:wr.cell? ⟨w.heap.size+1,2,none⟩=some (.int .i64 T):=Zaa hA.box 2 _ rfl
  have hbt:=Zab hA.box
  have HA:=Zac hA
  have HRe:=Zac hRe
  have Hst:=Zac hst2
  have hst1:st=0∨st=1:=by omega
  clear hA hRe H0 hst hst2
  by_cases hlt:T<tries
  ·have tf:=fun i=>Zad HA.out.box i
   obtain ⟨N,hN⟩:∃ N,N=Zgn size (tries - T):=⟨_,rfl⟩
   have hN0:0<N∧N≤3000∧N≤tries - T:=by rw [hN]; unfold Zgn; split <;> omega
   have hI2:(T:Int)<(tries:Int):=by omega
   obtain ⟨M,d,hr⟩:∃ M d,Zdf cs N m1=(M,d):=⟨_,_,rfl⟩
   have HS:=Zac (Ycv wr b x1 cs a m1 N HA.out.sr HA.out.inv Hcs.out Hcf.out hcl hN0.2.1 (by rw [← Hst.out]; omega))
   have HA1:=Zac (fun (w1:World) (x2:CX) (hK:Kept (ownS b x1) wr w1) (hC:CSr w1 b x2 cs a (Zdf cs N m1).1) (hN:Zga wr x1 x2)=>HA.out.step hcl hK hC hN)
   have hdN:d≤N:=by have:=Yci (cs:=cs) (n:=N) (s:=m1); rw [hr] at this; exact this
   have hless:d<N→M.status≠0:=fun h=>by have:=Zwr (cs:=cs) (n:=N) (s:=m1); rw [hr] at this; exact this h
   have hsome:M.status=0∨M.status=1→d≠0:=fun h=>by have:=Zws (cs:=cs) (n:=N) (s:=m1) hN0.1 (by rw [← Hst.out]; omega); rw [hr] at this; exact this h
   rw [hr] at HS HA1
   simp only at HS HA1
   have Hrec:Hid (R=if M.status=2∨M.status=3 then (M,addN a ⟨A,W,T,st⟩ (M,d)) else aftN cs a tries size (gk - 1) M (addN a ⟨A,W,T,st⟩ (M,d))):=by
    show _=_
    rw [HRe.out]
    obtain ⟨f,rfl⟩:∃ f,gk=f+1:=⟨gk - 1,by omega⟩
    simp only [aftN]
    rw [if_pos hlt,← hN,hr]
    rfl
   rcases Nat.lt_or_ge (tries - T) size with hsz | hsz
   ·have hI1:(tries:Int) - (T:Int)<(size:Int):=by omega
    have hNt:(tries:Int) - (T:Int)=(N:Int):=by rw [hN]; unfold Zgn; rw [if_pos hsz]; omega
    clear hN
    go_wp2_with fail
    refine HS.out.mono ?_
    rintro e w1 ⟨rfl,x2,hK,hC,hNw⟩
    have HB:=Zac (HA1.out w1 x2 hK hC hNw)
    clear hK hC hNw HS HA1
    have b2:w1.cell? ⟨w.heap.size+1,2,none⟩=some (.int .i64 T):=Zaa HB.out.box 2 _ rfl
    have b3:w1.cell? ⟨w.heap.size+1,3,none⟩=some (.int .i64 st):=Zaa HB.out.box 3 _ rfl
    have bf:=fun i=>Zad HB.out.box i
    have bl:=Zab HB.out.box
    have g1:¬ (d:Int)<0:=by omega
    have g2:¬ (N:Int)<(d:Int):=by omega
    clear c2 tf
    obtain ⟨TD,hTD,hTD2⟩:∃ TD:Nat,(T:Int)+(d:Int)=(TD:Int)∧TD=T+d:=⟨T+d,by omega,rfl⟩
    have HTD2:=Zac hTD2
    have hTDb:TD≤6001:=by omega
    clear hTD2
    obtain ⟨sM,hsM⟩:∃ z,z=M.status:=⟨_,rfl⟩
    have hsM3:sM≤3:=by rw [hsM]; exact HB.out.inv.st
    rw [← hsM] at hless hsome
    have HsM:=Zac hsM
    have HB2:Hid (AftAt V (w1.setCell ⟨w.heap.size+1,2,none⟩ (.int .i64 TD)) b (w.heap.size+1) x x2 cs a M (.slice aa A.length ac) (.slice wa W.length wc) TD st (.slice aa A.length ac) A (.slice wa W.length wc) W):=HB.out.put ((Qx _ _).put 2 _) (Zaf HB.out.box 2 _)
    have HSt:=Zac (Zll _ b x2 cs a M HB2.out.sr)
    rw [← hsM] at HSt
    have HB3:Hid (AftAt V ((w1.setCell ⟨w.heap.size+1,2,none⟩ (.int .i64 TD)).setCell ⟨w.heap.size+1,3,none⟩ (.int .i64 sM)) b (w.heap.size+1) x x2 cs a M (.slice aa A.length ac) (.slice wa W.length wc) TD sM (.slice aa A.length ac) A (.slice wa W.length wc) W):=HB2.out.put ((Qx _ _).put 3 _) (Zaf HB2.out.box 3 _)
    have HAn:=Zac (Zln _ b x2 cs q a M HB3.out.sr HB3.out.inv Hask.out)
    obtain ⟨hX,hY,hZ⟩:=Zjt HB3.out.inv HB3.out.fw
    rw [← hsM] at hX hY hZ
    rw [← hsM] at HAn
    obtain ⟨X,hXe⟩:∃ X,X=(Zcs a sM M.found M.tree).1:=⟨_,rfl⟩
    obtain ⟨Y,hYe⟩:∃ Y,Y=(Zcs a sM M.found M.tree).2.1:=⟨_,rfl⟩
    rw [← hXe] at HAn hX
    rw [← hYe] at hY
    have HXY:Hid (X=(Zcs a sM M.found M.tree).1∧Y=(Zcs a sM M.found M.tree).2.1):=⟨hXe,hYe⟩
    clear hXe hYe hsM hN0
    go_wp2_with fail
    refine HSt.out.mono ?_
    rintro e w2 ⟨rfl,rfl⟩
    go_wp2_with fail
    refine HAn.out.mono ?_
    rintro e w4 ⟨rfl,hE4⟩
    have HB4:=Zac (HB3.out.ext hE4)
    have HWa:=Zac (Zkc w4 b x2 cs a M HB4.out.sr HB4.out.inv hcl)
    rw [← HsM.out,← HXY.out.2] at HWa
    obtain ⟨d0,d1,d2,d3,d4⟩:w4.cell? ⟨w.heap.size+1,0,none⟩=some (.slice aa A.length ac)∧w4.cell? ⟨w.heap.size+1,1,none⟩=some (.slice wa W.length wc)∧w4.cell? ⟨w.heap.size+1,2,none⟩=some (.int .i64 TD)∧w4.cell? ⟨w.heap.size+1,3,none⟩=some (.int .i64 sM)∧w4.cell? ⟨w.heap.size+1,4,none⟩=some (.string ⟨#[]⟩):=⟨Zaa HB4.out.box 0 _ rfl,Zaa HB4.out.box 1 _ rfl,Zaa HB4.out.box 2 _ rfl,Zaa HB4.out.box 3 _ rfl,Zaa HB4.out.box 4 _ rfl⟩
    have df:=fun i=>Zad HB4.out.box i
    have dl:=Zab HB4.out.box
    clear hE4 HB HB2 HB3 HAn HSt b2 b3 bf bl g1 g2
    go_wp2_with fail
    refine HWa.out.mono ?_
    rintro e w5 ⟨rfl,h5⟩
    obtain rfl:w4=w5:=h5.symm
    by_cases h1:sM=1
    ·subst h1
     have hXn:X≠[]:=fun e=>by have:=hX.1 e; omega
     have hYn:Y≠[]:=fun e=>by have:=hY.1 e; omega
     have hXi:X.isEmpty=false:=by simpa using hXn
     have hYi:Y.isEmpty=false:=by simpa using hYn
     have hd0:d≠0:=hsome (Or.inr rfl)
     have hd1:((d:Int) == 0)=false:=by rw [Qu]; omega
     have dV:V.heap.size≤w4.heap.size:=HB4.out.kept.size
     have HE:Hid (∀ w9 aa' ac' wa' wc',AftAt V w9 b (w.heap.size+1) x x2 cs a M (.slice aa' (A.length+1) ac') (.slice wa' (W.length+1) wc') TD 1 (.slice aa' (A.length+1) ac') (A++[X]) (.slice wa' (W.length+1) wc') (W++[Y])→∃ (m':SN) (x':CX) (t:Tr) (aa:Option Addr) (ac:Nat) (wa:Option Addr) (wc:Nat),t.tries≤tries∧tries - t.tries<gk - 1∧(m'.status=0∨m'.status=1)∧t.status=m'.status∧t.ans.length≤t.tries∧t.wts.length≤t.tries∧R=aftN cs a tries size (gk - 1) m' t∧AftAt V w9 b (w.heap.size+1) x x' cs a m' (.slice aa t.ans.length ac) (.slice wa t.wts.length wc) t.tries t.status (.slice aa t.ans.length ac) t.ans (.slice wa t.wts.length wc) t.wts):=fun w9 aa' ac' wa' wc' h9=>by
      have e:=HTD2.out
      refine ⟨M,x2,⟨A++[X],W++[Y],TD,1⟩,aa',ac',wa',wc',by simp only; omega,by simp only; omega,Or.inr HsM.out.symm,HsM.out,by simp only [Qg,Qn]; omega,by simp only [Qg,Qn]; omega,?_,by simpa using h9⟩
      rw [Hrec.out,if_neg (by rw [← HsM.out]; omega)]
      unfold addN
      simp only
      rw [if_pos HsM.out.symm,← HsM.out,← HXY.out.1,← HXY.out.2,← e]
     clear hX hY hZ hless hsome hd0
     go_wp2_with (at_builtin; go_loud (refine Zal w4 rfl (.tmp 76) (.tmp 78) 35 rfl V.heap.size 9 Tryz.infoStr Tryz.underlying35 rfl (by decide) (.slice aa A.length ac) A.length (strs A) rfl HB4.out.ans #[.string ⟨X.toArray⟩] (N:=w4.heap.size) rfl rfl rfl (by simp [Value.oneCell']) ?_ ?_ ?_))
     ·omega
     ·exact dV
     intro av' w6 hA6
     obtain ⟨aa6,ac6,rfl⟩:=Zae hA6.owns
     have HB6:=Zac (HB4.out.app1 hA6)
     have e0:w6.cell? ⟨w.heap.size+1,0,none⟩=some (.slice aa A.length ac):=Zaa HB6.out.box 0 _ rfl
     have e1:w6.cell? ⟨w.heap.size+1,1,none⟩=some (.slice wa W.length wc):=Zaa HB6.out.box 1 _ rfl
     have ef:=fun i=>Zad HB6.out.box i
     have el:=Zab HB6.out.box
     have HB7:Hid (AftAt V (w6.setCell ⟨w.heap.size+1,0,none⟩ (.slice aa6 (A.length+1) ac6)) b (w.heap.size+1) x x2 cs a M (.slice aa6 (A.length+1) ac6) (.slice wa W.length wc) TD 1 (.slice aa6 (A.length+1) ac6) (A++[X]) (.slice wa W.length wc) W):=HB6.out.put ((Qx _ _).put 0 _) (Zaf HB6.out.box 0 _)
     have kV:=HB7.out.kept.size
     have HW7:=Zac HB7.out.wts
     clear hA6 d0 d1 d2 d3 d4 df dl dV
     go_wp2_with (at_builtin; go_loud (refine Zal (w6.setCell ⟨w.heap.size+1,0,none⟩ (.slice aa6 (A.length+1) ac6)) rfl (.tmp 82) (.tmp 84) 35 rfl V.heap.size 9 Tryz.infoStr Tryz.underlying35 rfl (by decide) (.slice wa W.length wc) W.length (strs W) rfl HW7.out #[.string ⟨Y.toArray⟩] rfl (by simp) rfl (by simp [Value.oneCell']) ?_ ?_ ?_))
     ·omega
     ·exact kV
     intro wv' w8 hA8
     obtain ⟨wa8,wc8,rfl⟩:=Zae hA8.owns
     have HB8:=Zac (HB7.out.app2 hA8)
     have i1:w8.cell? ⟨w.heap.size+1,1,none⟩=some (.slice wa W.length wc):=Zaa HB8.out.box 1 _ rfl
     have i3:w8.cell? ⟨w.heap.size+1,3,none⟩=some (.int .i64 1):=Zaa HB8.out.box 3 _ rfl
     have if':=fun i=>Zad HB8.out.box i
     have il:=Zab HB8.out.box
     have HB9:Hid (AftAt V (w8.setCell ⟨w.heap.size+1,1,none⟩ (.slice wa8 (W.length+1) wc8)) b (w.heap.size+1) x x2 cs a M (.slice aa6 (A.length+1) ac6) (.slice wa8 (W.length+1) wc8) TD 1 (.slice aa6 (A.length+1) ac6) (A++[X]) (.slice wa8 (W.length+1) wc8) (W++[Y])):=HB8.out.put ((Qx _ _).put 1 _) (Zaf HB8.out.box 1 _)
     clear hA8 e0 e1 ef el kV
     go_wp2
     all_goals
      go_roundg (gk - 1)
      case measure=>omega
      case rel=>exact HE.out _ _ _ _ _ HB9.out
    ·obtain rfl:X=[]:=hX.2 h1
     obtain rfl:Y=[]:=hY.2 h1
     by_cases h0:sM=0
     ·subst h0
      have hd0:d≠0:=hsome (Or.inl rfl)
      have hd1:((d:Int) == 0)=false:=by rw [Qu]; omega
      obtain rfl:d=N:=by
       rcases Nat.lt_or_ge d N with h | h
       ·exact absurd rfl (hless h)
       ·omega
      have HE:Hid (∃ (m':SN) (x':CX) (t:Tr) (aa:Option Addr) (ac:Nat) (wa:Option Addr) (wc:Nat),t.tries≤tries∧tries - t.tries<gk - 1∧(m'.status=0∨m'.status=1)∧t.status=m'.status∧t.ans.length≤t.tries∧t.wts.length≤t.tries∧R=aftN cs a tries size (gk - 1) m' t∧AftAt V w4 b (w.heap.size+1) x x' cs a m' (.slice aa t.ans.length ac) (.slice wa t.wts.length wc) t.tries t.status (.slice aa t.ans.length ac) t.ans (.slice wa t.wts.length wc) t.wts):=by
       have e:=HTD2.out
       refine ⟨M,x2,⟨A,W,TD,0⟩,aa,ac,wa,wc,by simp only; omega,by simp only; omega,Or.inl HsM.out.symm,HsM.out,by simp only; omega,by simp only; omega,?_,HB4.out⟩
       rw [Hrec.out,if_neg (by rw [← HsM.out]; omega)]
       unfold addN
       simp only
       rw [if_neg (by rw [← HsM.out]; omega),← HsM.out,← e]
      clear hX hY hZ hless hsome hd0
      go_wp2
      all_goals
       go_roundg (gk - 1)
       case measure=>omega
       case rel=>exact HE.out
     ·have hsM2:sM=2∨sM=3:=by omega
      have HTr:=Zac (Zlm w4 b x2 cs a M HB4.out.sr)
      rw [← HsM.out] at HTr
      obtain ⟨Q,hQ⟩:∃ Q,Q=(Zcs a sM M.found M.tree).2.2:=⟨_,rfl⟩
      rw [← hQ] at HTr hZ
      have HQ:=Zac hQ
      have hbb:=Hbr.out w4 HB4.out.kept
      have Hbb:=Zac hbb
      obtain ⟨r0,r1,r2,r3,r4⟩:w4.cell? ⟨w.heap.size,0,none⟩=some (.slice none 0 0)∧w4.cell? ⟨w.heap.size,1,none⟩=some (.slice none 0 0)∧w4.cell? ⟨w.heap.size,2,none⟩=some (.int .i64 0)∧w4.cell? ⟨w.heap.size,3,none⟩=some (.int .i64 0)∧w4.cell? ⟨w.heap.size,4,none⟩=some (.string ⟨#[]⟩):=⟨Zaa hbb 0 _ rfl,Zaa hbb 1 _ rfl,Zaa hbb 2 _ rfl,Zaa hbb 3 _ rfl,Zaa hbb 4 _ rfl⟩
      have rf:=fun i=>Zad hbb i
      have Hfin:Hid (∀ Z,Kept (fun k=>k=w.heap.size+1∨k=w.heap.size) w4 Z→Zug w b x cs a R (.returned (.tuple #[.agg #[.slice aa A.length ac,.slice wa W.length wc,.int .i64 TD,.int .i64 sM,.string ⟨Q.toArray⟩],.bool true])) Z):=fun Z hZ=>by
       have e:R=(M,⟨A,W,TD,sM⟩):=by
        have e:=HTD2.out
        rw [Hrec.out,if_pos (by rw [← HsM.out]; exact hsM2)]
        unfold addN
        simp only
        rw [if_neg (by rw [← HsM.out]; exact h1),← HsM.out,← e]
       obtain ⟨k1,k2,k3,k4,k5⟩:=HB4.out.fin Hbb.out (Qe _) HEV.out hZ
       rw [e]
       exact ⟨k1,k2,k3,aa,ac,wa,wc,by simp only; rw [← HsM.out,← HQ.out],k4,k5⟩
      clear hbb hQ
      rcases hsM2 with rfl | rfl
      ·have hQi:Q.isEmpty=false:=by
        have:Q≠[]:=fun e=>absurd rfl (hZ.1 e)
        simpa using this
       clear hX hY hZ hless hsome h1 h0
       go_wp2_with fail
       refine HTr.out.mono ?_
       rintro e w6 ⟨rfl,h6⟩
       obtain rfl:w4=w6:=h6.symm
       go_wp2_with fail
       go_region
       go_wp2
       refine bodyPost_ret (v := .tuple #[.agg #[.slice aa A.length ac,.slice wa W.length wc,.int .i64 TD,.int .i64 (2:Nat),.string ⟨Q.toArray⟩],.bool true]) (by simp [results,Tryz.results21,go_sem,r0,r1,r2,r3,r4,d0,d1,d2,d3,d4,rf,df,dl]) rfl ?_
       exact Hfin.out _ (by repeat (first | with_reducible exact Qx _ _ | with_reducible apply Kept.drew | with_reducible refine Qy ?_ (fun _=>by simp) _))
      ·obtain rfl:Q=[]:=hZ.2 (by omega)
       clear hX hY hZ hless hsome h1 h0
       go_wp2_with fail
       refine HTr.out.mono ?_
       rintro e w6 ⟨rfl,h6⟩
       obtain rfl:w4=w6:=h6.symm
       go_wp2_with fail
       go_region
       go_wp2
       refine bodyPost_ret (v := .tuple #[.agg #[.slice aa A.length ac,.slice wa W.length wc,.int .i64 TD,.int .i64 (3:Nat),.string ⟨#[]⟩],.bool true]) (by simp [results,Tryz.results21,go_sem,r0,r1,r2,r3,r4,d0,d1,d2,d3,d4,rf,df,dl]) rfl ?_
       exact Hfin.out _ (by repeat (first | with_reducible exact Qx _ _ | with_reducible apply Kept.drew | with_reducible refine Qy ?_ (fun _=>by simp) _))
   ·have hI1:¬ (tries:Int) - (T:Int)<(size:Int):=by omega
    obtain rfl:size=N:=by rw [hN]; unfold Zgn; rw [if_neg (by omega)]
    clear hN
    go_wp2_with fail
    refine HS.out.mono ?_
    rintro e w1 ⟨rfl,x2,hK,hC,hNw⟩
    have HB:=Zac (HA1.out w1 x2 hK hC hNw)
    clear hK hC hNw HS HA1
    have b2:w1.cell? ⟨w.heap.size+1,2,none⟩=some (.int .i64 T):=Zaa HB.out.box 2 _ rfl
    have b3:w1.cell? ⟨w.heap.size+1,3,none⟩=some (.int .i64 st):=Zaa HB.out.box 3 _ rfl
    have bf:=fun i=>Zad HB.out.box i
    have bl:=Zab HB.out.box
    have g1:¬ (d:Int)<0:=by omega
    have g2:¬ (size:Int)<(d:Int):=by omega
    clear c2 tf
    obtain ⟨TD,hTD,hTD2⟩:∃ TD:Nat,(T:Int)+(d:Int)=(TD:Int)∧TD=T+d:=⟨T+d,by omega,rfl⟩
    have HTD2:=Zac hTD2
    have hTDb:TD≤6001:=by omega
    clear hTD2
    obtain ⟨sM,hsM⟩:∃ z,z=M.status:=⟨_,rfl⟩
    have hsM3:sM≤3:=by rw [hsM]; exact HB.out.inv.st
    rw [← hsM] at hless hsome
    have HsM:=Zac hsM
    have HB2:Hid (AftAt V (w1.setCell ⟨w.heap.size+1,2,none⟩ (.int .i64 TD)) b (w.heap.size+1) x x2 cs a M (.slice aa A.length ac) (.slice wa W.length wc) TD st (.slice aa A.length ac) A (.slice wa W.length wc) W):=HB.out.put ((Qx _ _).put 2 _) (Zaf HB.out.box 2 _)
    have HSt:=Zac (Zll _ b x2 cs a M HB2.out.sr)
    rw [← hsM] at HSt
    have HB3:Hid (AftAt V ((w1.setCell ⟨w.heap.size+1,2,none⟩ (.int .i64 TD)).setCell ⟨w.heap.size+1,3,none⟩ (.int .i64 sM)) b (w.heap.size+1) x x2 cs a M (.slice aa A.length ac) (.slice wa W.length wc) TD sM (.slice aa A.length ac) A (.slice wa W.length wc) W):=HB2.out.put ((Qx _ _).put 3 _) (Zaf HB2.out.box 3 _)
    have HAn:=Zac (Zln _ b x2 cs q a M HB3.out.sr HB3.out.inv Hask.out)
    obtain ⟨hX,hY,hZ⟩:=Zjt HB3.out.inv HB3.out.fw
    rw [← hsM] at hX hY hZ
    rw [← hsM] at HAn
    obtain ⟨X,hXe⟩:∃ X,X=(Zcs a sM M.found M.tree).1:=⟨_,rfl⟩
    obtain ⟨Y,hYe⟩:∃ Y,Y=(Zcs a sM M.found M.tree).2.1:=⟨_,rfl⟩
    rw [← hXe] at HAn hX
    rw [← hYe] at hY
    have HXY:Hid (X=(Zcs a sM M.found M.tree).1∧Y=(Zcs a sM M.found M.tree).2.1):=⟨hXe,hYe⟩
    clear hXe hYe hsM hN0
    go_wp2_with fail
    refine HSt.out.mono ?_
    rintro e w2 ⟨rfl,rfl⟩
    go_wp2_with fail
    refine HAn.out.mono ?_
    rintro e w4 ⟨rfl,hE4⟩
    have HB4:=Zac (HB3.out.ext hE4)
    have HWa:=Zac (Zkc w4 b x2 cs a M HB4.out.sr HB4.out.inv hcl)
    rw [← HsM.out,← HXY.out.2] at HWa
    obtain ⟨d0,d1,d2,d3,d4⟩:w4.cell? ⟨w.heap.size+1,0,none⟩=some (.slice aa A.length ac)∧w4.cell? ⟨w.heap.size+1,1,none⟩=some (.slice wa W.length wc)∧w4.cell? ⟨w.heap.size+1,2,none⟩=some (.int .i64 TD)∧w4.cell? ⟨w.heap.size+1,3,none⟩=some (.int .i64 sM)∧w4.cell? ⟨w.heap.size+1,4,none⟩=some (.string ⟨#[]⟩):=⟨Zaa HB4.out.box 0 _ rfl,Zaa HB4.out.box 1 _ rfl,Zaa HB4.out.box 2 _ rfl,Zaa HB4.out.box 3 _ rfl,Zaa HB4.out.box 4 _ rfl⟩
    have df:=fun i=>Zad HB4.out.box i
    have dl:=Zab HB4.out.box
    clear hE4 HB HB2 HB3 HAn HSt b2 b3 bf bl g1 g2
    go_wp2_with fail
    refine HWa.out.mono ?_
    rintro e w5 ⟨rfl,h5⟩
    obtain rfl:w4=w5:=h5.symm
    by_cases h1:sM=1
    ·subst h1
     have hXn:X≠[]:=fun e=>by have:=hX.1 e; omega
     have hYn:Y≠[]:=fun e=>by have:=hY.1 e; omega
     have hXi:X.isEmpty=false:=by simpa using hXn
     have hYi:Y.isEmpty=false:=by simpa using hYn
     have hd0:d≠0:=hsome (Or.inr rfl)
     have hd1:((d:Int) == 0)=false:=by rw [Qu]; omega
     have dV:V.heap.size≤w4.heap.size:=HB4.out.kept.size
     have HE:Hid (∀ w9 aa' ac' wa' wc',AftAt V w9 b (w.heap.size+1) x x2 cs a M (.slice aa' (A.length+1) ac') (.slice wa' (W.length+1) wc') TD 1 (.slice aa' (A.length+1) ac') (A++[X]) (.slice wa' (W.length+1) wc') (W++[Y])→∃ (m':SN) (x':CX) (t:Tr) (aa:Option Addr) (ac:Nat) (wa:Option Addr) (wc:Nat),t.tries≤tries∧tries - t.tries<gk - 1∧(m'.status=0∨m'.status=1)∧t.status=m'.status∧t.ans.length≤t.tries∧t.wts.length≤t.tries∧R=aftN cs a tries size (gk - 1) m' t∧AftAt V w9 b (w.heap.size+1) x x' cs a m' (.slice aa t.ans.length ac) (.slice wa t.wts.length wc) t.tries t.status (.slice aa t.ans.length ac) t.ans (.slice wa t.wts.length wc) t.wts):=fun w9 aa' ac' wa' wc' h9=>by
      have e:=HTD2.out
      refine ⟨M,x2,⟨A++[X],W++[Y],TD,1⟩,aa',ac',wa',wc',by simp only; omega,by simp only; omega,Or.inr HsM.out.symm,HsM.out,by simp only [Qg,Qn]; omega,by simp only [Qg,Qn]; omega,?_,by simpa using h9⟩
      rw [Hrec.out,if_neg (by rw [← HsM.out]; omega)]
      unfold addN
      simp only
      rw [if_pos HsM.out.symm,← HsM.out,← HXY.out.1,← HXY.out.2,← e]
     clear hX hY hZ hless hsome hd0
     go_wp2_with (at_builtin; go_loud (refine Zal w4 rfl (.tmp 76) (.tmp 78) 35 rfl V.heap.size 9 Tryz.infoStr Tryz.underlying35 rfl (by decide) (.slice aa A.length ac) A.length (strs A) rfl HB4.out.ans #[.string ⟨X.toArray⟩] (N:=w4.heap.size) rfl rfl rfl (by simp [Value.oneCell']) ?_ ?_ ?_))
     ·omega
     ·exact dV
     intro av' w6 hA6
     obtain ⟨aa6,ac6,rfl⟩:=Zae hA6.owns
     have HB6:=Zac (HB4.out.app1 hA6)
     have e0:w6.cell? ⟨w.heap.size+1,0,none⟩=some (.slice aa A.length ac):=Zaa HB6.out.box 0 _ rfl
     have e1:w6.cell? ⟨w.heap.size+1,1,none⟩=some (.slice wa W.length wc):=Zaa HB6.out.box 1 _ rfl
     have ef:=fun i=>Zad HB6.out.box i
     have el:=Zab HB6.out.box
     have HB7:Hid (AftAt V (w6.setCell ⟨w.heap.size+1,0,none⟩ (.slice aa6 (A.length+1) ac6)) b (w.heap.size+1) x x2 cs a M (.slice aa6 (A.length+1) ac6) (.slice wa W.length wc) TD 1 (.slice aa6 (A.length+1) ac6) (A++[X]) (.slice wa W.length wc) W):=HB6.out.put ((Qx _ _).put 0 _) (Zaf HB6.out.box 0 _)
     have kV:=HB7.out.kept.size
     have HW7:=Zac HB7.out.wts
     clear hA6 d0 d1 d2 d3 d4 df dl dV
     go_wp2_with (at_builtin; go_loud (refine Zal (w6.setCell ⟨w.heap.size+1,0,none⟩ (.slice aa6 (A.length+1) ac6)) rfl (.tmp 82) (.tmp 84) 35 rfl V.heap.size 9 Tryz.infoStr Tryz.underlying35 rfl (by decide) (.slice wa W.length wc) W.length (strs W) rfl HW7.out #[.string ⟨Y.toArray⟩] rfl (by simp) rfl (by simp [Value.oneCell']) ?_ ?_ ?_))
     ·omega
     ·exact kV
     intro wv' w8 hA8
     obtain ⟨wa8,wc8,rfl⟩:=Zae hA8.owns
     have HB8:=Zac (HB7.out.app2 hA8)
     have i1:w8.cell? ⟨w.heap.size+1,1,none⟩=some (.slice wa W.length wc):=Zaa HB8.out.box 1 _ rfl
     have i3:w8.cell? ⟨w.heap.size+1,3,none⟩=some (.int .i64 1):=Zaa HB8.out.box 3 _ rfl
     have if':=fun i=>Zad HB8.out.box i
     have il:=Zab HB8.out.box
     have HB9:Hid (AftAt V (w8.setCell ⟨w.heap.size+1,1,none⟩ (.slice wa8 (W.length+1) wc8)) b (w.heap.size+1) x x2 cs a M (.slice aa6 (A.length+1) ac6) (.slice wa8 (W.length+1) wc8) TD 1 (.slice aa6 (A.length+1) ac6) (A++[X]) (.slice wa8 (W.length+1) wc8) (W++[Y])):=HB8.out.put ((Qx _ _).put 1 _) (Zaf HB8.out.box 1 _)
     clear hA8 e0 e1 ef el kV
     go_wp2
     all_goals
      go_roundg (gk - 1)
      case measure=>omega
      case rel=>exact HE.out _ _ _ _ _ HB9.out
    ·obtain rfl:X=[]:=hX.2 h1
     obtain rfl:Y=[]:=hY.2 h1
     by_cases h0:sM=0
     ·subst h0
      have hd0:d≠0:=hsome (Or.inl rfl)
      have hd1:((d:Int) == 0)=false:=by rw [Qu]; omega
      obtain rfl:size=d:=by
       rcases Nat.lt_or_ge d size with h | h
       ·exact absurd rfl (hless h)
       ·omega
      have HE:Hid (∃ (m':SN) (x':CX) (t:Tr) (aa:Option Addr) (ac:Nat) (wa:Option Addr) (wc:Nat),t.tries≤tries∧tries - t.tries<gk - 1∧(m'.status=0∨m'.status=1)∧t.status=m'.status∧t.ans.length≤t.tries∧t.wts.length≤t.tries∧R=aftN cs a tries size (gk - 1) m' t∧AftAt V w4 b (w.heap.size+1) x x' cs a m' (.slice aa t.ans.length ac) (.slice wa t.wts.length wc) t.tries t.status (.slice aa t.ans.length ac) t.ans (.slice wa t.wts.length wc) t.wts):=by
       have e:=HTD2.out
       refine ⟨M,x2,⟨A,W,TD,0⟩,aa,ac,wa,wc,by simp only; omega,by simp only; omega,Or.inl HsM.out.symm,HsM.out,by simp only; omega,by simp only; omega,?_,HB4.out⟩
       rw [Hrec.out,if_neg (by rw [← HsM.out]; omega)]
       unfold addN
       simp only
       rw [if_neg (by rw [← HsM.out]; omega),← HsM.out,← e]
      clear hX hY hZ hless hsome hd0
      go_wp2
      all_goals
       go_roundg (gk - 1)
       case measure=>omega
       case rel=>exact HE.out
     ·have hsM2:sM=2∨sM=3:=by omega
      have HTr:=Zac (Zlm w4 b x2 cs a M HB4.out.sr)
      rw [← HsM.out] at HTr
      obtain ⟨Q,hQ⟩:∃ Q,Q=(Zcs a sM M.found M.tree).2.2:=⟨_,rfl⟩
      rw [← hQ] at HTr hZ
      have HQ:=Zac hQ
      have hbb:=Hbr.out w4 HB4.out.kept
      have Hbb:=Zac hbb
      obtain ⟨r0,r1,r2,r3,r4⟩:w4.cell? ⟨w.heap.size,0,none⟩=some (.slice none 0 0)∧w4.cell? ⟨w.heap.size,1,none⟩=some (.slice none 0 0)∧w4.cell? ⟨w.heap.size,2,none⟩=some (.int .i64 0)∧w4.cell? ⟨w.heap.size,3,none⟩=some (.int .i64 0)∧w4.cell? ⟨w.heap.size,4,none⟩=some (.string ⟨#[]⟩):=⟨Zaa hbb 0 _ rfl,Zaa hbb 1 _ rfl,Zaa hbb 2 _ rfl,Zaa hbb 3 _ rfl,Zaa hbb 4 _ rfl⟩
      have rf:=fun i=>Zad hbb i
      have Hfin:Hid (∀ Z,Kept (fun k=>k=w.heap.size+1∨k=w.heap.size) w4 Z→Zug w b x cs a R (.returned (.tuple #[.agg #[.slice aa A.length ac,.slice wa W.length wc,.int .i64 TD,.int .i64 sM,.string ⟨Q.toArray⟩],.bool true])) Z):=fun Z hZ=>by
       have e:R=(M,⟨A,W,TD,sM⟩):=by
        have e:=HTD2.out
        rw [Hrec.out,if_pos (by rw [← HsM.out]; exact hsM2)]
        unfold addN
        simp only
        rw [if_neg (by rw [← HsM.out]; exact h1),← HsM.out,← e]
       obtain ⟨k1,k2,k3,k4,k5⟩:=HB4.out.fin Hbb.out (Qe _) HEV.out hZ
       rw [e]
       exact ⟨k1,k2,k3,aa,ac,wa,wc,by simp only; rw [← HsM.out,← HQ.out],k4,k5⟩
      clear hbb hQ
      rcases hsM2 with rfl | rfl
      ·have hQi:Q.isEmpty=false:=by
        have:Q≠[]:=fun e=>absurd rfl (hZ.1 e)
        simpa using this
       clear hX hY hZ hless hsome h1 h0
       go_wp2_with fail
       refine HTr.out.mono ?_
       rintro e w6 ⟨rfl,h6⟩
       obtain rfl:w4=w6:=h6.symm
       go_wp2_with fail
       go_region
       go_wp2
       refine bodyPost_ret (v := .tuple #[.agg #[.slice aa A.length ac,.slice wa W.length wc,.int .i64 TD,.int .i64 (2:Nat),.string ⟨Q.toArray⟩],.bool true]) (by simp [results,Tryz.results21,go_sem,r0,r1,r2,r3,r4,d0,d1,d2,d3,d4,rf,df,dl]) rfl ?_
       exact Hfin.out _ (by repeat (first | with_reducible exact Qx _ _ | with_reducible apply Kept.drew | with_reducible refine Qy ?_ (fun _=>by simp) _))
      ·obtain rfl:Q=[]:=hZ.2 (by omega)
       clear hX hY hZ hless hsome h1 h0
       go_wp2_with fail
       refine HTr.out.mono ?_
       rintro e w6 ⟨rfl,h6⟩
       obtain rfl:w4=w6:=h6.symm
       go_wp2_with fail
       go_region
       go_wp2
       refine bodyPost_ret (v := .tuple #[.agg #[.slice aa A.length ac,.slice wa W.length wc,.int .i64 TD,.int .i64 (3:Nat),.string ⟨#[]⟩],.bool true]) (by simp [results,Tryz.results21,go_sem,r0,r1,r2,r3,r4,d0,d1,d2,d3,d4,rf,df,dl]) rfl ?_
       exact Hfin.out _ (by repeat (first | with_reducible exact Qx _ _ | with_reducible apply Kept.drew | with_reducible refine Qy ?_ (fun _=>by simp) _))
  ·have HTr:=Zac (Zlm wr b x1 cs a m1 HA.out.sr)
   have hbb:=Hbr.out wr HA.out.kept
   have Hbb:=Zac hbb
   obtain ⟨r0,r1,r2,r3,r4⟩:wr.cell? ⟨w.heap.size,0,none⟩=some (.slice none 0 0)∧wr.cell? ⟨w.heap.size,1,none⟩=some (.slice none 0 0)∧wr.cell? ⟨w.heap.size,2,none⟩=some (.int .i64 0)∧wr.cell? ⟨w.heap.size,3,none⟩=some (.int .i64 0)∧wr.cell? ⟨w.heap.size,4,none⟩=some (.string ⟨#[]⟩):=⟨Zaa hbb 0 _ rfl,Zaa hbb 1 _ rfl,Zaa hbb 2 _ rfl,Zaa hbb 3 _ rfl,Zaa hbb 4 _ rfl⟩
   have rf:=fun i=>Zad hbb i
   have tf:=fun i=>Zad HA.out.box i
   have c0:wr.cell? ⟨w.heap.size+1,0,none⟩=some (.slice aa A.length ac):=Zaa HA.out.box 0 _ rfl
   have c1:wr.cell? ⟨w.heap.size+1,1,none⟩=some (.slice wa W.length wc):=Zaa HA.out.box 1 _ rfl
   have c3:wr.cell? ⟨w.heap.size+1,3,none⟩=some (.int .i64 st):=Zaa HA.out.box 3 _ rfl
   have c4:wr.cell? ⟨w.heap.size+1,4,none⟩=some (.string ⟨#[]⟩):=Zaa HA.out.box 4 _ rfl
   have Htold:Hid ((Zcs a m1.status m1.found m1.tree).2.2=[]):=(Zjt HA.out.inv HA.out.fw).2.2.2 (by rw [← Hst.out]; omega)
   rw [Htold.out] at HTr
   have hst3:((st:Int) != 2)=true:=by rw [bne_iff_ne]; omega
   clear hbb
   have Hfin:Hid (∀ Z,Kept (fun k=>k=w.heap.size+1∨k=w.heap.size) wr Z→Zug w b x cs a R (.returned (.tuple #[.agg #[.slice aa A.length ac,.slice wa W.length wc,.int .i64 T,.int .i64 st,.string ⟨#[]⟩],.bool true])) Z):=fun Z hZ=>by
    have e:R=(m1,⟨A,W,T,st⟩):=by
     rw [HRe.out]
     obtain ⟨f,rfl⟩:∃ f,gk=f+1:=⟨gk - 1,by omega⟩
     simp only [aftN]
     rw [if_neg hlt]
    obtain ⟨k1,k2,k3,k4,k5⟩:=HA.out.fin Hbb.out (Qe _) HEV.out hZ
    rw [e]
    exact ⟨k1,k2,k3,aa,ac,wa,wc,by simp only; rw [Htold.out],k4,k5⟩
   go_wp2_with fail
   refine HTr.out.mono ?_
   rintro e w1 ⟨rfl,rfl⟩
   go_wp2_with fail
   go_region
   go_wp2
   refine bodyPost_ret (v := .tuple #[.agg #[.slice aa A.length ac,.slice wa W.length wc,.int .i64 T,.int .i64 st,.string ⟨#[]⟩],.bool true]) (by simp [results,Tryz.results21,go_sem,r0,r1,r2,r3,r4,c0,c1,c2,c3,c4,rf,tf,hst3,hbt]) rfl ?_
   exact Hfin.out _ (by repeat (first | with_reducible exact Qx _ _ | with_reducible apply Kept.drew | with_reducible refine Qy ?_ (fun _=>by simp) _))
def Yal (w:World) (a:List (List Sym) × Names) (R:SN × Tr) (e:Ending) (w':World):Prop :=
 Ext w w'∧∃ aa ac wa wc,e = .returned (.tuple #[.agg #[.slice aa R.2.ans.length ac,.slice wa R.2.wts.length wc,.int .i64 R.2.tries,.int .i64 R.2.status,.string ⟨(Zcs a R.1.status R.1.found R.1.tree).2.2.toArray⟩],.bool true]) ∧
  w'.ownsRow w.heap.size 9 1 (.slice aa R.2.ans.length ac) R.2.ans.length (strs R.2.ans)∧w'.ownsRow w.heap.size 9 1 (.slice wa R.2.wts.length wc) R.2.wts.length (strs R.2.wts)
theorem Zsw (cs:List Cls) {a:List (List Sym) × Names} (h:a.1≠[]):(newN cs a).status=0:=by
 unfold newN Zde Zbz
 rw [if_neg (Zhi h)]
theorem Yam (p q:ByteArray) (w:World) (cs:List Cls) (a:List (List Sym) × Names) (hp:p.size≤maxLen) (hq:q.size≤maxLen) (hcs:Zcl p=some cs) (hask:Zdt q=some a) :
  Calls Tryz.prog 10 #[.string p,.string q] w (Yal w a (aftN cs a 3001 3000 3002 (newN cs a) ⟨[],[],0,0⟩)):=by
 obtain ⟨R,hR⟩:∃ R,R=aftN cs a 3001 3000 3002 (newN cs a) ⟨[],[],0,0⟩:=⟨_,rfl⟩
 have HN:=Zac (Ycy p q (w.alloc (.cells #[.slice none 0 0,.slice none 0 0,.int .i64 0,.int .i64 0,.string ⟨#[]⟩] 37)) hp hq)
 obtain ⟨_,_,_,_,_,_,hne,_,_⟩:=Zcm hask
 have HI:=Zac (InvN.new cs hne)
 have Hs:=Zac (Zsw cs hne)
 have Hcs:Hid ((∀ c ∈ cs,COk c∧CNm c)∧(∀ c ∈ cs,CFew c)∧cs.length≤24):=by
  obtain ⟨_,_,_,h1,h2⟩:=Zcp hcs
  exact ⟨h1,Zoa hcs,by omega⟩
 have Hp:=Zac hcs
 have Hq:=Zac hask
 have HR:=Zac hR
 rw [← hR]
 clear hp hq hne hcs hask hR
 go_enter Tryz.func10,Tryz.ntmps10
 go_wp2_with fail
 refine HN.out.mono ?_
 rintro e w1 ⟨hE1,⟨h1,_⟩ | ⟨_,h1,_⟩ | ⟨cs',a',b,x,h1,h2,rfl,hge,hC⟩⟩
 ·rw [Hp.out] at h1; simp at h1
 ·rw [Hq.out] at h1; simp at h1
 obtain rfl:cs'=cs:=by rw [Hp.out] at h1; exact (Option.some.inj h1).symm
 obtain rfl:a'=a:=by rw [Hq.out] at h2; exact (Option.some.inj h2).symm
 have HA:=Zac (Yak w1 b x cs' q a' (newN cs' a') 3001 3000 hC HI.out (fun h=>by rw [Hs.out] at h; simp at h) Hs.out Hcs.out.1 Hcs.out.2.1 Hcs.out.2.2 Hq.out (by omega) (by omega) (by omega))
 have hbl:=Zab hC.box
 have hE0:Ext w (w.alloc (.cells #[.slice none 0 0,.slice none 0 0,.int .i64 0,.int .i64 0,.string ⟨#[]⟩] 37)):=(Ext.of (by repeat' (first | with_reducible(first|exact Qx _ _|apply Kept.drew|apply Kept.drewN|apply Qz|refine Qy ?_ ?_ _)|exact fun h=>absurd h (by simp <;> omega))))
 have HE1:=Zac hE1
 have hs1:=hE1.size
 simp at hs1
 have hb0:w1.heap[w.heap.size]?=some (.cells #[.slice none 0 0,.slice none 0 0,.int .i64 0,.int .i64 0,.string ⟨#[]⟩] 37 (0,0)):=(hE1.block _ (by simp)).trans (heap_alloc_new w _)
 have hn0:¬ ownS b x w.heap.size:=hC.not hb0 (by decide) (by decide)
 have Hge:=Zac hge
 have HE01:Hid (Ext w w1):=hE0.trans (hE1.mono hE0.size)
 rw [← HR.out] at HA
 clear hge hC hE1 hE0 HN
 go_wp2_with fail
 refine HA.out.mono ?_
 rintro e w2 ⟨hK2,hx2,hI2,aa,ac,wa,wc,rfl,ha2,hw2⟩
 have hb2:=(hK2.block _ (Zab hb0) hn0).trans hb0
 obtain ⟨r0,r1,r2,r3,r4⟩:w2.cell? ⟨w.heap.size,0,none⟩=some (.slice none 0 0)∧w2.cell? ⟨w.heap.size,1,none⟩=some (.slice none 0 0)∧w2.cell? ⟨w.heap.size,2,none⟩=some (.int .i64 0)∧w2.cell? ⟨w.heap.size,3,none⟩=some (.int .i64 0)∧w2.cell? ⟨w.heap.size,4,none⟩=some (.string ⟨#[]⟩):=⟨Zaa hb2 0 _ rfl,Zaa hb2 1 _ rfl,Zaa hb2 2 _ rfl,Zaa hb2 3 _ rfl,Zaa hb2 4 _ rfl⟩
 have rf:=fun i=>Zad hb2 i
 have hl2:=Zab hb2
 have hE2:Ext w w2:=HE01.out.trans (hK2.below (by omega) (fun k hk=>by have:=Hge.out k hk; simp at this; omega))
 obtain ⟨At,hAt⟩:∃ z,z=R.2.ans.length:=⟨_,rfl⟩
 obtain ⟨Wt,hWt⟩:∃ z,z=R.2.wts.length:=⟨_,rfl⟩
 obtain ⟨Tt,hTt⟩:∃ z,z=R.2.tries:=⟨_,rfl⟩
 obtain ⟨St,hSt⟩:∃ z,z=R.2.status:=⟨_,rfl⟩
 obtain ⟨Qt,hQt⟩:∃ z,z=(Zcs a' R.1.status R.1.found R.1.tree).2.2:=⟨_,rfl⟩
 have Hfin:Hid (∀ Z,Kept (fun k=>w.heap.size≤k∧(k=w.heap.size∨w2.heap.size≤k)) w2 Z→Yal w a' R (.returned (.tuple #[.agg #[.slice aa At ac,.slice wa Wt wc,.int .i64 Tt,.int .i64 St,.string ⟨Qt.toArray⟩],.bool true])) Z):=fun Z hZ=>by
  rw [hAt,hWt,hTt,hSt,hQt]
  have hS:∀ k,k<w2.heap.size→(w.heap.size≤k∧(k=w.heap.size∨w2.heap.size≤k))→k=w.heap.size:=fun k hk h=>by omega
  have hrow:∀ {v:Value} {xs:List Value} {n:Nat},w2.ownsRow w1.heap.size 9 1 v n xs→Z.ownsRow w.heap.size 9 1 v n xs:=fun hr=>Zbd (Zaj hr (fun k hk=>hZ.block k (hr.lt k hk).2 (fun h=>by have:=hS k (hr.lt k hk).2 h; have:=(hr.lt k hk).1; omega))) (by omega)
  exact ⟨hE2.trans (hZ.below (by omega) (fun k h=>h.1)),aa,ac,wa,wc,rfl,hrow ha2,hrow hw2⟩
 rw [← hAt,← hWt,← hTt,← hSt,← hQt]
 clear hK2 hx2 hI2 ha2 hw2 hb2 hE2 hAt hWt hTt hSt hQt hb0 hn0 HA HE01 HE1 HR
 go_wp2
 refine bodyPost_ret (v := .tuple #[.agg #[.slice aa At ac,.slice wa Wt wc,.int .i64 Tt,.int .i64 St,.string ⟨Qt.toArray⟩],.bool true]) (by simp [results,Tryz.results10,go_sem,r0,r1,r2,r3,r4,rf,hl2]) rfl ?_
 refine Hfin.out _ ?_
 repeat (first | with_reducible exact Qx _ _ | with_reducible apply Qz | with_reducible apply Kept.drew | with_reducible refine Qy ?_ (fun _=>⟨Qe _,Or.inl rfl⟩) _)
theorem Zol {w:World} {B n c i:Nat} {a:Option Addr} {A:List (List UInt8)} (h:w.ownsRow B 9 1 (.slice a n c) n (strs A)) (hi:i<n):∃ g y,a=some ⟨g,0,none⟩∧g<w.heap.size∧A[i]?=some y∧w.cell? ⟨g,i,none⟩=some (.string ⟨y.toArray⟩):=by
 rcases h.2 with ⟨h1,h2⟩ | ⟨g,cap,cur,h1,h2⟩
 ·omega
 ·simp only [Value.slice.injEq] at h1
  obtain ⟨rfl,_,rfl⟩:=h1
  have hl:=h.1
  have hA:i<A.length:=by simp [strs] at hl; omega
  obtain ⟨y,hy⟩:∃ y,A[i]?=some y:=⟨_,Qb hA⟩
  exact ⟨g,y,rfl,(h.lt g rfl).2,hy,Zai h i _ (by unfold strs; rw [Qj,hy]; rfl)⟩
theorem Ydf (w:World) (B1 B2:Nat) (a1:Option Addr) (c1:Nat) (A:List (List UInt8)) (a2:Option Addr) (c2:Nat) (B:List (List UInt8)) (h1:w.ownsRow B1 9 1 (.slice a1 A.length c1) A.length (strs A)) (h2:w.ownsRow B2 9 1 (.slice a2 B.length c2) B.length (strs B)) (hA:A.length≤100000) (hB:B.length≤100000) :
  Calls Tryz.prog 12 #[.slice a1 A.length c1,.slice a2 B.length c2] w fun e w'=>e = .returned (.bool (decide (A=B)))∧Ext w w':=by
 have H1:Hid (∀ u,Ext w u→∀ i,i<A.length→∃ g y,a1=some ⟨g,0,none⟩∧g<u.heap.size∧A[i]?=some y∧u.cell? ⟨g,i,none⟩=some (.string ⟨y.toArray⟩)):=fun u hu i hi=>Zol (Zaj h1 (fun k hk=>hu.block k (h1.lt k hk).2)) hi
 have H2:Hid (∀ u,Ext w u→∀ i,i<B.length→∃ g y,a2=some ⟨g,0,none⟩∧g<u.heap.size∧B[i]?=some y∧u.cell? ⟨g,i,none⟩=some (.string ⟨y.toArray⟩)):=fun u hu i hi=>Zol (Zaj h2 (fun k hk=>hu.block k (h2.lt k hk).2)) hi
 clear h1 h2
 by_cases hl:A.length=B.length
 ·rw [← hl] at H2 ⊢
  have Hl:=Zac hl
  obtain ⟨n,hn⟩:∃ n,n=A.length:=⟨_,rfl⟩
  have Hn:=Zac hn
  rw [← hn] at H1 H2 ⊢
  rw [← hn] at hA
  obtain ⟨D,hD⟩:∃ D,D=decide (A=B):=⟨_,rfl⟩
  have HD:=Zac hD
  rw [← hD]
  clear hl hB hn hD
  go_enter Tryz.func12,Tryz.ntmps12
  go_wp2
  go_loopw [5] (fun i u=>∃ s:Nat,s≤n∧i = .int .i64 s∧Ext w u∧A.take s=B.take s) (fun i _=>n - (intOf i).toNat)
  case atStart=>exact ⟨0,Qm _,rfl,Below.refl _ _,rfl⟩
  case round =>
   obtain ⟨s,hs,rfl,hEu,htk⟩:=hrel
   have HEu:=Zac hEu
   have Htk:=Zac htk
   by_cases hlt:s<n
   ·obtain ⟨g,y,rfl,hg,hy,cy⟩:=H1.out _ hEu s hlt
    obtain ⟨g',z,rfl,hg',hz,cz⟩:=H2.out _ hEu s hlt
    have Hyz:Hid (A[s]?=some y∧B[s]?=some z):=⟨hy,hz⟩
    clear hEu htk hy hz
    by_cases hyz:y=z
    ·subst hyz
     go_wp2_with fail
     go_quiet (fail)
     go_wp2
     go_roundw
     case rel =>
      refine ⟨s+1,by omega,by go_num,HEu.out.trans ((Ext.of (by repeat' (first | with_reducible(first|exact Qx _ _|apply Kept.drew|apply Kept.drewN|apply Qz|refine Qy ?_ ?_ _)|exact fun h=>absurd h (by simp <;> omega)))).mono HEu.out.size),?_⟩
      rw [List.take_add_one,List.take_add_one,Htk.out,Hyz.out.1,Hyz.out.2]
     case measure=>simp [intOf]; omega
    ·have hne:¬ y.toArray=z.toArray:=fun e=>hyz (by simpa using e)
     have hD0:D=false:=by
      rw [HD.out,decide_eq_false_iff_not]
      rintro rfl
      exact hyz (Option.some.inj (Hyz.out.1.symm.trans Hyz.out.2))
     subst hD0
     have hb:(y == z)=false:=by rw [Qu]; exact hyz
     go_wp2_with fail
     go_quiet (fail)
     go_wp2
     go_ret
     exact ⟨rfl,HEu.out.trans ((Ext.of (by repeat' (first | with_reducible(first|exact Qx _ _|apply Kept.drew|apply Kept.drewN|apply Qz|refine Qy ?_ ?_ _)|exact fun h=>absurd h (by simp <;> omega)))).mono HEu.out.size)⟩
   ·have hD1:D=true:=by
     rw [HD.out,decide_eq_true_iff]
     have h1:=Htk.out
     rw [List.take_of_length_le (by rw [← Hn.out]; omega),List.take_of_length_le (by rw [← Hl.out,← Hn.out]; omega)] at h1
     exact h1
    subst hD1
    clear hEu htk
    go_wp2
    go_ret
    exact ⟨rfl,HEu.out⟩
 ·have hD:decide (A=B)=false:=by
   rw [decide_eq_false_iff_not]
   rintro rfl
   exact hl rfl
  rw [hD]
  have hb:((A.length:Int) != (B.length:Int))=true:=by rw [bne_iff_ne]; omega
  clear hD hl
  go_enter Tryz.func12,Tryz.ntmps12
  go_wp2
  go_ret
  exact ⟨rfl,Below.refl _ _⟩
theorem Yan {p q:List UInt8} {t:Tr} {T:List UInt8} (h:Zub p q=some (t,T)):∃ cs a,Zcl ⟨p.toArray⟩=some cs∧Zdt ⟨q.toArray⟩=some a∧(aftN cs a 3001 3000 3002 (newN cs a) ⟨[],[],0,0⟩).2=t ∧
  (Zcs a (aftN cs a 3001 3000 3002 (newN cs a) ⟨[],[],0,0⟩).1.status (aftN cs a 3001 3000 3002 (newN cs a) ⟨[],[],0,0⟩).1.found (aftN cs a 3001 3000 3002 (newN cs a) ⟨[],[],0,0⟩).1.tree).2.2=T:=by
 unfold Zub at h
 cases hp:Zcl ⟨p.toArray⟩ with
 | none=>rw [hp] at h; simp at h
 | some cs =>
  cases hq:Zdt ⟨q.toArray⟩ with
  | none=>rw [hp,hq] at h; simp at h
  | some a =>
   rw [hp,hq] at h
   simp only at h
   obtain ⟨_,_,_,hcs,_⟩:=Zcp hp
   obtain ⟨_,_,_,hOk,_,_,_,_,_⟩:=Zcm hq
   cases hA:aftC cs a 3001 3000 3002 (Zsj cs a) ⟨[],[],0,0⟩ with
   | none=>rw [hA] at h; simp at h
   | some r =>
    obtain ⟨u,t'⟩:=r
    rw [hA] at h
    simp only [Qo,Prod.mk.injEq] at h
    obtain ⟨h1,h2⟩:=Yew (fun c hc=>(hcs c hc).1) (RelS.new hOk) hA
    exact ⟨cs,a,rfl,rfl,by rw [← h2]; exact h.1,by rw [← Zua h1]; exact h.2⟩
theorem Zxb {p q:List UInt8} {t:Tr} {T:List UInt8} (h:Zub p q=some (t,T)) (w:World) :
  Calls Tryz.prog 10 #[.string ⟨p.toArray⟩,.string ⟨q.toArray⟩] w fun e w'=>Ext w w'∧∃ aa ac wa wc,e = .returned (.tuple #[.agg #[.slice aa t.ans.length ac,.slice wa t.wts.length wc,.int .i64 t.tries,.int .i64 t.status,.string ⟨T.toArray⟩],.bool true]) ∧
   w'.ownsRow w.heap.size 9 1 (.slice aa t.ans.length ac) t.ans.length (strs t.ans)∧w'.ownsRow w.heap.size 9 1 (.slice wa t.wts.length wc) t.wts.length (strs t.wts):=by
 obtain ⟨cs,a,hp,hq,h1,h2⟩:=Yan h
 have hps:(⟨p.toArray⟩:ByteArray).size≤maxLen:=by
  have:=(Zcp hp).1
  simp only [maxLen]; omega
 have hqs:(⟨q.toArray⟩:ByteArray).size≤maxLen:=by
  have:=(Zcm hq).1
  simp only [maxLen]; omega
 have:=Yam ⟨p.toArray⟩ ⟨q.toArray⟩ w cs a hps hqs hp hq
 unfold Yal at this
 rw [h1,h2] at this
 exact this
def peaC:Nat→List UInt8
 | 0=>[122]
 | k+1=>[115,40]++peaC k++[41]
def Zlr:Nat→List UInt8
 | 0=>[48]
 | k+1=>[49,46]++Zlr k
def Zls:Nat→List UInt8
 | 0=>[40,48,33,41]
 | k+1=>[40,48,33,49]++Zls k++[41]
def addP:List UInt8:=[112,108,117,115,40,122,44,88,44,88,41,46,32,112,108,117,115,40,115,40,88,41,44,89,44,115,40,90,41,41,32,58,45,32,112,108,117,115,40,88,44,89,44,90,41,46]
def sumQ (n:Nat):List UInt8:=[112,108,117,115,40,88,44,89,44]++peaC n++[41,46]
def sumY (n i:Nat):List UInt8:=[112,108,117,115,40]++peaC i++[44,89,44]++peaC n++[41,46]
def sumA (n i:Nat):List UInt8:=[88,61]++peaC i++[44,89,61]++peaC (n - i)
def ansL (n:Nat):List (List UInt8):=(List.range (n+1)).map (sumA n)
def wtsL (n:Nat):List (List UInt8):=(List.range (n+1)).map Zlr
theorem lt14 {k:Nat} (hk:k<14):k=0∨k=1∨k=2∨k=3∨k=4∨k=5∨k=6∨k=7∨k=8∨k=9∨k=10∨k=11∨k=12∨k=13:=by omega
set_option maxRecDepth 100000 in
theorem sums1 (n:Nat) (hn:n<14):Zub addP (sumQ n)=some (⟨ansL n,wtsL n,2 * n+2,2⟩,Zls n):=by
 rcases lt14 hn with rfl | rfl | rfl | rfl | rfl | rfl | rfl | rfl | rfl | rfl | rfl | rfl | rfl | rfl
 all_goals kernel_rfl
set_option maxRecDepth 100000 in
theorem sums2:∀ n,n<14→∀ i,i<n+1→Yck addP (sumY n i) (Zlr i)=some ([89,61]++peaC (n - i),0,0):=by decide +kernel
set_option maxRecDepth 100000 in
theorem sums3 (n:Nat) (hn:n<14):Ydc addP (sumQ n) (Zls n)=some (ansL n,0,0):=by
 rcases lt14 hn with rfl | rfl | rfl | rfl | rfl | rfl | rfl | rfl | rfl | rfl | rfl | rfl | rfl | rfl
 all_goals kernel_rfl
theorem Zkj (k:Nat):(peaC k).length=3 * k+1:=by
 induction k with
 | zero=>rfl
 | succ k ih=>simp [peaC,ih]; omega
theorem Zqt (k:Nat):(Zlr k).length=2 * k+1:=by
 induction k with
 | zero=>rfl
 | succ k ih=>simp [Zlr,ih]; omega
theorem Zqu (k:Nat):(Zls k).length=5 * k+4:=by
 induction k with
 | zero=>rfl
 | succ k ih=>simp [Zls,ih]; omega
theorem pea_i (k:Nat):(⟨(peaC (k+1)).toArray⟩:ByteArray)=⟨#[115,40]⟩++⟨(peaC k).toArray⟩++⟨#[41]⟩:=by
 simp only [peaC]
 rw [← Zbg,← Zbg]
theorem Yfy (k:Nat):(⟨(Zlr (k+1)).toArray⟩:ByteArray)=⟨#[49,46]⟩++⟨(Zlr k).toArray⟩:=by
 simp only [Zlr]
 rw [← Zbg]
theorem Yfz (k:Nat):(⟨(Zls (k+1)).toArray⟩:ByteArray)=⟨#[40,48,33,49]⟩++⟨(Zls k).toArray⟩++⟨#[41]⟩:=by
 simp only [Zls]
 rw [← Zbg,← Zbg]
theorem add_p:(⟨addP.toArray⟩:ByteArray)=⟨#[112,108,117,115,40,122,44,88,44,88,41,46,32,112,108,117,115,40,115,40,88,41,44,89,44,115,40,90,41,41,32,58,45,32,112,108,117,115,40,88,44,89,44,90,41,46]⟩:=rfl
theorem sum_q (n:Nat):(⟨(sumQ n).toArray⟩:ByteArray)=⟨#[112,108,117,115,40,88,44,89,44]⟩++⟨(peaC n).toArray⟩++⟨#[41,46]⟩:=by
 unfold sumQ
 rw [← Zbg,← Zbg]
theorem sum_y (n i:Nat):(⟨(sumY n i).toArray⟩:ByteArray)=⟨#[112,108,117,115,40]⟩++⟨(peaC i).toArray⟩++⟨#[44,89,44]⟩++⟨(peaC n).toArray⟩++⟨#[41,46]⟩:=by
 unfold sumY
 rw [← Zbg,← Zbg,← Zbg,← Zbg]
theorem sum_a (n i:Nat):(⟨(sumA n i).toArray⟩:ByteArray)=⟨#[88,61]⟩++⟨(peaC i).toArray⟩++⟨#[44,89,61]⟩++⟨(peaC (n - i)).toArray⟩:=by
 unfold sumA
 rw [← Zbg,← Zbg,← Zbg]
theorem sum_s (k:Nat):(⟨([89,61]++peaC k).toArray⟩:ByteArray)=⟨#[89,61]⟩++⟨(peaC k).toArray⟩:=by rw [← Zbg]
theorem Zhk (n:Nat):(ansL n).length=n+1:=by simp [ansL]
theorem Ydg (n:Nat):(wtsL n).length=n+1:=by simp [wtsL]
theorem Yfc (n i:Nat) (h:i<n+1):(ansL n)[i]?=some (sumA n i):=by
 unfold ansL
 rw [Qj,List.getElem?_range h]
 rfl
theorem Yfd (n i:Nat) (h:i<n+1):(wtsL n)[i]?=some (Zlr i):=by
 unfold wtsL
 rw [Qj,List.getElem?_range h]
 rfl
theorem Yao (k:Nat) (hk:k≤100) (w:World):Calls Tryz.prog 16 #[.int .i64 k] w fun e w'=>e = .returned (.string ⟨(peaC k).toArray⟩)∧w'=w:=by
 go_enter Tryz.func16,Tryz.ntmps16
 go_wp2
 go_loop [3,4] (fun sv i=>∃ j:Nat,j≤k∧i = .int .i64 j∧sv = .string ⟨(peaC j).toArray⟩) (fun _ i=>k - (intOf i).toNat)
 case atStart=>exact ⟨0,Qm _,rfl,rfl⟩
 case round =>
  obtain ⟨j,hj,rfl,rfl⟩:=hrel
  have hil:=Zkj j
  by_cases hlt:j<k
  ·have Hi:=Zac (pea_i j)
   go_wp2
   go_round
   case rel=>exact ⟨j+1,by omega,by go_num,by rw [Hi.out]⟩
   case measure=>simp [intOf]; omega
  ·obtain rfl:j=k:=by omega
   go_wp2
   go_ret
   exact ⟨rfl,rfl⟩
theorem Yap (k:Nat) (hk:k≤100) (w:World):Calls Tryz.prog 17 #[.int .i64 k] w fun e w'=>e = .returned (.string ⟨(Zlr k).toArray⟩)∧w'=w:=by
 go_enter Tryz.func17,Tryz.ntmps17
 go_wp2
 go_loop [3,4] (fun sv i=>∃ j:Nat,j≤k∧i = .int .i64 j∧sv = .string ⟨(Zlr j).toArray⟩) (fun _ i=>k - (intOf i).toNat)
 case atStart=>exact ⟨0,Qm _,rfl,rfl⟩
 case round =>
  obtain ⟨j,hj,rfl,rfl⟩:=hrel
  have hil:=Zqt j
  by_cases hlt:j<k
  ·have Hi:=Zac (Yfy j)
   go_wp2
   go_round
   case rel=>exact ⟨j+1,by omega,by go_num,by rw [Hi.out]⟩
   case measure=>simp [intOf]; omega
  ·obtain rfl:j=k:=by omega
   go_wp2
   go_ret
   exact ⟨rfl,rfl⟩
theorem Yaq (c:Int) (hc : -9223372036854775808≤c∧c<9223372036854775808) (w:World) :
  Calls Tryz.prog 4 #[.int .i64 c] w fun e w'=>e = .returned (.bool true)∧Ext w w':=by
 have HP:=Zac (Zxg c 14 w hc ⟨by decide,by decide⟩)
 go_enter Tryz.func4,Tryz.ntmps4
 go_wp2_with fail
 refine HP.out.mono ?_
 rintro e w1 ⟨n,hn,rfl,rfl⟩
 have hn14:n<14:=by omega
 have hpl:=Zkj n
 have HQ:=Zac (fun k (hk:k≤100) u=>Yao k hk u)
 have HStp:=Zac (fun k (hk:k≤100) u=>Yap k hk u)
 have H1:=Zac (fun u=>Zxb (sums1 n hn14) u)
 have H2:=Zac (fun i (hi:i<n+1) u=>Ycm (sums2 n hn14 i hi) u)
 have H3:=Zac (fun u=>Yde (sums3 n hn14) u)
 simp only [add_p,sum_q,sum_y,sum_s] at H1 H2 H3
 simp only [Zhk,Ydg] at H1 H3
 clear HP hn hc
 go_wp2_with fail
 refine (HQ.out n (by omega) _).mono ?_
 rintro e w2 ⟨rfl,h2⟩
 obtain rfl:w1=w2:=h2.symm
 go_wp2_with fail
 refine (H1.out _).mono ?_
 rintro e w3 ⟨hE3,aa,ac,wa,wc,rfl,ha3,hw3⟩
 have hs3:=hE3.size
 have HE3:=Zac hE3
 have Hans:=Zac ha3
 have Hwts:=Zac hw3
 clear hE3 ha3 hw3 H1
 go_wp2
 go_loopw [8,9] (fun tv i u=>∃ j:Nat,j≤n+1∧i = .int .i64 j∧tv = .string ⟨(Zls (j - 1)).toArray⟩∧Ext w3 u∧u.heap[w3.heap.size]?=some (.cells #[.slice aa (n+1) ac,.slice wa (n+1) wc,.int .i64 (2 * (n:Int)+2),.int .i64 2,.string ⟨(Zls n).toArray⟩] 37 (0,0))) (fun _ i _=>n+1 - (intOf i).toNat)
 case atStart=>exact ⟨0,Qm _,rfl,rfl,(Ext.of (by repeat' (first | with_reducible(first|exact Qx _ _|apply Kept.drew|apply Kept.drewN|apply Qz|refine Qy ?_ ?_ _)|exact fun h=>absurd h (by simp <;> omega)))),heap_alloc_new w3 _⟩
 case round =>
  obtain ⟨j,hj,rfl,rfl,hEu,hbx⟩:=hrel
  have HEu:=Zac hEu
  have Hbx:=Zac hbx
  by_cases hlt:j<n+1
  ·have hI:(j:Int)≤(n:Int):=by omega
   obtain ⟨D,hD⟩:∃ D,D=n - j:=⟨_,rfl⟩
   have hDi:(n:Int) - (j:Int)=(D:Int):=by omega
   have hD14:D≤100:=by omega
   have hl1:=Zkj j
   have hl2:=Zkj D
   have hl3:=Zqt j
   have hl4:=Zqu (j - 1)
   have H2j:=Zac (H2.out j hlt)
   rw [← hD] at H2j
   obtain ⟨g,y,ra,hg,hy,cg⟩:=Zol (i:=j) (Zaj Hans.out (fun k hk=>hEu.block k (Hans.out.lt k hk).2)) hlt
   obtain ⟨g',y',rw',hg',hy',cg'⟩:=Zol (i:=j) (Zaj Hwts.out (fun k hk=>hEu.block k (Hwts.out.lt k hk).2)) hlt
   rw [Yfc n j hlt] at hy
   rw [Yfd n j hlt] at hy'
   obtain rfl:=Option.some.inj hy
   obtain rfl:=Option.some.inj hy'
   subst ra rw'
   rw [sum_a,← hD] at cg
   have b0:=Zaa hbx 0 _ rfl
   have b1:=Zaa hbx 1 _ rfl
   have hl:=Zab hbx
   clear hEu hbx hy hy' hD
   go_wp2_with fail
   refine (HQ.out j (by omega) _).mono ?_
   rintro e w5 ⟨rfl,h5⟩
   obtain rfl:wr=w5:=h5.symm
   go_wp2_with fail
   refine (HQ.out D hD14 _).mono ?_
   rintro e w6 ⟨rfl,h6⟩
   obtain rfl:wr=w6:=h6.symm
   go_wp2_with fail
   refine (HStp.out j (by omega) _).mono ?_
   rintro e w7 ⟨rfl,h7⟩
   obtain rfl:wr=w7:=h7.symm
   go_wp2_with fail
   refine (H2j.out _).mono ?_
   rintro e w8 ⟨rfl,hE8⟩
   have HE8:=Zac (HEu.out.trans (hE8.mono HEu.out.size))
   have Hb8:=Zac ((hE8.block _ hl).trans Hbx.out)
   clear hE8 b0 b1 cg cg' hg hg'
   by_cases hj0:j=0
   ·subst hj0
    go_wp2
    go_roundw
    case rel=>exact ⟨1,by omega,rfl,rfl,HE8.out,Hb8.out⟩
    case measure=>simp [intOf]
   ·obtain ⟨k,rfl⟩:∃ k,j=k+1:=⟨j - 1,by omega⟩
    have hpos:(0:Int)<(((k+1:Nat)):Int):=by omega
    have Hi:=Zac (Yfz k)
    simp only [Nat.add_sub_cancel] at hl4 ⊢
    go_wp2
    go_roundw
    case rel=>exact ⟨k+1+1,by omega,by go_num,by rw [Nat.add_sub_cancel,Hi.out],HE8.out,Hb8.out⟩
    case measure=>simp [intOf]; omega
  ·obtain rfl:j=n+1:=by omega
   have hI:¬ (((n+1:Nat)):Int)≤(n:Int):=by omega
   have hl:=Zab hbx
   have hl4:=Zqu n
   simp only [Nat.add_sub_cancel]
   clear hEu
   go_wp2_with fail
   refine (H3.out _).mono ?_
   rintro e w5 ⟨hE5,va,vc,rfl,hv5⟩
   have hbx5:=(hE5.block _ hl).trans hbx
   have b0:=Zaa hbx5 0 _ rfl
   have b4:=Zaa hbx5 4 _ rfl
   have hl5:=Zab hbx5
   have hE35:Ext w3 w5:=HEu.out.trans (hE5.mono HEu.out.size)
   have HE5:=Zac hE35
   have HSm:=Zac (Ydf w5 _ _ va vc (ansL n) aa ac (ansL n) (by rw [Zhk]; exact hv5) (by rw [Zhk]; exact Zaj Hans.out (fun k hk=>hE35.block k (Hans.out.lt k hk).2)) (by rw [Zhk]; omega) (by rw [Zhk]; omega))
   rw [Zhk,decide_eq_true rfl] at HSm
   clear hE5 hv5 hbx5 hE35 hbx
   go_wp2_with fail
   refine HSm.out.mono ?_
   rintro e w6 ⟨rfl,hE6⟩
   have d4:w6.cell? ⟨w3.heap.size,4,none⟩=some (.string ⟨(Zls n).toArray⟩):=(hE6.cell (p:=⟨w3.heap.size,4,none⟩) hl5).trans b4
   have HE6:=Zac (HE5.out.trans (hE6.mono HE5.out.size))
   clear hE6 b4 b0
   go_wp2
   go_ret
   exact ⟨rfl,HE3.out.trans (HE6.out.mono hs3)⟩
end Go.Proofs.YtlmjilpjmgjjcabGreatDoor
namespace Go.Proofs.YtlmjilpjmgjjcabGreatDoor
open Go.ChangeShapes Go.WideShapes Go.ChangeAt Go.WideMaps Go.WideElems Go.RowKit
theorem own_k:ownKnob Tryz.prog.godebug=none:=by kernel_rfl
theorem Yar:laidOutB Tryz.prog=true:=by kernel_rfl
theorem Zsx {H:Type} {enc:TypeId × Value→H} {W:World} {base:Nat} {spare:Nat→Bool} {held:Bool} {n:Int} {d:DataW H} {ps:List MemPlace} (h:DataW.Trod enc Tryz.prog W base spare held 3 (.int .i64 n) d ps) : -9223372036854775808≤n∧n<9223372036854775808:=by
 obtain ⟨fuel,hf⟩:=h
 obtain ⟨s,h1,_,h3⟩:=DataW.trod_int Tryz.underlying3 hf
 simp [Value.cells] at h1
 subst h1
 have h4:(decide (IntKind.min .i64≤n) && decide (n≤IntKind.max .i64))=true:=h3
 rw [Bool.and_eq_true,decide_eq_true_eq,decide_eq_true_eq,show IntKind.min .i64 = -9223372036854775808 from rfl,show IntKind.max .i64=9223372036854775807 from rfl] at h4
 omega
theorem Yas (os:Os) (args:Array Value):laidMetH Tryz.prog Rows.sumsRow.laid ((World.doorLaid Tryz.prog 400 os).forCall (fun _ _=>0) ⟨#[],args,[]⟩).memory :=
 laidMetH_of_parts3 (fuel:=8) (laidMet_of_run' 8 (by kernel_rfl) (by kernel_rfl)) (by kernel_rfl) (by kernel_rfl)
set_option maxRecDepth 100000 in
theorem Zsy (os:Os) (started:os.Started) (H:Type) (enc:TypeId × Value→H) :
  ReturnsInHanded {} Tryz.checked os 4 .any (fun w args=>(Rows.sumsSpec.pre enc Tryz.prog Tryz.f4 [] false w args∧laidMetH Tryz.prog Rows.sumsRow.laid w)∧sizedMet enc Tryz.prog Tryz.f4 (OpenSpec.ofChange Rows.sumsSpec) false w args)
   (Rows.sumsSpec.post enc Tryz.prog Tryz.f4 false true false false):=by
 refine returnsInHanded_of_change_and (C:=Tryz.checked) (X:=fun w _=>laidMetH Tryz.prog Rows.sumsRow.laid w) (fun _ _ _ hh h=>h.of_heap hh) own_k started (by kernel_rfl) Tryz.func4
  (ChangeSpec.witness_shaped (enc:=enc) (C:=Tryz.checked) (os:=os) (X:=fun w _=>laidMetH Tryz.prog Rows.sumsRow.laid w) false (World.doorLaid Tryz.prog 400 os) #[.int .i64 0] 8 rfl (World.shaped_of_RefB (by kernel_rfl) (by kernel_rfl)) (by kernel_rfl) (by kernel_rfl) (by kernel_rfl) (Yas os _)) ?_
 intro W base args ds gs before hval0 hW _ _ hL _
 have hval:∀ (j:Nat) t v,Tryz.f4.params[j]?=some t→args[j]?=some v→Value.okWide Tryz.prog W .any base t v:=hval0
 have hW':=hW
 obtain ⟨p,q,hA0,hV,rfl,hfz,hnd⟩:=hW
 have hA:DataW.TrodAll enc Tryz.prog W 0 (fun _=>true) true Tryz.f4.params.toList args.toList ds p:=hA0
 rw [Tryz.params4] at hA hval
 obtain ⟨v0,d0,rfl,rfl,h0⟩:=trodAll_one hA
 obtain ⟨rfl,rfl⟩:=trodVars_none hV
 have lt0:∀ x ∈ p,x.block<W.heap.size:=by obtain ⟨m,hm⟩:=h0; exact DataW.trod_lt m _ _ _ hm
 obtain ⟨n0,rfl⟩:=okWide_int Tryz.underlying3 (hval 0 3 v0 rfl rfl)
 have hb:=Zsx h0
 clear hA0 hval0
 refine (Yaq n0 hb W).mono fun e W' ⟨he,bel⟩ => ?_
 subst he
 exact ⟨_,rfl,_,_,_,[],_,[],hW',trodAll_mk1 (shut_bool Tryz.underlying4 _),trodAll_mk1 (Below.trod Yar (by kernel_rfl) (of_decide_eq_true (by kernel_rfl)) h0 bel lt0),rfl,bel.frame _,fun h=>by cases h⟩
theorem Ydh:Rows.SumsSaid :=
 OpenClaim.holds_of_wide 4 Tryz.f4 rfl rfl rfl rfl rfl rfl rfl ⟨rfl,rfl,rfl,rfl,rfl⟩ rfl rfl rfl rfl rfl (by kernel_rfl) Tryz.func4 (by kernel_rfl)
  (of_decide_eq_true (by kernel_rfl)) (by unfold Func.isWrapper; first | (rw [if_pos (by decide +kernel)]; kernel_rfl) | (rw [if_neg (by decide +kernel)]; exact ⟨rfl,rfl⟩))
  (fun os started H enc _=>Zsy os started H enc)
theorem sums_hold:Rows.SumsCardSaid :=
 Claim7.holds_tied_plain_at .later [] [.data,.data,.data] true Rows.sumsCard.stood.harness false
  Ydh (fun _ h=>by cases h) (by kernel_rfl) (fun _ h=>by cases h) sums_row_tie rfl ⟨rfl,rfl⟩ (by kernel_rfl) rfl
  (fun f fn hf hfn=>by
   obtain rfl:f=4:=Option.some.inj ((show Tryz.prog.funcNamed Tryz.f4.name=some 4 by kernel_rfl).symm.trans hf) |>.symm
   obtain rfl:fn=Tryz.f4:=(Option.some.inj (Tryz.func4.symm.trans hfn)).symm
   exact ⟨by kernel_rfl,fun j t ht=>by
    rw [Tryz.params4] at ht
    have hm:t ∈ [3]:=by simpa using Array.mem_of_getElem? ht
    have hall:([3].all fun u => !Tryz.prog.wantsStandIn u)=true:=by kernel_rfl
    exact (show Tryz.prog.wantsStandIn t=false by simpa using List.all_eq_true.1 hall t hm)⟩)
  (by kernel_rfl)
end Go.Proofs.YtlmjilpjmgjjcabGreatDoor
