/-
  PROVED HERE: what the program's 'clause.Texts' and 'clause.AnswerText' write (the conditions stand in each statement).
-/
import Derived.Test.YtlmjilpjmgjjcabDoorT6
set_option linter.unusedSimpArgs false
set_option linter.unusedVariables false
set_option maxRecDepth 10000
set_option maxHeartbeats 4000000
namespace Go.Proofs.YtlmjilpjmgjjcabDoor
open Go.RowKit
theorem Zof (s:ByteArray) (w:World) (hl:s.size≤800) :
  Calls Tryd.prog 33 #[.string s] w fun e w'=>Below w.heap.size w w'∧(((runs s false).1≠0∧e = .returned (.tuple #[.slice none 0 0,.agg #[.int .i64 (runs s false).1,.int .i64 (runs s false).2.1]])) ∨
   ((runs s false).1=0∧∃ v B Sa Sb xs,e = .returned (.tuple #[v,.agg #[.int .i64 0,.int .i64 0]])∧CCRow w' B Sa Sb v (runs s false).2.2.clauses xs∧w.heap.size≤B)):=by
 obtain ⟨R,hR⟩:∃ R,R=runs s false:=⟨_,rfl⟩
 have hA:=Zha ((w.alloc (.cells #[.int .i64 0,.int .i64 0] 69)).alloc (.cells (Zce (st0 false) nilV) 95)) _ _ (st0 false) s (Zvi (w.alloc (.cells #[.int .i64 0,.int .i64 0] 69)) false) (Zpb false) (by omega)
 rw [show runT s.size (toks s.data.toList 0) (st0 false)=R from hR.symm] at hA
 rw [show (w.alloc (.cells #[.int .i64 0,.int .i64 0] 69)).heap.size=w.heap.size+1 from by simp] at hA
 have HA:=Zac hA
 rw [← hR]
 clear hR hA
 go_enter Tryd.func33,Tryd.ntmps33
 go_wp2_with fail
 refine HA.out.mono ?_
 rintro e w2 ⟨rfl,hr,hb⟩
 have hF:FaultAt w2 w.heap.size 0 0:=(hb.block w.heap.size (by omega)).trans (Zap (heap_alloc_new w _) _)
 have hB:Below w.heap.size w w2:=((Below.refl _ w).alloc (Qe _) _).trans ((((Below.refl _ _).alloc (by simp) _)).trans (hb.mono (by omega)))
 obtain ⟨V,Sa,Sb,vs,xs,h⟩:=hr
 have hrb:=Zab h.blk
 obtain ⟨c0,c1,c2,c3,c4,c5,c6,c7,c8⟩:=h.opens.facts
 have cf:=fun i=>Zae h.blk i
 obtain ⟨ca,ccap,hvc⟩:=Zad h.rest.cls.1
 rw [hvc] at c8
 obtain ⟨hT4,f0,f1,ff⟩:=hF.cells
 have HF:=Zac hF
 have HB:=Zac hB
 have HC:=Zac h.rest.cls
 have Hvc:=Zac hvc
 clear hF hB h hvc hb c0 c1 c2 c3 c4 c5 c6 c7
 by_cases hc:R.1=0
 ·have b0:((R.1:Int) != 0)=false:=by rw [hc]; rfl
  have Hc:=Zac hc
  clear hc
  go_wp2
  refine bodyPost_ret (v := .tuple #[.slice ca R.2.2.clauses.length ccap,.agg #[.int .i64 0,.int .i64 0]]) (by simp [results,Tryd.results33,go_sem,f0,f1,ff,hT4]) rfl ?_
  refine ⟨?_,Or.inr ⟨Hc.out,_,w.heap.size+1,Sa,Sb,xs,rfl,?_,by omega⟩⟩
  ·exact ((HB.out.setCell (p:=⟨w.heap.size,0,none⟩) (Qe _) _).setCell (p:=⟨w.heap.size,1,none⟩) (Qe _) _).alloc (by simp; omega) _
  ·rw [← Hvc.out]
   exact Zqo HC.out ((((Qx (only w.heap.size) w2).put 0 _).put 1 _).alloc _) (fun k cur T fr hk hb=>by
    have hk:k=w.heap.size:=hk
    rw [hk,HF.out] at hb
    simp only [Qo,Obj.cells.injEq] at hb
    rw [← hb.2.1]
    decide)
 ·have b0:((R.1:Int) != 0)=true:=by rw [bne_iff_ne]; omega
  have Hc:=Zac hc
  clear hc
  go_wp2_with fail
  go_region
  all_goals
   go_wp2
   refine bodyPost_ret (v := .tuple #[.slice none 0 0,.agg #[.int .i64 R.1,.int .i64 R.2.1]]) (by simp [results,Tryd.results33,go_sem,f0,f1,ff,hT4]) rfl ?_
   refine ⟨?_,Or.inl ⟨Hc.out,rfl⟩⟩
   exact (((HB.out.setCell (p:=⟨w.heap.size,0,none⟩) (Qe _) _).setCell (p:=⟨w.heap.size,1,none⟩) (Qe _) _).alloc (by simp; omega) _).drew
def Zyp (p:ByteArray) (w:World) (e:Ending) (w':World):Prop:=Ext w w'∧((Zde p=none∧∃ er pl:Nat,er≠0∧e = .returned (.tuple #[.slice none 0 0,.agg #[.int .i64 er,.int .i64 pl]])) ∨
 (∃ cs a c xs,Zde p=some cs∧e = .returned (.tuple #[.slice a cs.length c,.agg #[.int .i64 0,.int .i64 0]])∧ProgIn w' (.slice a cs.length c) cs xs∧∀ j,(Value.slice a cs.length c).ownBlock=some j→w.heap.size≤j))
theorem Zwk (p:ByteArray) (w:World) (hp:p.size≤maxLen):Calls Tryd.prog 33 #[.string p] w (Zyp p w):=by
 by_cases hb:800<p.size
 ·refine (Zmd p w hp hb).mono ?_
  rintro e w' ⟨rfl,hE⟩
  exact ⟨hE,Or.inl ⟨by unfold Zde; rw [if_pos hb],1,0,by omega,rfl⟩⟩
 ·refine (Zof p w (by omega)).mono ?_
  rintro e w' ⟨hE,⟨hne,rfl⟩ | ⟨h0,v,B,Sa,Sb,xs,rfl,hrow,hB⟩⟩
  ·obtain ⟨r1,_,_⟩:=Zcr p false
   refine ⟨hE,Or.inl ⟨?_,_,_,hne,rfl⟩⟩
   unfold Zde
   rw [if_neg hb,if_pos (by rw [← r1]; exact hne)]
  ·obtain ⟨r1,_,_⟩:=Zcr p false
   obtain ⟨cs,h1,h2⟩:=Znq p (by omega) h0
   have hpo:Zde p=some cs:=by
    unfold Zde
    rw [if_neg hb,if_neg (by rw [← r1]; simp [h0]),h1]
   rw [h2] at hrow
   obtain ⟨a,c,rfl⟩:=Zad hrow.1
   exact ⟨hE,Or.inr ⟨cs,a,c,xs,hpo,rfl,hrow.prog,fun j hj=>Qq hB (hrow.1.lt j hj).1⟩⟩
def Yai (q:ByteArray) (w:World) (e:Ending) (w':World):Prop:=Ext w w'∧((Zey q=none∧∃ er pl:Nat,er≠0∧e = .returned (.tuple #[.agg #[.slice none 0 0,.slice none 0 0,.slice none 0 0],.agg #[.int .i64 er,.int .i64 pl]])) ∨
 (∃ a h1 h2 h3 b1 bc n1 nc,Zey q=some a∧e = .returned (.tuple #[.agg #[.slice h1 h2 h3,.slice b1 a.1.length bc,.slice n1 a.2.length nc],.agg #[.int .i64 0,.int .i64 0]])∧TermsIn w' (.slice b1 a.1.length bc) a.1∧w'.ownsRow 0 9 1 (.slice n1 a.2.length nc) a.2.length (strs a.2)))
theorem Zyq (q:ByteArray) (w:World) (hq:q.size≤maxLen):Calls Tryd.prog 34 #[.string q] w (Yai q w):=by
 by_cases hb:120<q.size
 ·refine (Zpc q w hq hb).mono ?_
  rintro e w' ⟨rfl,hE⟩
  exact ⟨hE,Or.inl ⟨by unfold Zey; rw [if_pos hb],1,0,by omega,rfl⟩⟩
 ·refine (Zsl q w (by omega) (fun h0 => ?_)).mono ?_
  ·obtain ⟨x,e1,e2,_⟩:=Zgh q (by omega) h0
   exact ⟨_,_,e2⟩
  rintro e w' ⟨hE,⟨hne,rfl⟩ | ⟨h0,hv,bv,vv,B,Sa,vs,c,cs,rfl,hcs,⟨h1,h2,h3,rfl⟩,hn,hbd⟩⟩
  ·obtain ⟨r1,_,_⟩:=Zcr q true
   refine ⟨hE,Or.inl ⟨?_,_,_,hne,rfl⟩⟩
   unfold Zey
   rw [if_neg hb,if_pos (by rw [← r1]; exact hne)]
  ·obtain ⟨r1,_,_⟩:=Zcr q true
   obtain ⟨x,e1,e2,_⟩:=Zgh q (by omega) h0
   have hao:Zey q=some (x.1,x.2.2):=by
    unfold Zey
    rw [if_neg hb,if_neg (by rw [← r1]; simp [h0]),e1]
    rfl
   rw [e2] at hcs
   simp only [List.cons.injEq] at hcs
   obtain ⟨rfl,_⟩:=hcs
   obtain ⟨n1,nc,rfl⟩:=Zad hn
   obtain ⟨b1,bc,rfl⟩:=Zad hbd.1
   exact ⟨hE,Or.inr ⟨(x.1,x.2.2),h1,h2,h3,b1,bc,n1,nc,hao,rfl,hbd.terms,Zbc hn (Qm _)⟩⟩
def Zyr (p q:ByteArray) (w:World) (e:Ending) (w':World):Prop:=Ext w w'∧((Zde p=none∧e = .returned (.tuple #[.slice none 0 0,.agg #[.slice none 0 0,.slice none 0 0,.slice none 0 0],.int .i64 4])) ∨
 ((∃ cs,Zde p=some cs)∧Zey q=none∧e = .returned (.tuple #[.slice none 0 0,.agg #[.slice none 0 0,.slice none 0 0,.slice none 0 0],.int .i64 5])) ∨
 (∃ cs a l1 lc xs h1 h2 h3 b1 bc n1 nc,Zde p=some cs∧Zey q=some a∧e = .returned (.tuple #[.slice l1 cs.length lc,.agg #[.slice h1 h2 h3,.slice b1 a.1.length bc,.slice n1 a.2.length nc],.int .i64 0])∧ProgIn w' (.slice l1 cs.length lc) cs xs∧TermsIn w' (.slice b1 a.1.length bc) a.1∧w'.ownsRow 0 9 1 (.slice n1 a.2.length nc) a.2.length (strs a.2)))
theorem ProgIn.box {w w':World} {M:Nat} {cs0:Array Value} {t:TypeId} {fr:Nat × Nat} {v:Value} {cs:List Cls} {xs:List (List Value)} (h:ProgIn w v cs xs) (hM:w.heap[M]?=some (.cells cs0 t fr)) (h1:55≠t∨∀ j,v.ownBlock=some j→j≠M) (h2:52≠t) (h3:79≠t) (h4:9≠t) (hk:Kept (fun k=>k=M) w w'):ProgIn w' v cs xs :=
 ⟨hk.owns h.owns (fun j hj hS=>by
  rcases h1 with h1 | h1
  ·have hS:j=M:=hS
   rw [hS] at hj
   exact Zaf h.owns h1 hM hj
  ·exact h1 j hj hS),h.len,h.three,fun i c hc=>by
  obtain ⟨hv,bv,vv,e1,e2⟩:=h.all i c hc
  exact ⟨hv,bv,vv,e1,Zdo e2.head hM h3 hk,e2.body.box hM h2 h3 hk,Zdo e2.names hM h4 hk⟩⟩
theorem Zwl (p q:ByteArray) (w:World) (hp:p.size≤maxLen) (hq:q.size≤maxLen):Calls Tryd.prog 21 #[.string p,.string q] w (Zyr p q w):=by
 have HP:=Zac (fun u=>Zwk p u hp)
 have HQ:=Zac (fun u=>Zyq q u hq)
 clear hp hq
 go_enter Tryd.func21,Tryd.ntmps21
 go_wp2_with fail
 refine (HP.out _).mono ?_
 rintro e w1 ⟨hE1,hc⟩
 have hs1:=hE1.size
 simp at hs1
 have hb1:w1.heap[w.heap.size]?=some (.cells #[.slice none 0 0,.slice none 0 0,.slice none 0 0] 55 (0,0)):=(hE1.block _ (by simp)).trans (heap_alloc_new w _)
 obtain ⟨b0,b1,b2,bf⟩:w1.cell? ⟨w.heap.size,0,none⟩=some (.slice none 0 0)∧w1.cell? ⟨w.heap.size,1,none⟩=some (.slice none 0 0)∧w1.cell? ⟨w.heap.size,2,none⟩=some (.slice none 0 0)∧∀ i,w1.frozen? ⟨w.heap.size,i,none⟩=false:=⟨Zaa hb1 0 _ rfl,Zaa hb1 1 _ rfl,Zaa hb1 2 _ rfl,fun i=>Zae hb1 i⟩
 have hm1:w.heap.size<w1.heap.size:=by omega
 have HEw1:Hid (Ext w w1):=((Ext.of (by repeat' (first | with_reducible(first|exact Qx _ _|apply Kept.drew|apply Kept.drewN|apply Qz|refine Qy ?_ ?_ _)|exact fun h=>absurd h (by simp <;> omega)))):Ext w (w.alloc _)).trans (hE1.mono (by simp))
 have Hb1:=Zac hb1
 rcases hc with ⟨hno,er,pl,her,rfl⟩ | ⟨cs,la,lcap,xs,hsome,rfl,hrow,hnew⟩
 ·have hb:((er:Int) != 0)=true:=by rw [bne_iff_ne]; omega
  have Hno:=Zac hno
  clear hno hE1 hb1
  go_wp2
  refine bodyPost_ret (v := .tuple #[.slice none 0 0,.agg #[.slice none 0 0,.slice none 0 0,.slice none 0 0],.int .i64 4]) (by simp [results,Tryd.results21,go_sem,b0,b1,b2,bf,hm1]) rfl ?_
  refine ⟨HEw1.out.trans (Kept.below (S:=fun i=>w.heap.size≤i) (by repeat' (first | with_reducible(first|exact Qx _ _|apply Kept.drew|apply Kept.drewN|apply Qz|refine Qy ?_ ?_ _)|(intro _; simp only; omega))) (by omega) (fun i e=>e)),Or.inl ⟨Hno.out,rfl⟩⟩
 ·have Hrow:=Zac hrow
  have Hsome:=Zac hsome
  have Hnew:Hid (∀ j,(Value.slice la cs.length lcap).ownBlock=some j→j≠w.heap.size):=fun j hj=>by
   have:=hnew j hj
   simp at this
   omega
  clear hrow hsome hE1 hb1 hnew
  go_wp2_with fail
  refine (HQ.out _).mono ?_
  rintro e w2 ⟨hE2,hc⟩
  have hs2:=hE2.size
  simp at hs2
  have hE12:Ext w1 w2:=(Below.refl _ w1 |>.alloc (Qe _) _).trans (hE2.mono (by simp))
  have hb2:=(hE12.block _ hm1).trans Hb1.out
  obtain ⟨b0,b1,b2,bf⟩:w2.cell? ⟨w.heap.size,0,none⟩=some (.slice none 0 0)∧w2.cell? ⟨w.heap.size,1,none⟩=some (.slice none 0 0)∧w2.cell? ⟨w.heap.size,2,none⟩=some (.slice none 0 0)∧∀ i,w2.frozen? ⟨w.heap.size,i,none⟩=false:=⟨Zaa hb2 0 _ rfl,Zaa hb2 1 _ rfl,Zaa hb2 2 _ rfl,fun i=>Zae hb2 i⟩
  have hm2:w.heap.size<w2.heap.size:=by omega
  have HEw2:Hid (Ext w w2):=HEw1.out.trans (hE12.mono (by omega))
  have Hb2:=Zac hb2
  have HE2:=Zac hE12
  clear hE12
  rcases hc with ⟨hno,er,pl,her,rfl⟩ | ⟨a,h1,h2,h3,c1,cc,n1,nc,hask,rfl,hA,hN⟩
  ·have hb:((er:Int) != 0)=true:=by rw [bne_iff_ne]; omega
   have Hno:=Zac hno
   clear hno hE2 hb2
   go_wp2
   refine bodyPost_ret (v := .tuple #[.slice none 0 0,.agg #[.slice none 0 0,.slice none 0 0,.slice none 0 0],.int .i64 5]) (by simp [results,Tryd.results21,go_sem,b0,b1,b2,bf,hm2]) rfl ?_
   refine ⟨HEw2.out.trans (Kept.below (S:=fun i=>w.heap.size≤i) (by repeat' (first | with_reducible(first|exact Qx _ _|apply Kept.drew|apply Kept.drewN|apply Qz|refine Qy ?_ ?_ _)|(intro _; simp only; omega))) (by omega) (fun i e=>e)),Or.inr (Or.inl ⟨⟨cs,Hsome.out⟩,Hno.out,rfl⟩)⟩
  ·have HA:=Zac hA
   have HN:=Zac hN
   have Hask:=Zac hask
   clear hA hN hask hE2 hb2
   go_wp2_with fail
   go_region
   all_goals
    go_wp2
    refine bodyPost_ret (v := .tuple #[.slice la cs.length lcap,.agg #[.slice h1 h2 h3,.slice c1 a.1.length cc,.slice n1 a.2.length nc],.int .i64 0]) (by simp [results,Tryd.results21,go_sem,b0,b1,b2,bf,hm2]) rfl ?_
    refine ⟨HEw2.out.trans (Kept.below (S:=fun i=>w.heap.size≤i) (by repeat' (first | with_reducible(first|exact Qx _ _|apply Kept.drew|apply Kept.drewN|apply Qz|refine Qy ?_ ?_ _)|(intro _; simp only; omega))) (by omega) (fun i e=>e)),Or.inr (Or.inr ⟨cs,a,la,lcap,xs,h1,h2,h3,c1,cc,n1,nc,Hsome.out,Hask.out,rfl,?_,?_,?_⟩)⟩
    ·exact ((Hrow.out.ext HE2.out).box Hb2.out (Or.inr Hnew.out) (by decide) (by decide) (by decide) ((((Qx (only w.heap.size) w2).put 0 _).put 1 _).put 2 _)).ext (Ext.of (by repeat' (first | with_reducible(first|exact Qx _ _|apply Kept.drew|apply Kept.drewN|apply Qz|refine Qy ?_ ?_ _)|exact fun h=>absurd h (by simp <;> omega))))
    ·exact (HA.out.box Hb2.out (by decide) (by decide) ((((Qx (only w.heap.size) w2).put 0 _).put 1 _).put 2 _)).ext (Ext.of (by repeat' (first | with_reducible(first|exact Qx _ _|apply Kept.drew|apply Kept.drewN|apply Qz|refine Qy ?_ ?_ _)|exact fun h=>absurd h (by simp <;> omega))))
    ·exact Zao (Zdo HN.out Hb2.out (by decide) ((((Qx (only w.heap.size) w2).put 0 (.slice h1 h2 h3)).put 1 (.slice c1 a.1.length cc)).put 2 (.slice n1 a.2.length nc))) (fun j hj=>((Ext.of (by repeat' (first | with_reducible(first|exact Qx _ _|apply Kept.drew|apply Kept.drewN|apply Qz|refine Qy ?_ ?_ _)|exact fun h=>absurd h (by simp <;> omega)))):Ext _ _).block j (by simp; have:=(HN.out.lt j hj).2; omega))
structure WBg (w:World) (gv vv rv:Value) (u uu:Nat) (hv bv nv:Value) (gl:List (List Sym)) (g:Value) (xs:List Value) (wr:World):Prop where
 ext:Ext w wr
 nb:NB wr w.heap.size gv vv rv u
 cb:wr.heap[w.heap.size+1]?=some (.cells #[hv,bv,nv] 55 (0,0))
 res:NB wr (w.heap.size+2) (.slice none 0 0) (.slice none 0 0) (.slice none 0 0) 0
 box:NB wr (w.heap.size+3) g vv (.slice none 0 0) uu
 row:TermsAt wr w.heap.size g gl xs
theorem WBg.on {w wr w1:World} {gv vv rv hv bv nv g:Value} {u uu:Nat} {gl:List (List Sym)} {xs:List Value} (h:WBg w gv vv rv u uu hv bv nv gl g xs wr) (e:Ext wr w1):WBg w gv vv rv u uu hv bv nv gl g xs w1:=by
 obtain ⟨h1,h2,h3,h4,h5,h6⟩:=h
 exact ⟨h1.trans (e.mono h1.size),(e.block _ (Zab h2)).trans h2,(e.block _ (Zab h3)).trans h3,(e.block _ (Zab h4)).trans h4,(e.block _ (Zab h5)).trans h5,h6.ext e⟩
theorem WBg.app {w w1 w2:World} {gv vv rv hv bv nv g g2 x:Value} {u uu n:Nat} {gl:List (List Sym)} {l:List Sym} {xs:List Value} (h:WBg w gv vv rv u uu hv bv nv gl g xs w1) (hn:gl.length=n) (hx:WordAt w1 x l) (hap:Appended w1 w.heap.size 52 1 g (n+1) (xs++[x]) g2 w2) :
  WBg w gv vv rv u uu hv bv nv (gl++[l]) g2 (xs++[x]) (w2.setCell ⟨w.heap.size+3,0,none⟩ g2):=by
 obtain ⟨h1,h2,h3,h4,h5,h6⟩:=h
 have b2:=(hap.kept.block _ (Zab h2) (Zaf h6.owns (by decide) h2)).trans h2
 have b3:=(hap.kept.block _ (Zab h3) (Zaf h6.owns (by decide) h3)).trans h3
 have b4:=(hap.kept.block _ (Zab h4) (Zaf h6.owns (by decide) h4)).trans h4
 have b5:=(hap.kept.block _ (Zab h5) (Zaf h6.owns (by decide) h5)).trans h5
 have hK:Kept (fun j=>j=w.heap.size+3) w2 (w2.setCell ⟨w.heap.size+3,0,none⟩ g2):=(Qx (only (w.heap.size+3)) w2).put 0 _
 exact ⟨(h1.trans (hap.kept.below h1.size (fun j hj=>(h6.owns.lt j hj).1))).setCell (p:=⟨w.heap.size+3,0,none⟩) (by simp) _,(hK.block _ (Zab b2) (by simp)).trans b2,(hK.block _ (Zab b3) (by simp)).trans b3,(hK.block _ (Zab b4) (by simp)).trans b4,Zah b5 0 _,
  (h6.snoc (by rw [hn]; exact hap) hx).box b5 (by decide) (by decide) hK⟩
structure WBr (w:World) (B:Nat) (gv vv rv:Value) (u uu:Nat) (hv bv nv:Value) (gl:List (List Sym)) (g:Value) (rl:List (List Sym)) (r:Value) (ys:List Value) (wr:World):Prop where
 ext:Ext w wr
 nb:NB wr w.heap.size gv vv rv u
 cb:wr.heap[w.heap.size+1]?=some (.cells #[hv,bv,nv] 55 (0,0))
 res:NB wr (w.heap.size+2) (.slice none 0 0) (.slice none 0 0) (.slice none 0 0) 0
 box:NB wr (w.heap.size+3) g vv r uu
 goals:TermsIn wr g gl
 low:∀ j,g.ownBlock=some j→j<B
 b1:w.heap.size≤B
 b2:B≤wr.heap.size
 row:TermsAt wr B r rl ys
theorem WBr.on {w wr w1:World} {B:Nat} {gv vv rv hv bv nv g r:Value} {u uu:Nat} {gl rl:List (List Sym)} {ys:List Value} (h:WBr w B gv vv rv u uu hv bv nv gl g rl r ys wr) (e:Ext wr w1):WBr w B gv vv rv u uu hv bv nv gl g rl r ys w1:=by
 obtain ⟨h1,h2,h3,h4,h5,h6,h7,h8,h9,h10⟩:=h
 exact ⟨h1.trans (e.mono h1.size),(e.block _ (Zab h2)).trans h2,(e.block _ (Zab h3)).trans h3,(e.block _ (Zab h4)).trans h4,(e.block _ (Zab h5)).trans h5,h6.ext e,h7,h8,Qq h9 e.size,h10.ext e⟩
theorem WBr.app {w w1 w2:World} {B n:Nat} {gv vv rv hv bv nv g r r2 x:Value} {u uu:Nat} {gl rl:List (List Sym)} {l:List Sym} {ys:List Value} (h:WBr w B gv vv rv u uu hv bv nv gl g rl r ys w1) (hn:rl.length=n) (hx:WordAt w1 x l) (hap:Appended w1 B 52 1 r (n+1) (ys++[x]) r2 w2) :
  WBr w B gv vv rv u uu hv bv nv gl g (rl++[l]) r2 (ys++[x]) (w2.setCell ⟨w.heap.size+3,2,none⟩ r2):=by
 obtain ⟨h1,h2,h3,h4,h5,h6,h7,h8,h9,h10⟩:=h
 have b2:=(hap.kept.block _ (Zab h2) (Zaf h10.owns (by decide) h2)).trans h2
 have b3:=(hap.kept.block _ (Zab h3) (Zaf h10.owns (by decide) h3)).trans h3
 have b4:=(hap.kept.block _ (Zab h4) (Zaf h10.owns (by decide) h4)).trans h4
 have b5:=(hap.kept.block _ (Zab h5) (Zaf h10.owns (by decide) h5)).trans h5
 have hK:Kept (fun j=>j=w.heap.size+3) w2 (w2.setCell ⟨w.heap.size+3,2,none⟩ r2):=(Qx (only (w.heap.size+3)) w2).put 2 _
 have hsz:=hap.kept.size
 exact ⟨(h1.trans (hap.kept.below h1.size (fun j hj=>Qq h8 (h10.owns.lt j hj).1))).setCell (p:=⟨w.heap.size+3,2,none⟩) (by simp) _,(hK.block _ (Zab b2) (by simp)).trans b2,(hK.block _ (Zab b3) (by simp)).trans b3,(hK.block _ (Zab b4) (by simp)).trans b4,Zah b5 2 _,
  (h6.aside h7 h10.owns hap.kept).box b5 (by decide) (by decide) hK,h7,h8,by simp; omega,(h10.snoc (by rw [hn]; exact hap) hx).box b5 (by decide) (by decide) hK⟩
def LayApp (w0:World) (B:Nat) (x gv:Value) (n:Nat) (xs:List Value) (F:Value→World→Prop):List Value→World→Prop
 | [],u=>u=w0
 | [y],u=>y = .slice (some ⟨w0.heap.size,0,none⟩) 1 1∧u=w0.alloc (.cells #[x] 52)
 | [_,z],u=>Appended w0 B 52 1 gv (n+1) (xs++[x]) z u
 | [_,z,_],u=>F z u
 | _,_=>False
theorem LayApp.ext {w0:World} {B:Nat} {x gv:Value} {n:Nat} {xs:List Value} {F:Value→World→Prop}:∀ {vs:List Value} {u:World},LayApp w0 B x gv n xs F vs u→vs.length≤1→Ext w0 u
 | [],u,h,_=>by obtain rfl:u=w0:=h; exact Below.refl _ _
 | [y],u,h,_=>by
  obtain ⟨_,rfl⟩:=h
  exact (Below.refl _ _).alloc (Qe _) _
 | _::_::_,_,_,h=>by simp at h
def Yaj (gl vl rl:List (List Sym)) (vv:Value) (uu:Nat) (w:World) (e:Ending) (w':World):Prop:=Ext w w'∧∃ g1 gc r1 rc,e = .returned (.agg #[.slice g1 gl.length gc,vv,.slice r1 rl.length rc,.int .i64 uu])∧TermsIn w' (.slice g1 gl.length gc) gl∧TermsIn w' (.slice r1 rl.length rc) rl
theorem Zog (w:World) (gv vv rv hv bv nv:Value) (g0:List Sym) (gs vl rl body:List (List Sym)) (ns:Names) (u:Nat) (h1:TermsIn w gv (g0::gs)) (h2:TermsIn w vv vl) (h3:TermsIn w rv rl) (hh:∃ a n x,hv = .slice a n x) (hb:TermsIn w bv body) (hns:w.ownsRow 0 9 1 nv ns.length (strs ns))
  (hgl:(g0::gs).length≤1000) (hrl:rl.length≤1000) (hbl:body.length≤1000) (hnl:ns.length≤4000) (hu:u≤190000) (hbo:∀ l ∈ body,TmOk l) :
  Calls Tryd.prog 47 #[.agg #[gv,vv,rv,.int .i64 u],.agg #[hv,bv,nv]] w (Yaj (body.map (fun l=>l.map (rn u))++gs) vl (rl++[g0]) vv (u+ns.length) w):=by
 obtain ⟨ha,hn1,hc1,rfl⟩:=hh
 obtain ⟨gus,h1⟩:=h1
 obtain ⟨rus,h3⟩:=h3
 obtain ⟨bus,hb⟩:=hb
 obtain ⟨va,vcap,rfl⟩:=h2.shape
 obtain ⟨ga,gcap,rfl⟩:=Zad h1.owns
 obtain ⟨ra,rcap,rfl⟩:=Zad h3.owns
 obtain ⟨ba,bcap,rfl⟩:=Zad hb.owns
 obtain ⟨na,ncap,rfl⟩:=Zad hns
 obtain ⟨GL,hGL⟩:∃ G,G=g0::gs:=⟨_,rfl⟩
 rw [← hGL] at h1 hgl ⊢
 have hGpos:0<GL.length:=by rw [hGL]; simp
 have H1:=Zac h1
 have H3:=Zac h3
 have Hb:=Zac hb
 have Hbo:=Zac hbo
 have HGL:=Zac hGL
 clear h1 h2 h3 hb hns hbo hGL
 obtain ⟨uu,huu⟩:∃ n,n=u+ns.length:=⟨_,rfl⟩
 have HI:Hid ((u:Int)+(ns.length:Int)=(uu:Int)):=by show _=_; omega
 have huu2:uu≤200000:=by omega
 obtain ⟨bl',hbl'⟩:∃ L,L=body.map (fun l=>l.map (rn u)):=⟨_,rfl⟩
 rw [← huu,← hbl']
 have hbn:bl'.length=body.length:=by rw [hbl']; simp
 have Hbl:=Zac hbl'
 clear huu hbl'
 go_enter Tryd.func47,Tryd.ntmps47
 go_wp2
 rw [HI.out]
 go_loopg [24] (body.length+1) (fun gk iv wr=>∃ (k:Nat) (g:Value) (xs:List Value),iv = .int .i64 k∧k≤body.length∧body.length - k<gk∧WBg w (.slice ga GL.length gcap) (.slice va vl.length vcap) (.slice ra rl.length rcap) u uu (.slice ha hn1 hc1) (.slice ba body.length bcap) (.slice na ns.length ncap) ((body.take k).map (fun l=>l.map (rn u))) g xs wr)
 case atStart=>exact ⟨0,.slice none 0 0,[],by go_num,Qm _,by omega,(Ext.of (by repeat' (first | with_reducible(first|exact Qx _ _|apply Kept.drew|apply Kept.drewN|apply Qz|refine Qy ?_ ?_ _)|exact fun h=>absurd h (by simp <;> omega)))),Zap (Zap (Zap (heap_alloc_new w _) _) _) _,Zap (Zap (Zeu (by simp) _) _) _,Zap (Zeu (by simp) _) _,Zeu (by simp) _,TermsAt.nil _ _⟩
 case round =>
  obtain ⟨k,g,xs,rfl,hk,hgk,hA⟩:=hrel
  have hlk:((body.take k).map (fun l=>l.map (rn u))).length=k:=by simp; omega
  have hrow:=hA.row.owns
  rw [hlk] at hrow
  obtain ⟨ra1,rcap1,rfl⟩:=Zad hrow
  have hsr:=hA.ext.size
  have m3:wr.cell? ⟨w.heap.size,3,none⟩=some (.int .i64 u):=Zaa hA.nb 3 _ rfl
  have m0:wr.cell? ⟨w.heap.size,0,none⟩=some (.slice ga GL.length gcap):=Zaa hA.nb 0 _ rfl
  have m2:wr.cell? ⟨w.heap.size,2,none⟩=some (.slice ra rl.length rcap):=Zaa hA.nb 2 _ rfl
  have n0:wr.cell? ⟨w.heap.size+3,0,none⟩=some (.slice ra1 k rcap1):=Zaa hA.box 0 _ rfl
  have ml:=Zab hA.nb
  have nl:=Zab hA.box
  have HA:=Zac hA
  clear hA hrow hlk
  by_cases hlt:k<body.length
  ·obtain ⟨l,hs⟩:∃ l,body[k]?=some l:=⟨_,Qb hlt⟩
   obtain ⟨x,hx,hxo⟩:=Hb.out.all _ l hs
   obtain ⟨xa,xcap,rfl⟩:=Zad hxo
   obtain ⟨bb,cap',cur,he,_,hgb,_⟩:=Zat Hb.out.owns (by omega)
   simp only [Value.slice.injEq] at he
   obtain ⟨rfl,_,rfl⟩:=he
   have hgw:=Zab hgb
   have hgr:bb<wr.heap.size:=by omega
   have x0:wr.cell? ⟨bb,k,none⟩=some (.slice xa l.length xcap):=(HA.out.ext.cell (p:=⟨bb,k,none⟩) hgw).trans (Zai Hb.out.owns _ _ hx)
   obtain ⟨_,o2,o3⟩:=Hbo.out l (Qh hs)
   have HR:=Zac (Zga wr.drew (.slice xa l.length xcap) l u (WordAt.ext hxo (HA.out.ext.trans ⟨rfl,rfl,rfl,Qe _,fun _ _=>rfl⟩)) o2 o3 (by omega))
   have hnx:(body.take (k+1)).map (fun l=>l.map (rn u))=(body.take k).map (fun l=>l.map (rn u))++[l.map (rn u)]:=by rw [List.take_add_one,hs]; simp
   have Hnx:=Zac hnx
   clear hs hx hxo hgb o2 o3 hnx
   go_wp2_with fail
   have HA':=HA.out.on (w1:=wr.drew) ⟨rfl,rfl,rfl,Qe _,fun _ _=>rfl⟩
   have hlk:((body.take k).map (fun l=>l.map (rn u))).length=k:=by simp; omega
   refine Zfg (by kernel_rfl) [.rd 0 3 (fun _ => .pointer (some ⟨w.heap.size+3,0,none⟩)),.rd 0 2 (fun _ => .slice ra1 k rcap1),.rd 0 3 (fun _ => .slice xa l.length xcap),.rd 0 3 (fun _ => .pointer (some ⟨w.heap.size,3,none⟩)),.rd 0 2 (fun _ => .int .i64 u),.st 0,.st 1,.st 2,.rd 0 3 (fun _ => .pointer (some ⟨w.heap.size+3,0,none⟩)),.st 3] 4 7 (by kernel_rfl)
    (CallApp wr.drew w.heap.size (l.map (rn u)) (.slice ra1 k rcap1) k xs (fun z y=>∃ xs',WBg w (.slice ga GL.length gcap) (.slice va vl.length vcap) (.slice ra rl.length rcap) u uu (.slice ha hn1 hc1) (.slice (some ⟨bb,0,none⟩) body.length bcap) (.slice na ns.length ncap) ((body.take (k+1)).map (fun l=>l.map (rn u))) z xs' y)) rfl ?_ ?_
   ·refine ⟨⟨trivial,fun vs y _ hl hS => ?_⟩,⟨trivial,fun vs y _ hl hS => ?_⟩,⟨trivial,fun vs y _ hl hS => ?_⟩,⟨trivial,fun vs y _ hl hS => ?_⟩,⟨trivial,fun vs y _ hl hS => ?_⟩,⟨trivial,fun vs y hl hS => ?_⟩,⟨trivial,fun vs y hl hS => ?_⟩,⟨trivial,fun vs y hl hS => ?_⟩,⟨trivial,fun vs y _ hl hS => ?_⟩,⟨trivial,fun vs y hl hS => ?_⟩,trivial⟩
    ·simp [phAll,phA,pa,Ph.kd,Ph.val,Kd.val,go_sem]
    ·have t1:y.cell? ⟨w.heap.size+3,0,none⟩=some (.slice ra1 k rcap1):=((hS.ext hl).cell (p:=⟨w.heap.size+3,0,none⟩) nl).trans n0
     simp [phAll,phA,pa,Ph.kd,Ph.val,Kd.val,go_sem,t1]
    ·simp [phAll,phA,pa,Ph.kd,Ph.val,Kd.val,go_sem]
    ·simp [phAll,phA,pa,Ph.kd,Ph.val,Kd.val,go_sem]
    ·have t1:y.cell? ⟨w.heap.size,3,none⟩=some (.int .i64 u):=((hS.ext hl).cell (p:=⟨w.heap.size,3,none⟩) ml).trans m3
     simp [phAll,phA,pa,Ph.kd,Ph.val,Kd.val,go_sem,t1]
    ·obtain rfl:=List.length_eq_zero_iff.1 hl
     have hy:y=wr.drew:=hS
     subst hy
     refine .call 35 #[.slice xa l.length xcap,.int .i64 u] _ (by simp [phAll,phA,pa,Ph.kd,Ph.val,Kd.val,go_sem]) (HR.out.mono ?_)
     rintro e y ⟨v,B,rfl,h⟩
     exact ⟨v,rfl,v,B,rfl,h⟩
    ·obtain ⟨x,rfl⟩:=List.length_eq_one_iff.1 hl
     have hS1:=hS
     obtain ⟨x',B',he,hB,hr,hE⟩:=hS1
     simp only [Ending.returned.injEq] at he
     subst he
     obtain ⟨xa1,xc1,rfl⟩:=Zad hr
     exact .value (.slice (some ⟨y.heap.size,0,none⟩) 1 1) (y.alloc (.cells #[.slice xa1 (l.map (rn u)).length xc1] 52)) (by simp [phAll,phA,pa,Ph.kd,Ph.val,Kd.val,go_sem]) ⟨y,hS,rfl,rfl⟩
    ·obtain ⟨x,x2,rfl⟩:∃ x y,vs=[x,y]:=by
      match vs,hl with
      | [x,y],_=>exact ⟨x,y,rfl⟩
     obtain ⟨u1,hW,rfl,rfl⟩:=hS
     have hW1:=hW
     obtain ⟨x',B',he,hB,hr,hE⟩:=hW1
     simp only [Ending.returned.injEq] at he
     subst he
     obtain ⟨xa1,xc1,rfl⟩:=Zad hr
     have hrow:u1.ownsRow w.heap.size 52 1 (.slice ra1 k rcap1) k xs:=by
      have:=(HA'.on hE).row.owns
      rw [hlk] at this
      exact this
     have hsz:=hE.size
     obtain ⟨z,w',hrun,hap⟩:=Zfi (P:=Tryd.prog) u1 53 53 w.heap.size 52 Tryd.infoSyms Tryd.underlying53 rfl (by decide) (.slice ra1 k rcap1) k xs hrow #[.slice xa1 (l.map (rn u)).length xc1] rfl (Zcx _ _ _) (by omega) (Qq hsr hsz)
     refine .value z w' (Zfz (.tmp 29) (.tmp 34) 53 rfl (by simp [phAll,phA,pa,Ph.kd,Ph.val,Kd.val,go_sem]) (by simp [phAll,phA,pa,Ph.kd,Ph.val,Kd.val,go_sem]) hrun) ⟨u1,hW,by simpa using hap⟩
    ·simp [phAll,phA,pa,Ph.kd,Ph.val,Kd.val,go_sem]
    ·obtain ⟨x,x2,z,rfl⟩:∃ x y z,vs=[x,y,z]:=by
      match vs,hl with
      | [x,y,z],_=>exact ⟨x,y,z,rfl⟩
     obtain ⟨u1,hW,hap⟩:=hS
     obtain ⟨x',B',he,hB,hr,hE⟩:=hW
     simp only [Ending.returned.injEq] at he
     subst he
     obtain ⟨za,zc,rfl⟩:=Zad hap.owns
     have hA2:=(HA'.on hE).app hlk (Zbc hr (Qm _)) hap
     rw [← Hnx.out] at hA2
     have h4:=(HA'.on hE).box
     have b4:=(hap.kept.block _ (Zab h4) (Zaf (HA'.on hE).row.owns (by decide) h4)).trans h4
     have c4:=Zaa b4 0 _ rfl
     have f4:=Zae b4 0
     exact .skip _ (by simp [phAll,phA,pa,Ph.kd,Ph.val,Kd.val,go_sem,c4,f4]) ⟨_,hA2⟩
   ·rintro vs y hl hS
    obtain ⟨x,x2,z,x3,rfl⟩:∃ x y z y',vs=[x,y,z,y']:=by
     match vs,hl with
     | [x,y,z,y'],_=>exact ⟨x,y,z,y',rfl⟩
    obtain ⟨xs',hA2⟩:=hS
    simp only [phAll,phA,paAll,pa,Ph.kd,Ph.val,Kd.val,List.map_cons,List.map_nil,if_true,Act.put,List.setIfInBounds_toArray,List.set_cons_succ,List.set_cons_zero]
    have HA2:=Zac hA2
    clear hA2
    go_wp2
    go_roundg (body.length - k)
    case measure=>omega
    case rel=>exact ⟨k+1,_,xs',by go_num,by omega,by omega,HA2.out⟩
  ·have hek:k=body.length:=by omega
   subst hek
   have HA1:Hid (WBg w (.slice ga GL.length gcap) (.slice va vl.length vcap) (.slice ra rl.length rcap) u uu (.slice ha hn1 hc1) (.slice ba body.length bcap) (.slice na ns.length ncap) (bl'++(GL.take 0).drop 1) (.slice ra1 body.length rcap1) xs wr):=by
    have:=HA.out
    rw [List.take_length,← Hbl.out] at this
    show WBg _ _ _ _ _ _ _ _ _ _ _ _ _
    simpa using this
   obtain ⟨wo,hwo⟩:∃ x,x=wr:=⟨_,rfl⟩
   subst hwo
   clear HA
   go_wp2
   go_loopg [41] (GL.length+1) (fun gk iv wr=>∃ (k:Nat) (g:Value) (xs:List Value),iv = .int .i64 k∧k≤GL.length∧GL.length - k<gk∧WBg w (.slice ga GL.length gcap) (.slice va vl.length vcap) (.slice ra rl.length rcap) u uu (.slice ha hn1 hc1) (.slice ba body.length bcap) (.slice na ns.length ncap) (bl'++(GL.take k).drop 1) g xs wr)
   case atStart=>exact ⟨0,_,xs,by go_num,Qm _,by omega,HA1.out⟩
   case round =>
    clear m0 m2 m3 n0 ml nl HA1
    obtain ⟨k,g,xs,rfl,hk,hgk,hA⟩:=hrel
    obtain ⟨N,hN⟩:∃ N,N=(bl'++(GL.take k).drop 1).length:=⟨_,rfl⟩
    have hN2:N≤4000:=by rw [hN]; simp; omega
    have hrow:=hA.row.owns
    rw [← hN] at hrow
    obtain ⟨ra1,rcap1,rfl⟩:=Zad hrow
    have hsr:=hA.ext.size
    have m0:wr.cell? ⟨w.heap.size,0,none⟩=some (.slice ga GL.length gcap):=Zaa hA.nb 0 _ rfl
    have m2:wr.cell? ⟨w.heap.size,2,none⟩=some (.slice ra rl.length rcap):=Zaa hA.nb 2 _ rfl
    have n0:wr.cell? ⟨w.heap.size+3,0,none⟩=some (.slice ra1 N rcap1):=Zaa hA.box 0 _ rfl
    have nf:=fun i=>Zae hA.box i
    have ml:=Zab hA.nb
    have nl:=Zab hA.box
    have HA:=Zac hA
    have Hrow:=Zac hrow
    have HN:=Zac hN
    clear hA hrow hN
    by_cases hlt:k<GL.length
    ·obtain ⟨l,hs⟩:∃ l,GL[k]?=some l:=⟨_,Qb hlt⟩
     obtain ⟨x,hx,hxo⟩:=H1.out.all _ l hs
     obtain ⟨xa,xcap,rfl⟩:=Zad hxo
     obtain ⟨gg,cap',cur,he,_,hgb,_⟩:=Zat H1.out.owns (by omega)
     simp only [Value.slice.injEq] at he
     obtain ⟨rfl,_,rfl⟩:=he
     have hgw:=Zab hgb
     have hgr:gg<wr.heap.size:=by omega
     have x0:wr.cell? ⟨gg,k,none⟩=some (.slice xa l.length xcap):=(HA.out.ext.cell (p:=⟨gg,k,none⟩) hgw).trans (Zai H1.out.owns _ _ hx)
     have Hxo:Hid (WordAt wr (.slice xa l.length xcap) l):=WordAt.ext hxo HA.out.ext
     have Hs:=Zac hs
     clear hs hx hxo hgb
     by_cases hk0:k=0
     ·subst hk0
      go_wp2
      go_roundg (GL.length - 0)
      case measure=>omega
      case rel =>
       refine ⟨1,.slice ra1 N rcap1,xs,by go_num,by omega,by omega,?_⟩
       have:=HA.out
       simpa using this
     ·have hk1:(0:Int)<(k:Int):=by omega
      go_wp2_with (at_builtin; go_loud (refine Zam wr rfl (.tmp 49) (.tmp 51) 53 rfl w.heap.size 52 Tryd.infoSyms Tryd.underlying53 rfl (by decide) (.slice ra1 N rcap1) N xs rfl Hrow.out #[.slice xa l.length xcap] (N:=wr.heap.size) rfl (by simp) rfl (Zcx _ _ _) ?_ ?_ ?_))
      ·omega
      ·omega
      intro v3 w2 hap
      obtain ⟨a3,c3,rfl⟩:=Zad hap.owns
      have hA2:=HA.out.app HN.out.symm Hxo.out hap
      have hnx:(bl'++(GL.take k).drop 1)++[l]=bl'++(GL.take (k+1)).drop 1:=by
       rw [List.take_add_one,Hs.out,Qi]
       congr 1
       rw [List.drop_append_of_le_length (by simp; omega)]
       rfl
      rw [hnx] at hA2
      have b4:=(hap.kept.block _ (Zab HA.out.box) (Zaf Hrow.out (by decide) HA.out.box)).trans HA.out.box
      have m1:=Zaa b4 0 _ rfl
      have mf:=fun i=>Zae b4 i
      have mll:=Zab b4
      have HA2:=Zac hA2
      clear hap hA2 b4 hnx
      go_wp2
      go_roundg (GL.length - k)
      case measure=>omega
      case rel=>exact ⟨k+1,_,_,by go_num,by omega,by omega,HA2.out⟩
    ·have hek:k=GL.length:=by omega
     subst hek
     obtain ⟨FL,hFL⟩:∃ L,L=bl'++GL.drop 1:=⟨_,rfl⟩
     have hFN:FL.length=N:=by rw [hFL,HN.out,List.take_length]
     have hWr:WBr w wr.heap.size (.slice ga GL.length gcap) (.slice va vl.length vcap) (.slice ra rl.length rcap) u uu (.slice ha hn1 hc1) (.slice ba body.length bcap) (.slice na ns.length ncap) FL (.slice ra1 N rcap1) (rl.take 0) (.slice none 0 0) [] wr:=by
      obtain ⟨h1,h2,h3,h4,h5,h6⟩:=HA.out
      rw [List.take_length,← hFL] at h6
      exact ⟨h1,h2,h3,h4,h5,h6.inn,fun j hj=>(h6.owns.lt j hj).2,h1.size,Qe _,TermsAt.nil _ _⟩
     have HW:=Zac hWr
     have HFL:=Zac hFL
     have HFN:=Zac hFN
     obtain ⟨wp,hwp⟩:∃ x,x=wr:=⟨_,rfl⟩
     subst hwp
     clear HA hWr hFL hFN Hrow HN
     go_wp2
     go_loopg [58] (rl.length+1) (fun gk iv wr=>∃ (k:Nat) (r:Value) (ys:List Value),iv = .int .i64 k∧k≤rl.length∧rl.length - k<gk∧WBr w wp.heap.size (.slice ga GL.length gcap) (.slice va vl.length vcap) (.slice ra rl.length rcap) u uu (.slice ha hn1 hc1) (.slice ba body.length bcap) (.slice na ns.length ncap) FL (.slice ra1 N rcap1) (rl.take k) r ys wr)
     case atStart=>exact ⟨0,_,[],by go_num,Qm _,by omega,HW.out⟩
     case round =>
      clear m0 m2 n0 nf ml nl HW
      obtain ⟨k,r,ys,rfl,hk,hgk,hA⟩:=hrel
      have hlk:(rl.take k).length=k:=by simp; omega
      have hrow:=hA.row.owns
      rw [hlk] at hrow
      obtain ⟨sa,scap,rfl⟩:=Zad hrow
      have hsr:=hA.ext.size
      have hb2:=hA.b2
      have m0:wr.cell? ⟨w.heap.size,0,none⟩=some (.slice ga GL.length gcap):=Zaa hA.nb 0 _ rfl
      have m2:wr.cell? ⟨w.heap.size,2,none⟩=some (.slice ra rl.length rcap):=Zaa hA.nb 2 _ rfl
      have n2:wr.cell? ⟨w.heap.size+3,2,none⟩=some (.slice sa k scap):=Zaa hA.box 2 _ rfl
      have nf:=fun i=>Zae hA.box i
      have ml:=Zab hA.nb
      have nl:=Zab hA.box
      have HA:=Zac hA
      have Hrow:=Zac hrow
      clear hA hrow hlk
      by_cases hlt:k<rl.length
      ·obtain ⟨l,hs⟩:∃ l,rl[k]?=some l:=⟨_,Qb hlt⟩
       obtain ⟨x,hx,hxo⟩:=H3.out.all _ l hs
       obtain ⟨xa,xcap,rfl⟩:=Zad hxo
       obtain ⟨rr,cap',cur,he,_,hgb,_⟩:=Zat H3.out.owns (by omega)
       simp only [Value.slice.injEq] at he
       obtain ⟨rfl,_,rfl⟩:=he
       have hgw:=Zab hgb
       have hgr:rr<wr.heap.size:=by omega
       have x0:wr.cell? ⟨rr,k,none⟩=some (.slice xa l.length xcap):=(HA.out.ext.cell (p:=⟨rr,k,none⟩) hgw).trans (Zai H3.out.owns _ _ hx)
       have Hxo:Hid (WordAt wr (.slice xa l.length xcap) l):=WordAt.ext hxo HA.out.ext
       have Hs:=Zac hs
       clear hs hx hxo hgb
       go_wp2_with (at_builtin; go_loud (refine Zam wr rfl (.tmp 63) (.tmp 65) 53 rfl wp.heap.size 52 Tryd.infoSyms Tryd.underlying53 rfl (by decide) (.slice sa k scap) k ys rfl Hrow.out #[.slice xa l.length xcap] (N:=wr.heap.size) rfl (by simp) rfl (Zcx _ _ _) ?_ ?_ ?_))
       ·omega
       ·omega
       intro v3 w2 hap
       obtain ⟨a3,c3,rfl⟩:=Zad hap.owns
       have hA2:=HA.out.app (by simp; omega) Hxo.out hap
       have hnx:rl.take k++[l]=rl.take (k+1):=by rw [List.take_add_one,Hs.out]; rfl
       rw [hnx] at hA2
       have b4:=(hap.kept.block _ (Zab HA.out.box) (Zaf Hrow.out (by decide) HA.out.box)).trans HA.out.box
       have m1:=Zaa b4 2 _ rfl
       have mf:=fun i=>Zae b4 i
       have mll:=Zab b4
       have HA2:=Zac hA2
       clear hap hA2 b4 hnx
       go_wp2
       go_roundg (rl.length - k)
       case measure=>omega
       case rel=>exact ⟨k+1,_,_,by go_num,by omega,by omega,HA2.out⟩
      ·have hek:k=rl.length:=by omega
       subst hek
       obtain ⟨x,hx,hxo⟩:=H1.out.all 0 g0 (by rw [HGL.out]; rfl)
       obtain ⟨xa,xcap,rfl⟩:=Zad hxo
       obtain ⟨gg,cap',cur,he,_,hgb,_⟩:=Zat H1.out.owns (by omega)
       simp only [Value.slice.injEq] at he
       obtain ⟨rfl,_,rfl⟩:=he
       have hgw:=Zab hgb
       have hgr:gg<wr.heap.size:=by omega
       have x0:wr.cell? ⟨gg,0,none⟩=some (.slice xa g0.length xcap):=(HA.out.ext.cell (p:=⟨gg,0,none⟩) hgw).trans (Zai H1.out.owns _ _ hx)
       have Hxo:Hid (WordAt wr.drew (.slice xa g0.length xcap) g0):=WordAt.ext hxo (HA.out.ext.trans ⟨rfl,rfl,rfl,Qe _,fun _ _=>rfl⟩)
       have hGi:(0:Int)<(GL.length:Int):=by omega
       clear hx hxo hgb
       have HA':=Zac (HA.out.on (w1:=wr.drew) ⟨rfl,rfl,rfl,Qe _,fun _ _=>rfl⟩)
       rw [List.take_length] at HA'
       go_wp2_with fail
       refine Zfg (by kernel_rfl) [.rd 0 2 (fun _ => .pointer (some ⟨w.heap.size+3,2,none⟩)),.rd 0 1 (fun _ => .slice sa rl.length scap),.rd 0 0 (fun _ => .pointer (some ⟨w.heap.size,0,none⟩)),.rd 0 0 (fun _ => .slice (some ⟨gg,0,none⟩) GL.length gcap),.rd 0 0 (fun _ => .pointer (some ⟨gg,0,none⟩)),.rd 0 0 (fun _ => .slice xa g0.length xcap),.st 0,.st 1,.rd 0 2 (fun _ => .pointer (some ⟨w.heap.size+3,2,none⟩)),.st 2] 3 7 (by kernel_rfl)
        (LayApp wr.drew wp.heap.size (.slice xa g0.length xcap) (.slice sa rl.length scap) rl.length ys (fun z y=>∃ ys',WBr w wp.heap.size (.slice (some ⟨gg,0,none⟩) GL.length gcap) (.slice va vl.length vcap) (.slice ra rl.length rcap) u uu (.slice ha hn1 hc1) (.slice ba body.length bcap) (.slice na ns.length ncap) FL (.slice ra1 N rcap1) (rl++[g0]) z ys' y)) rfl ?_ ?_
       ·refine ⟨⟨trivial,fun vs y _ hl hS => ?_⟩,⟨trivial,fun vs y _ hl hS => ?_⟩,⟨trivial,fun vs y _ hl hS => ?_⟩,⟨trivial,fun vs y _ hl hS => ?_⟩,⟨trivial,fun vs y _ hl hS => ?_⟩,⟨trivial,fun vs y _ hl hS => ?_⟩,⟨trivial,fun vs y hl hS => ?_⟩,⟨trivial,fun vs y hl hS => ?_⟩,⟨trivial,fun vs y _ hl hS => ?_⟩,⟨trivial,fun vs y hl hS => ?_⟩,trivial⟩
        ·simp [phAll,phA,pa,Ph.kd,Ph.val,Kd.val,go_sem]
        ·have t1:y.cell? ⟨w.heap.size+3,2,none⟩=some (.slice sa rl.length scap):=((hS.ext hl).cell (p:=⟨w.heap.size+3,2,none⟩) nl).trans n2
         simp [phAll,phA,pa,Ph.kd,Ph.val,Kd.val,go_sem,t1]
        ·simp [phAll,phA,pa,Ph.kd,Ph.val,Kd.val,go_sem]
        ·have t1:y.cell? ⟨w.heap.size,0,none⟩=some (.slice (some ⟨gg,0,none⟩) GL.length gcap):=((hS.ext (by omega)).cell (p:=⟨w.heap.size,0,none⟩) ml).trans m0
         simp [phAll,phA,pa,Ph.kd,Ph.val,Kd.val,go_sem,t1]
        ·simp [phAll,phA,pa,Ph.kd,Ph.val,Kd.val,go_sem,hGpos]
        ·have t1:y.cell? ⟨gg,0,none⟩=some (.slice xa g0.length xcap):=((hS.ext (by omega)).cell (p:=⟨gg,0,none⟩) hgr).trans x0
         simp [phAll,phA,pa,Ph.kd,Ph.val,Kd.val,go_sem,t1]
        ·obtain rfl:=List.length_eq_zero_iff.1 hl
         have hy:y=wr.drew:=hS
         subst hy
         exact .value (.slice (some ⟨wr.drew.heap.size,0,none⟩) 1 1) (wr.drew.alloc (.cells #[.slice xa g0.length xcap] 52)) (by simp [phAll,phA,pa,Ph.kd,Ph.val,Kd.val,go_sem]) ⟨rfl,rfl⟩
        ·obtain ⟨x,rfl⟩:=List.length_eq_one_iff.1 hl
         obtain ⟨rfl,rfl⟩:=hS
         have hrow:wr.drew.ownsRow wp.heap.size 52 1 (.slice sa rl.length scap) rl.length ys:=HA'.out.row.owns
         obtain ⟨z,w',hrun,hap⟩:=Zfi (P:=Tryd.prog) wr.drew 53 53 wp.heap.size 52 Tryd.infoSyms Tryd.underlying53 rfl (by decide) (.slice sa rl.length scap) rl.length ys hrow #[.slice xa g0.length xcap] rfl (Zcx _ _ _) (by omega) HA'.out.b2
         exact .value z w' (Zfz (.tmp 74) (.tmp 79) 53 rfl (by simp [phAll,phA,pa,Ph.kd,Ph.val,Kd.val,go_sem]) (by simp [phAll,phA,pa,Ph.kd,Ph.val,Kd.val,go_sem]) hrun) (by simpa [LayApp] using hap)
        ·simp [phAll,phA,pa,Ph.kd,Ph.val,Kd.val,go_sem]
        ·obtain ⟨x,z,rfl⟩:∃ x y,vs=[x,y]:=by
          match vs,hl with
          | [x,y],_=>exact ⟨x,y,rfl⟩
         have hap:Appended _ _ _ _ _ _ _ z y:=hS
         obtain ⟨za,zc,rfl⟩:=Zad hap.owns
         have hA2:=HA'.out.app rfl Hxo.out hap
         have h4:=HA'.out.box
         have b4:=(hap.kept.block _ (Zab h4) (Zaf HA'.out.row.owns (by decide) h4)).trans h4
         have c4:=Zaa b4 2 _ rfl
         have f4:=Zae b4 2
         exact .skip _ (by simp [phAll,phA,pa,Ph.kd,Ph.val,Kd.val,go_sem,c4,f4]) ⟨_,hA2⟩
       ·rintro vs y hl hS
        obtain ⟨x,z,x3,rfl⟩:∃ x y z,vs=[x,y,z]:=by
         match vs,hl with
         | [x,y,z],_=>exact ⟨x,y,z,rfl⟩
        obtain ⟨ys',hA2⟩:=hS
        have hrow:=hA2.row.owns
        obtain ⟨ta,tcap,rfl⟩:=Zad hrow
        simp only [phAll,phA,paAll,pa,Ph.kd,Ph.val,Kd.val,List.map_cons,List.map_nil,if_true,Act.put,List.setIfInBounds_toArray,List.set_cons_succ,List.set_cons_zero]
        have q0:=Zaa hA2.box 0 _ rfl
        have q1:=Zaa hA2.box 1 _ rfl
        have q2:=Zaa hA2.box 2 _ rfl
        have q3:=Zaa hA2.box 3 _ rfl
        have ql:=Zab hA2.box
        have r0:=Zaa hA2.res 0 _ rfl
        have r1:=Zaa hA2.res 1 _ rfl
        have r2:=Zaa hA2.res 2 _ rfl
        have r3:=Zaa hA2.res 3 _ rfl
        have rf:=fun i=>Zae hA2.res i
        have rll:=Zab hA2.res
        have HA2:=Zac hA2
        clear hA2 hrow HA' HA
        go_wp2
        refine bodyPost_ret (v := .agg #[.slice ra1 N rcap1,.slice va vl.length vcap,.slice ta (rl++[g0]).length tcap,.int .i64 uu]) (by simp [results,Tryd.results47,go_sem,r0,r1,r2,r3,rf,rll]) rfl ?_
        have hK2:∀ x0 x1 x2 x3,Kept (fun j=>j=w.heap.size+2) y ((((y.setCell ⟨w.heap.size+2,0,none⟩ x0).setCell ⟨w.heap.size+2,1,none⟩ x1).setCell ⟨w.heap.size+2,2,none⟩ x2).setCell ⟨w.heap.size+2,3,none⟩ x3):=fun x0 x1 x2 x3=>((((Qx (only (w.heap.size+2)) y).put 0 _).put 1 _).put 2 _).put 3 _
        have hE:=(((HA2.out.ext.setCell (p:=⟨w.heap.size+2,0,none⟩) (by simp) (.slice ra1 N rcap1)).setCell (p:=⟨w.heap.size+2,1,none⟩) (by simp) (.slice va vl.length vcap)).setCell (p:=⟨w.heap.size+2,2,none⟩) (by simp) (.slice ta (rl++[g0]).length tcap)).setCell (p:=⟨w.heap.size+2,3,none⟩) (by simp) (.int .i64 uu)
        have hFL:FL=bl'++gs:=by rw [HFL.out,HGL.out]; rfl
        have hg:=HA2.out.goals.box HA2.out.res (by decide) (by decide) (hK2 (.slice ra1 N rcap1) (.slice va vl.length vcap) (.slice ta (rl++[g0]).length tcap) (.int .i64 uu))
        have hr:=HA2.out.row.inn.box HA2.out.res (by decide) (by decide) (hK2 (.slice ra1 N rcap1) (.slice va vl.length vcap) (.slice ta (rl++[g0]).length tcap) (.int .i64 uu))
        rw [← HFN.out] at hg hE hr ⊢
        rw [hFL] at hg hE hr ⊢
        rw [show rl.length+1=(rl++[g0]).length by simp]
        exact ⟨hE,_,_,_,_,rfl,hg,hr⟩
theorem Zkh {k V:Nat} {l:List Sym} (hw:Wf k l) (hl:l.length≤1000) (ho:∀ v,Occ v l→v<V) (hV:V≤200000):TmOk l :=
 ⟨⟨k,hw⟩,hl,fun s hs=>by
  obtain ⟨i,hi⟩:=List.mem_iff_getElem?.1 hs
  by_cases hn:s.name=[]
  ·have:=ho s.num ⟨s,hs,hn,rfl⟩
   omega
  ·rw [(Zhd hw hi).2 hn]; omega⟩
theorem TmOk.rn {l:List Sym} {v:Nat} {k:Nat} (hw:Wf k l) (hl:l.length≤1000) {V:Nat} (ho:∀ u,Occ u l→u<V) (hV:V+v≤200000):TmOk (l.map (YtlmjilpjmgjjcabDoor.rn v)):=by
 rw [← Ziy hw]
 have hlen:(ap (Zcp v) l).length=l.length:=by rw [Ziy hw]; simp
 exact Zkh (Zgs (Zlo v) hw) (by omega) (V:=V+v) (fun u hu=>by
  obtain ⟨x,hx,rfl⟩:=Zez hu
  have:=ho x hx
  omega) hV
def TryOut (n:ND) (c:Cls) (k:Nat) (w:World) (e:Ending) (w':World):Prop:=Ext w w'∧∃ g1 g2 g3 v1 v2 v3 r1 r2 r3,∃ uu q:Nat,e = .returned (.tuple #[.agg #[.slice g1 g2 g3,.slice v1 v2 v3,.slice r1 r2 r3,.int .i64 uu],.int .i64 q]) ∧
 ((q=0∧(n.goals=[]∨Out n c k 0 n))∨(q=2∧∃ ch,Out n c k 3 ch)∨(q=1∧∃ ch qq,(qq=1∨qq=2)∧Out n c k qq ch∧NodeNew w.heap.size w' (.slice g1 g2 g3) (.slice v1 v2 v3) (.slice r1 r2 r3) ch∧uu=ch.vars∧g2=ch.goals.length))
theorem Zfo (σ:Nat→List Sym) (n:ND) (c:Cls) (hc:COk c) (k:Nat) (g:List Sym × Nat) (gs:List (List Sym × Nat)):(Zas σ n c k g gs).goals.map (·.1)=((c.body.map (fun l=>l.map (rn n.vars))++gs.map (·.1))).map (ap σ):=by
 unfold Zas
 simp only
 rw [Zlq,Qr,List.map_map]
 congr 2
 refine List.map_congr_left (fun l hl => ?_)
 exact Ziy (hc.wfb l hl)
theorem Zik (σ:Nat→List Sym) (n:ND) (c:Cls) (k:Nat) (g:List Sym × Nat) (gs:List (List Sym × Nat)):(Zas σ n c k g gs).done.map (·.1)=(n.done.map (·.1)++[g.1]).map (ap σ):=by
 unfold Zas
 simp only
 rw [Zlq,Qr]
 rfl
theorem Zwm {n:ND} (hn:NOk n) {c:Cls} (hc:COk c) (k:Nat) {g:List Sym × Nat} {gs:List (List Sym × Nat)} (hg:n.goals=g::gs) {σ:Nat→List Sym} (h1:Mgu σ g.1 (ap (Zcp n.vars) c.head)) {l:List Sym} (hl:l ∈ (c.body.map (fun l=>l.map (rn n.vars))++gs.map (·.1))++(n.vals++(n.done.map (·.1)++[g.1]))) (hb:30<(ap σ l).length):Zdy (Zas σ n c k g gs)=3:=by
 refine Classical.byContradiction (fun hne => ?_)
 have hok:=Zlr hn hc k hg h1 hne
 have hle:(ap σ l).length≤30:=by
  rcases Qk.1 hl with hl | hl
  ·have:ap σ l ∈ (Zas σ n c k g gs).goals.map (·.1):=by rw [Zfo σ n c hc]; exact List.mem_map.2 ⟨l,hl,rfl⟩
   obtain ⟨x,hx,e⟩:=List.mem_map.1 this
   rw [← e]; exact (hok.gs x hx).1
  ·rcases Qk.1 hl with hl | hl
   ·exact hok.vsize (t:=ap σ l) (List.mem_map.2 ⟨l,hl,rfl⟩)
   ·have:ap σ l ∈ (Zas σ n c k g gs).done.map (·.1):=by rw [Zik]; exact List.mem_map.2 ⟨l,hl,rfl⟩
    obtain ⟨x,hx,e⟩:=List.mem_map.1 this
    rw [← e]; exact (hok.ds x hx).1
 omega
theorem Zti {n:ND} {c:Cls} (k:Nat) {g:List Sym × Nat} {gs:List (List Sym × Nat)} {σ:Nat→List Sym} (h:40<c.body.length+gs.length∨100<n.used.length+1):Zdy (Zas σ n c k g gs)=3:=by
 have:Zlp (Zas σ n c k g gs)=true:=by
  unfold Zlp Zas carr
  simp only [Bool.or_eq_true,decide_eq_true_eq,Ql,Qg,Qf,Jt]
  omega
 unfold Zdy
 rw [if_pos this]
theorem Zpq {n:ND} {c:Cls} (hc:COk c) (k:Nat) {g:List Sym × Nat} {gs:List (List Sym × Nat)} {σ:Nat→List Sym} (h1:¬ 40<c.body.length+gs.length) (h2:¬ 100<n.used.length+1) (h:∀ l ∈ (c.body.map (fun l=>l.map (rn n.vars))++gs.map (·.1))++(n.vals++(n.done.map (·.1)++[g.1])),(ap σ l).length≤30):Zdy (Zas σ n c k g gs)=1∨Zdy (Zas σ n c k g gs)=2:=by
 have:Zlp (Zas σ n c k g gs)=false:=by
  have hg:∀ x ∈ (Zas σ n c k g gs).goals,¬ bigG x=true:=fun x hx=>by
   have:x.1 ∈ (Zas σ n c k g gs).goals.map (·.1):=List.mem_map.2 ⟨x,hx,rfl⟩
   rw [Zfo σ n c hc] at this
   obtain ⟨l,hl,e⟩:=List.mem_map.1 this
   have:=h l (List.mem_append_left _ hl)
   unfold bigG
   rw [← e]
   simpa using this
  have hd:∀ x ∈ (Zas σ n c k g gs).done,¬ bigG x=true:=fun x hx=>by
   have:x.1 ∈ (Zas σ n c k g gs).done.map (·.1):=List.mem_map.2 ⟨x,hx,rfl⟩
   rw [Zik] at this
   obtain ⟨l,hl,e⟩:=List.mem_map.1 this
   have:=h l (List.mem_append_right _ (List.mem_append_right _ hl))
   unfold bigG
   rw [← e]
   simpa using this
  unfold Zlp
  simp only [Bool.or_eq_false_iff,decide_eq_false_iff_not]
  refine ⟨⟨⟨?_,?_⟩,List.any_eq_false.2 hg⟩,List.any_eq_false.2 hd⟩
  ·unfold Zas carr; simp; omega
  ·unfold Zas carr; simp; omega
 unfold Zdy
 rw [this]
 simp only [Bool.false_eq_true,if_false]
 split
 ·exact Or.inr rfl
 ·exact Or.inl rfl
theorem Zys (w:World) (gv vv rv hv bv nv:Value) (n:ND) (c:Cls) (k:Nat) (hn:NOk n) (hc:COk c) (h:NodeIn w gv vv rv n) (hcl:ClsIn w hv bv nv c) :
  Calls Tryd.prog 39 #[.agg #[gv,vv,rv,.int .i64 n.vars],.agg #[hv,bv,nv]] w (TryOut n c k w):=by
 obtain ⟨ga,gcap,rfl⟩:=h.goals.shape
 obtain ⟨va,vcap,rfl⟩:=h.vals.shape
 obtain ⟨ra,rcap,rfl⟩:=h.done.shape
 obtain ⟨ha,hcap,rfl⟩:=Zad hcl.head
 obtain ⟨ba,bcap,rfl⟩:=hcl.body.shape
 obtain ⟨na,ncap,rfl⟩:=Zad hcl.names
 have hgl:(n.goals.map (·.1)).length=n.goals.length:=by simp
 have hdl:(n.done.map (·.1)).length=n.done.length:=by simp
 rw [hgl,hdl] at h ⊢
 have hV:n.vars≤101000:=by have:=hn.vars; have:=hn.ul; omega
 have hcn:c.names.length≤1000:=hc.n
 have hg40:=hn.gl
 have hd100:n.done.length≤100:=by rw [hn.dl]; exact hn.ul
 have hb6:=hc.bn
 obtain ⟨W,hW⟩:∃ W,W=((w.alloc (.cells #[.slice ga n.goals.length gcap,.slice va n.vals.length vcap,.slice ra n.done.length rcap,.int .i64 n.vars] 62)).alloc (.cells #[.slice ha c.head.length hcap,.slice ba c.body.length bcap,.slice na c.names.length ncap] 55)).alloc (.cells #[.slice none 0 0,.slice none 0 0,.slice none 0 0,.int .i64 0] 62):=⟨_,rfl⟩
 have hE0:Ext w W:=by rw [hW]; exact (Ext.of (by repeat' (first | with_reducible(first|exact Qx _ _|apply Kept.drew|apply Kept.drewN|apply Qz|refine Qy ?_ ?_ _)|exact fun h=>absurd h (by simp <;> omega))))
 have hWs:W.heap.size=w.heap.size+3:=by rw [hW]; simp
 have hb0:NB W w.heap.size (.slice ga n.goals.length gcap) (.slice va n.vals.length vcap) (.slice ra n.done.length rcap) n.vars:=by rw [hW]; exact Zap (Zap (heap_alloc_new w _) _) _
 have hb1:W.heap[w.heap.size+1]?=some (.cells #[.slice ha c.head.length hcap,.slice ba c.body.length bcap,.slice na c.names.length ncap] 55 (0,0)):=by rw [hW]; exact Zap (Zeu (by simp) _) _
 have hb2:NB W (w.heap.size+2) (.slice none 0 0) (.slice none 0 0) (.slice none 0 0) 0:=by rw [hW]; exact Zeu (by simp) _
 have HB:Hid (∀ y,Ext W y→y.cell? ⟨w.heap.size,0,none⟩=some (.slice ga n.goals.length gcap)∧y.cell? ⟨w.heap.size,1,none⟩=some (.slice va n.vals.length vcap)∧y.cell? ⟨w.heap.size,2,none⟩=some (.slice ra n.done.length rcap)∧y.cell? ⟨w.heap.size,3,none⟩=some (.int .i64 n.vars) ∧
   y.cell? ⟨w.heap.size+1,0,none⟩=some (.slice ha c.head.length hcap)∧y.cell? ⟨w.heap.size+1,1,none⟩=some (.slice ba c.body.length bcap)∧y.cell? ⟨w.heap.size+1,2,none⟩=some (.slice na c.names.length ncap)∧NB y (w.heap.size+2) (.slice none 0 0) (.slice none 0 0) (.slice none 0 0) 0∧w.heap.size+2<y.heap.size):=fun y hE=>by
  have e0:=(hE.block _ (Zab hb0)).trans hb0
  have e1:=(hE.block _ (Zab hb1)).trans hb1
  have e2:=(hE.block _ (Zab hb2)).trans hb2
  exact ⟨Zaa e0 0 _ rfl,Zaa e0 1 _ rfl,Zaa e0 2 _ rfl,Zaa e0 3 _ rfl,Zaa e1 0 _ rfl,Zaa e1 1 _ rfl,Zaa e1 2 _ rfl,e2,Zab e2⟩
 have hset:Hid (∀ y x0 x1 x2 x3,Ext w y→Ext w ((((y.setCell ⟨w.heap.size+2,0,none⟩ x0).setCell ⟨w.heap.size+2,1,none⟩ x1).setCell ⟨w.heap.size+2,2,none⟩ x2).setCell ⟨w.heap.size+2,3,none⟩ x3)):=fun y x0 x1 x2 x3 hE =>
  (((hE.setCell (p:=⟨w.heap.size+2,0,none⟩) (by simp) _).setCell (p:=⟨w.heap.size+2,1,none⟩) (by simp) _).setCell (p:=⟨w.heap.size+2,2,none⟩) (by simp) _).setCell (p:=⟨w.heap.size+2,3,none⟩) (by simp) _
 have hhead:TmOk (c.head.map (rn n.vars)):=TmOk.rn hc.wfh (by have:=hc.hl; omega) hc.och (by have:=hc.n; omega)
 have hheadl:(c.head.map (rn n.vars)).length=c.head.length:=by simp
 have hhl:=hc.hl
 have HR:=Zac (Zga W (.slice ha c.head.length hcap) c.head n.vars (WordAt.ext hcl.head hE0) (by omega) (fun s hs=>(Zkh hc.wfh (by omega) hc.och (by have:=hc.n; omega)).num s hs) (by omega))
 obtain ⟨HD,hHD⟩:∃ l,l=c.head.map (rn n.vars):=⟨_,rfl⟩
 have HHD:Hid (HD=ap (Zcp n.vars) c.head):=by show _=_; rw [hHD]; exact (Ziy hc.wfh).symm
 rw [← hHD] at HR hheadl hhead
 have H:=Zac h
 have Hcl:=Zac hcl
 have Hn:=Zac hn
 have Hc:=Zac hc
 have HE0:=Zac hE0
 have Hhead:=Zac hhead
 have Hhl:=Zac hheadl
 have HW:=Zac hW
 clear h hcl hE0 hb0 hb1 hb2 hhead hHD hgl hdl hn hc hheadl
 cases hgo:n.goals with
 | nil =>
  have Hgo:=Zac hgo
  rw [hgo] at HB
  obtain ⟨c0,c1,c2,c3,c4,c5,c6,c7,c8⟩:=HB.out W (Below.refl _ _)
  have r0:=Zaa c7 0 _ rfl
  have r1:=Zaa c7 1 _ rfl
  have r2:=Zaa c7 2 _ rfl
  have r3:=Zaa c7 3 _ rfl
  have rf:=fun i=>Zae c7 i
  rw [hgo] at hW
  clear hgo c7 hg40
  go_enter Tryd.func39,Tryd.ntmps39
  go_wp2_with fail
  rw [Jt] at hW
  rw [← hW]
  refine bodyPost_ret (v := .tuple #[.agg #[.slice none 0 0,.slice none 0 0,.slice none 0 0,.int .i64 0],.int .i64 0]) (by simp [results,Tryd.results39,go_sem,r0,r1,r2,r3,rf,c8]) rfl ?_
  exact ⟨HE0.out,none,0,0,none,0,0,none,0,0,0,0,rfl,Or.inl ⟨rfl,Or.inl Hgo.out⟩⟩
 | cons g gs =>
  have hgn:n.goals.length=gs.length+1:=by rw [hgo]; simp
  have z1:((n.goals.length:Int) == 0)=false:=by rw [Qu]; omega
  obtain ⟨us,hT⟩:=H.out.goals
  obtain ⟨x,hx,hxo⟩:=hT.all 0 g.1 (by rw [hgo]; rfl)
  obtain ⟨xa,xcap,rfl⟩:=Zad hxo
  obtain ⟨gb,cap',cur,he,_,hgb,_⟩:=Zat hT.owns (by simp; omega)
  simp only [Value.slice.injEq] at he
  obtain ⟨rfl,_,rfl⟩:=he
  have hgw:=Zab hgb
  have x0:w.cell? ⟨gb,0,none⟩=some (.slice xa g.1.length xcap):=Zai (by have:=hT.owns; rw [Ql] at this; exact this) _ _ hx
  have hgt:g.1 ∈ n.terms:=by unfold ND.terms; rw [hgo]; simp
  have hgW:=Hn.out.wf g.1 hgt
  have hg30:=(Hn.out.gs g (by rw [hgo]; simp)).1
  have hgO:=(Zkh hgW (by omega) (Hn.out.occ g.1 hgt) (by omega)).num
  have hHW:Wf 1 HD:=by rw [HHD.out]; exact Zgs (Zlo _) Hc.out.wfh
  have hHl:=Hhl.out
  have HWd:Hid (∀ y hx hc,Ext w y→WordAt y (.slice hx HD.length hc) HD→Calls Tryd.prog 46 #[.slice xa g.1.length xcap,.slice hx HD.length hc] y (Zpo g.1 HD y)):=fun y hx hc hE hr =>
   Ztg y _ _ g.1 HD (WordAt.ext hxo hE) hr hgW hHW (by omega) (by omega) (fun s hs=>by
    rcases Qk.1 hs with hs | hs
    ·exact hgO s hs
    ·exact Hhead.out.num s hs)
  have Hgo:=Zac hgo
  have Hgn:=Zac hgn
  have Hg30:=Zac hg30
  clear hT hx hxo hgb hgt hgW hgO hHW hHl hgo hgn hg30
  obtain ⟨gl,hgl⟩:∃ m,m=n.goals.length:=⟨_,rfl⟩
  rw [← hgl] at HB hW z1 hg40
  rw [show (g::gs).length=gl from by rw [hgl,Hgn.out]; rfl]
  have hgp:0<gl:=by rw [hgl,Hgn.out]; omega
  have Hgl:=Zac hgl
  clear hgl
  go_enter Tryd.func39,Tryd.ntmps39
  go_wp2_with fail
  rw [← hW]
  refine HR.out.mono ?_
  rintro e w1 ⟨hv1,B1,rfl,hB1,hr1,hE1⟩
  obtain ⟨h1a,h1c,rfl⟩:=Zad hr1
  obtain ⟨c0,c1,c2,c3,c4,c5,c6,c7,c8⟩:=HB.out w1 hE1
  have hEw1:Ext w w1:=HE0.out.trans (hE1.mono (by omega))
  have hz1:=hE1.size
  have x1:w1.cell? ⟨gb,0,none⟩=some (.slice xa g.1.length xcap):=(hEw1.cell (p:=⟨gb,0,none⟩) hgw).trans x0
  have hgw1:gb<w1.heap.size:=by omega
  have HWd1:=Zac (HWd.out w1 h1a h1c hEw1 (Zbc hr1 (Qm _)))
  have HE1:=Zac hE1
  have HEw1:=Zac hEw1
  clear hr1 hE1 hEw1 HR x0 HWd hW
  go_wp2_with fail
  refine HWd1.out.mono ?_
  rintro e w2 ⟨hE2,sx,sn,sc,q,rfl,hout⟩
  obtain ⟨c0,c1,c2,c3,c4,c5,c6,c7,c8⟩:=HB.out w2 (HE1.out.trans (hE2.mono hz1))
  have hz2:=hE2.size
  have r0:=Zaa c7 0 _ rfl
  have r1:=Zaa c7 1 _ rfl
  have r2:=Zaa c7 2 _ rfl
  have r3:=Zaa c7 3 _ rfl
  have rf:=fun i=>Zae c7 i
  have hEw2:Ext w w2:=HEw1.out.trans (hE2.mono (by omega))
  have k0:w.heap.size<w2.heap.size:=by omega
  have k1:w.heap.size+1<w2.heap.size:=by omega
  have HE2:=Zac hE2
  have HEw2:=Zac hEw2
  have Hc7:=Zac c7
  clear hE2 hEw2 x1 HWd1 c7
  rcases hout with ⟨rfl,hno⟩ | ⟨rfl,hva⟩ | ⟨rfl,ts,tvs,hts,hmg,hsm,htl,ht30⟩
  ·have Hno:Hid (Out n c k 0 n):=⟨g,gs,Hgo.out,Or.inl ⟨rfl,by rw [← HHD.out]; exact hno⟩⟩
   clear hno
   go_wp2
   refine bodyPost_ret (v := .tuple #[.agg #[.slice none 0 0,.slice none 0 0,.slice none 0 0,.int .i64 0],.int .i64 0]) (by simp [results,Tryd.results39,go_sem,r0,r1,r2,r3,rf,c8]) rfl ?_
   refine ⟨(hset.out w2 (.slice none 0 0) (.slice none 0 0) (.slice none 0 0) (.int .i64 0) HEw2.out).alloc (by simp; omega) _,none,0,0,none,0,0,none,0,0,0,0,rfl,Or.inl ⟨rfl,Or.inr Hno.out⟩⟩
  ·have Hva:Hid (∃ ch,Out n c k 3 ch):=⟨n,g,gs,Hgo.out,Or.inr (Or.inl ⟨rfl,by rw [← HHD.out]; exact hva⟩)⟩
   clear hva
   go_wp2
   refine bodyPost_ret (v := .tuple #[.agg #[.slice none 0 0,.slice none 0 0,.slice none 0 0,.int .i64 0],.int .i64 2]) (by simp [results,Tryd.results39,go_sem,r0,r1,r2,r3,rf,c8]) rfl ?_
   refine ⟨(hset.out w2 (.slice none 0 0) (.slice none 0 0) (.slice none 0 0) (.int .i64 0) HEw2.out).alloc (by simp; omega) _,none,0,0,none,0,0,none,0,0,0,2,rfl,Or.inr (Or.inl ⟨rfl,Hva.out⟩)⟩
  ·rw [HHD.out] at hmg
   have Hmg:=Zac hmg
   have Hts:=Zac hts
   have Ht30:=Zac ht30
   have Hsm:=Zac hsm
   clear hmg hts ht30 hsm
   by_cases hmany:40<c.body.length+gs.length∨100<n.used.length+1
   ·have Hk:Hid (∃ ch,Out n c k 3 ch):=⟨_,g,gs,Hgo.out,Or.inr (Or.inr ⟨sbOf ts,Hmg.out,Hsm.out,(Zti k hmany).symm,rfl⟩)⟩
    have hgl':gl=gs.length+1:=by rw [Hgl.out,Hgn.out]
    have hdu:=Hn.out.dl
    by_cases h40:40<c.body.length+gs.length
    ·have hi:(40:Int)<(c.body.length:Int)+(gl:Int) - 1:=by omega
     clear hmany h40 hgl' hdu
     go_wp2
     refine bodyPost_ret (v := .tuple #[.agg #[.slice none 0 0,.slice none 0 0,.slice none 0 0,.int .i64 0],.int .i64 2]) (by simp [results,Tryd.results39,go_sem,r0,r1,r2,r3,rf,c8]) rfl ?_
     exact ⟨(hset.out w2 (.slice none 0 0) (.slice none 0 0) (.slice none 0 0) (.int .i64 0) HEw2.out).alloc (by simp; omega) _,none,0,0,none,0,0,none,0,0,0,2,rfl,Or.inr (Or.inl ⟨rfl,Hk.out⟩)⟩
    ·have hi:¬ ((40:Int)<(c.body.length:Int)+(gl:Int) - 1):=by omega
     have hi2:(100:Int)<(n.done.length:Int)+1:=by omega
     clear hmany h40 hgl' hdu
     go_wp2
     refine bodyPost_ret (v := .tuple #[.agg #[.slice none 0 0,.slice none 0 0,.slice none 0 0,.int .i64 0],.int .i64 2]) (by simp [results,Tryd.results39,go_sem,r0,r1,r2,r3,rf,c8]) rfl ?_
     exact ⟨(hset.out w2 (.slice none 0 0) (.slice none 0 0) (.slice none 0 0) (.int .i64 0) HEw2.out).alloc (by simp; omega) _,none,0,0,none,0,0,none,0,0,0,2,rfl,Or.inr (Or.inl ⟨rfl,Hk.out⟩)⟩
   ·have hgl':gl=gs.length+1:=by rw [Hgl.out,Hgn.out]
    have hdu:=Hn.out.dl
    have hi:¬ ((40:Int)<(c.body.length:Int)+(gl:Int) - 1):=by omega
    have hi2:¬ ((100:Int)<(n.done.length:Int)+1):=by omega
    have hm1:¬ 40<c.body.length+gs.length:=fun h=>hmany (Or.inl h)
    have hm2:¬ 100<n.used.length+1:=fun h=>hmany (Or.inr h)
    obtain ⟨sl,hsl⟩:∃ m,m=sn:=⟨_,rfl⟩
    have hN:NodeIn w (.slice (some ⟨gb,0,none⟩) gl gcap) (.slice va n.vals.length vcap) (.slice ra n.done.length rcap) n:=by rw [Hgl.out]; exact H.out
    have hE3:Ext w (w2.alloc (.cells #[.slice sx sn sc] 99)):=HEw2.out.alloc (by omega) _
    have hg3:=(hN.ext hE3).goals
    rw [Hgo.out,List.map_cons] at hg3
    have HBd:=Zac (Zog (w2.alloc (.cells #[.slice sx sn sc] 99)) (.slice (some ⟨gb,0,none⟩) gl gcap) (.slice va n.vals.length vcap) (.slice ra n.done.length rcap) (.slice ha c.head.length hcap) (.slice ba c.body.length bcap) (.slice na c.names.length ncap) g.1 (gs.map (·.1)) n.vals (n.done.map (·.1)) c.body c.names n.vars
     hg3 (hN.ext hE3).vals (hN.ext hE3).done ⟨_,_,_,rfl⟩ (Hcl.out.ext hE3).body (Hcl.out.ext hE3).names (by simp; omega) (by simp; omega) (by omega) (by omega) (by omega) (fun l hl=>Zkh (Hc.out.wfb l hl) (by have:=Hc.out.bl l hl; omega) (Hc.out.ocb l hl) (by have:=Hc.out.n; omega)))
    have HN:=Zac hN
    have HE3:=Zac hE3
    clear hgl' hdu hmany hsl hN hE3 hg3
    go_wp2_with fail
    refine HBd.out.mono ?_
    rintro e w4 ⟨hE4,b1,b2,d1,d2,rfl,hbg,hbr⟩
    obtain ⟨G2,hG2⟩:∃ l,l=c.body.map (fun l=>l.map (rn n.vars))++gs.map (·.1):=⟨_,rfl⟩
    obtain ⟨R2,hR2⟩:∃ l,l=n.done.map (·.1)++[g.1]:=⟨_,rfl⟩
    rw [← hG2] at hbg ⊢
    rw [← hR2] at hbr ⊢
    have hG2l:G2.length≤1000:=by rw [hG2]; simp; omega
    have hR2l:R2.length≤1000:=by rw [hR2]; simp; omega
    have hok:∀ l ∈ G2++(n.vals++R2),TmOk l:=fun l hl=>by
     rcases Qk.1 hl with hl | hl
     ·rw [hG2] at hl
      rcases Qk.1 hl with hl | hl
      ·obtain ⟨m,hm,rfl⟩:=List.mem_map.1 hl
       exact TmOk.rn (Hc.out.wfb m hm) (by have:=Hc.out.bl m hm; omega) (Hc.out.ocb m hm) (by have:=Hc.out.n; omega)
      ·obtain ⟨m,hm,rfl⟩:=List.mem_map.1 hl
       have hmt:m.1 ∈ n.terms:=by unfold ND.terms; rw [Hgo.out]; exact List.mem_append_left _ (List.mem_map.2 ⟨m,by simp [hm],rfl⟩)
       exact Zkh (Hn.out.wf _ hmt) (by have:=(Hn.out.gs m (by rw [Hgo.out]; simp [hm])).1; omega) (Hn.out.occ _ hmt) (by omega)
     ·rcases Qk.1 hl with hl | hl
      ·have hmt:l ∈ n.terms:=by unfold ND.terms; simp [hl]
       exact Zkh (Hn.out.wf _ hmt) (by have:=Hn.out.vsize hl; omega) (Hn.out.occ _ hmt) (by omega)
      ·rw [hR2] at hl
       rcases Qk.1 hl with hl | hl
       ·obtain ⟨m,hm,rfl⟩:=List.mem_map.1 hl
        have hmt:m.1 ∈ n.terms:=by unfold ND.terms; exact List.mem_append_right _ (List.mem_append_right _ (List.mem_map.2 ⟨m,hm,rfl⟩))
        exact Zkh (Hn.out.wf _ hmt) (by have:=(Hn.out.ds m hm).1; omega) (Hn.out.occ _ hmt) (by omega)
       ·simp at hl
        subst hl
        have hmt:g.1 ∈ n.terms:=by unfold ND.terms; rw [Hgo.out]; simp
        exact Zkh (Hn.out.wf _ hmt) (by have:=Hg30.out; omega) (Hn.out.occ _ hmt) (by omega)
    have hz4:=hE4.size
    have hz4:w2.heap.size+1≤w4.heap.size:=by simpa using hz4
    have hsb:w4.heap[w2.heap.size]?=some (.cells #[.slice sx sn sc] 99 (0,0)):=(hE4.block _ (by simp)).trans (heap_alloc_new w2 _)
    have sb0:=Zaa hsb 0 _ rfl
    have hE24:Ext w2 w4:=(show Ext w2 (w2.alloc (.cells #[.slice sx sn sc] 99)) from (Ext.of (by repeat' (first | with_reducible(first|exact Qx _ _|apply Kept.drew|apply Kept.drewN|apply Qz|refine Qy ?_ ?_ _)|exact fun h=>absurd h (by simp <;> omega))))).trans (hE4.mono (by simp))
    have hEw4:Ext w w4:=HEw2.out.trans (hE24.mono (by omega))
    have c74:NB w4 (w.heap.size+2) (.slice none 0 0) (.slice none 0 0) (.slice none 0 0) 0:=(hE24.block _ c8).trans Hc7.out
    have hE45:∀ o,Ext w4 (w4.alloc o):=fun o=>(Ext.of (by repeat' (first | with_reducible(first|exact Qx _ _|apply Kept.drew|apply Kept.drewN|apply Qz|refine Qy ?_ ?_ _)|exact fun h=>absurd h (by simp <;> omega))))
    have HWt:Hid (∀ o,Calls Tryd.prog 48 #[.agg #[.slice b1 G2.length b2,.slice va n.vals.length vcap,.slice d1 R2.length d2,.int .i64 ((n.vars+c.names.length:Nat):Int)],.agg #[.slice sx sn sc]] (w4.alloc o) (Zwj ts G2 n.vals R2 (n.vars+c.names.length) (w4.alloc o))):=fun o =>
     Zmj (w4.alloc o) (.slice sx sn sc) _ _ _ ts G2 n.vals R2 tvs (n.vars+c.names.length) ((Hts.out.ext hE24).ext (hE45 o)) (hbg.ext (hE45 o)) ((HN.out.vals.ext hEw4).ext (hE45 o)) (hbr.ext (hE45 o)) htl Ht30.out (by omega) (by have:=Hn.out.vl; omega) (by omega) hok (by omega)
    have HEw4:=Zac hEw4
    have Hc74:=Zac c74
    have HG2:=Zac hG2
    have HR2:=Zac hR2
    have k4:w.heap.size+2<w4.heap.size:=by omega
    have k5:w2.heap.size<w4.heap.size:=by omega
    clear hE4 hbg hbr hok hsb hE24 hEw4 c74 hE45 hG2 hR2 HBd
    go_wp2_with fail
    refine (HWt.out _).mono ?_
    rintro e w6 ⟨hE6,hout⟩
    have hz6:=hE6.size
    have hz6:w4.heap.size+1≤w6.heap.size:=by simpa using hz6
    have hE46:Ext w4 w6:=(Below.refl _ w4 |>.alloc (Qe _) _).trans (hE6.mono (by simp))
    have hEw6:Ext w w6:=HEw4.out.trans (hE46.mono (by omega))
    have c76:NB w6 (w.heap.size+2) (.slice none 0 0) (.slice none 0 0) (.slice none 0 0) 0:=(hE46.block _ k4).trans Hc74.out
    have r0:=Zaa c76 0 _ rfl
    have r1:=Zaa c76 1 _ rfl
    have r2:=Zaa c76 2 _ rfl
    have r3:=Zaa c76 3 _ rfl
    have rf:=fun i=>Zae c76 i
    have k6:w.heap.size+2<w6.heap.size:=by omega
    have HEw6:=Zac hEw6
    have Hc76:=Zac c76
    clear hE6 hE46 hEw6 c76 HWt
    rcases hout with ⟨hsmall,g1,g2,g3,v1,v2,v3,q1,q2,q3,rfl,t1,t2,t3⟩ | ⟨⟨l,hl,hbig⟩,rfl⟩
    ·have hkind:=Zpq (k:=k) (g:=g) (gs:=gs) Hc.out (σ:=sbOf ts) hm1 hm2 (by rw [← HG2.out,← HR2.out]; exact hsmall)
     have hK2:∀ x0 x1 x2 x3,Kept (fun j=>j=w.heap.size+2) w6 ((((w6.setCell ⟨w.heap.size+2,0,none⟩ x0).setCell ⟨w.heap.size+2,1,none⟩ x1).setCell ⟨w.heap.size+2,2,none⟩ x2).setCell ⟨w.heap.size+2,3,none⟩ x3):=fun x0 x1 x2 x3=>((((Qx (only (w.heap.size+2)) w6).put 0 _).put 1 _).put 2 _).put 3 _
     have hout:TryOut n c k w (.returned (.tuple #[.agg #[.slice g1 g2 g3,.slice v1 v2 v3,.slice q1 q2 q3,.int .i64 ((n.vars+c.names.length:Nat):Int)],.int .i64 1])) ((((w6.setCell ⟨w.heap.size+2,0,none⟩ (.slice g1 g2 g3)).setCell ⟨w.heap.size+2,1,none⟩ (.slice v1 v2 v3)).setCell ⟨w.heap.size+2,2,none⟩ (.slice q1 q2 q3)).setCell ⟨w.heap.size+2,3,none⟩ (.int .i64 ((n.vars+c.names.length:Nat):Int))):=by
      refine ⟨hset.out w6 _ _ _ _ HEw6.out,g1,g2,g3,v1,v2,v3,q1,q2,q3,n.vars+c.names.length,1,rfl,Or.inr (Or.inr ⟨rfl,Zas (sbOf ts) n c k g gs,Zdy (Zas (sbOf ts) n c k g gs),hkind,⟨g,gs,Hgo.out,Or.inr (Or.inr ⟨sbOf ts,Hmg.out,Hsm.out,rfl,rfl⟩)⟩,⟨?_,?_,?_⟩,rfl,?_⟩)⟩
      ·rw [Zfo _ _ _ Hc.out,← HG2.out]; exact (t1.box Hc76.out (by decide) (by decide) (hK2 _ _ _ _)).mono (by simp; omega)
      ·exact (t2.box Hc76.out (by decide) (by decide) (hK2 _ _ _ _)).mono (by simp; omega)
      ·rw [Zik,← HR2.out]; exact (t3.box Hc76.out (by decide) (by decide) (hK2 _ _ _ _)).mono (by simp; omega)
      ·obtain ⟨za,zc,ze⟩:=t1.inn.shape
       simp only [Value.slice.injEq] at ze
       rw [ze.2.1,HG2.out,← Zfo (sbOf ts) n c Hc.out k g gs,Ql]
     have Hout:=Zac hout
     clear hout hsmall hkind hK2 t1 t2 t3
     go_wp2
     refine bodyPost_ret (v := .tuple #[.agg #[.slice g1 g2 g3,.slice v1 v2 v3,.slice q1 q2 q3,.int .i64 ((n.vars+c.names.length:Nat):Int)],.int .i64 1]) (by simp [results,Tryd.results39,go_sem,r0,r1,r2,r3,rf,k6]) rfl ?_
     exact Hout.out
    ·have Hk:Hid (∃ ch,Out n c k 3 ch):=⟨_,g,gs,Hgo.out,Or.inr (Or.inr ⟨sbOf ts,Hmg.out,Hsm.out,(Zwm Hn.out Hc.out k Hgo.out Hmg.out (by rw [← HG2.out,← HR2.out]; exact hl) hbig).symm,rfl⟩)⟩
     clear hl hbig
     go_wp2
     refine bodyPost_ret (v := .tuple #[.agg #[.slice none 0 0,.slice none 0 0,.slice none 0 0,.int .i64 0],.int .i64 2]) (by simp [results,Tryd.results39,go_sem,r0,r1,r2,r3,rf,k6]) rfl ?_
     exact ⟨hset.out w6 _ _ _ _ HEw6.out,none,0,0,none,0,0,none,0,0,0,2,rfl,Or.inr (Or.inl ⟨rfl,Hk.out⟩)⟩
def offA (N:List (List UInt8 × Nat)) (s:Sym):Sym:=if s.name=[]∨(s.name,s.args) ∈ N then s else ⟨s.name++[0],s.num,s.args⟩
theorem Yak {N:List (List UInt8 × Nat)}:∀ {l:List Sym} {k:Nat},Wf k l→Wf k (l.map (offA N)):=by
 intro l
 induction l with
 | nil=>intro k h; exact h
 | cons s l ih =>
  intro k h
  obtain ⟨h1,h2,h3,h4⟩:=h
  have e1:(offA N s).args=s.args:=by unfold offA; split <;> rfl
  have e2:(offA N s).name=[]↔s.name=[]:=by
   unfold offA; split
   ·exact Iff.rfl
   ·rename_i h; simp at h ⊢; exact h.1
  have e3:(offA N s).num=s.num:=by unfold offA; split <;> rfl
  refine ⟨h1,fun h=>by rw [e1]; exact h2 (e2.1 h),fun h=>by rw [e3]; exact h3 (fun h'=>h (e2.2 h')),?_⟩
  rw [e1]; exact ih h4
theorem Mgu.nma {σ:Nat→List Sym} {a b:List Sym} (h:Mgu σ a b) (n:Nat):∀ s ∈ σ n,s.name≠[]→∃ t ∈ a++b,t.name=s.name∧t.args=s.args:=by
 intro s hs hn
 refine Classical.byContradiction (fun hno => ?_)
 have hno:∀ t ∈ a++b,¬ (t.name=s.name∧t.args=s.args):=fun t ht e=>hno ⟨t,ht,e⟩
 obtain ⟨N,hN⟩:∃ N,N=(a++b).map (fun t=>(t.name,t.args)):=⟨_,rfl⟩
 have hθ:Ts (fun n=>(σ n).map (offA N)):=fun n=>Yak (h.ts n)
 have key:∀ l:List Sym,(∀ t ∈ l,(t.name,t.args) ∈ N)→ap (fun n=>(σ n).map (offA N)) l=(ap σ l).map (offA N):=by
  intro l
  induction l with
  | nil=>intro _; rfl
  | cons t l ih =>
   intro ht
   rw [Zbs,Zbs,Qr,ih (fun u hu=>ht u (by simp [hu]))]
   congr 1
   unfold ap1
   split
   ·rfl
   ·have:offA N t=t:=by unfold offA; rw [if_pos (Or.inr (ht t (by simp)))]
    simp [this]
 have ha:=key a (fun t ht=>by rw [hN]; exact List.mem_map.2 ⟨t,by simp [ht],rfl⟩)
 have hb:=key b (fun t ht=>by rw [hN]; exact List.mem_map.2 ⟨t,by simp [ht],rfl⟩)
 have hw:=h.wide _ hθ (by rw [ha,hb,h.unif]) n
 have hf:=Zkr hθ hw s hs hn
 have hnN:¬ (s.name=[]∨(s.name,s.args) ∈ N):=by
  rintro (h | h)
  ·exact hn h
  ·rw [hN] at h
   obtain ⟨t,ht,e⟩:=List.mem_map.1 h
   simp only [Prod.mk.injEq] at e
   exact hno t ht e
 unfold offA at hf
 rw [if_neg hnN] at hf
 have:=congrArg (fun s=>s.name.length) hf
 simp at this
def Few (l:List Sym):Prop:=∀ s ∈ l,s.args≤4
def NFew (n:ND):Prop:=∀ t ∈ n.terms,Few t
def CFew (c:Cls):Prop:=Few c.head∧∀ t ∈ c.body,Few t
theorem Zzj (n:Nat):Few (vr n):=fun s hs=>by simp [vr] at hs; subst hs; simp
theorem Few.ap {σ:Nat→List Sym} {l:List Sym} (h:Few l) (hσ:∀ n,Few (σ n)):Few (ap σ l):=by
 intro s hs
 simp only [YtlmjilpjmgjjcabDoor.ap,List.mem_flatMap] at hs
 obtain ⟨t,ht,hs⟩:=hs
 unfold ap1 at hs
 split at hs
 ·exact hσ _ s hs
 ·simp at hs; subst hs; exact h s ht
theorem Zoh (v n:Nat):Few (Zcp v n):=Zzj _
theorem Mgu.few {σ:Nat→List Sym} {a b:List Sym} (h:Mgu σ a b) (ha:Few a) (hb:Few b) (n:Nat):Few (σ n):=by
 intro s hs
 by_cases hn:s.name=[]
 ·rw [Zov (h.ts n) s hs hn]; omega
 ·obtain ⟨t,ht,_,e⟩:=h.nma n s hs hn
  rw [← e]
  rcases Qk.1 ht with ht | ht
  ·exact ha t ht
  ·exact hb t ht
theorem Yal {n:ND} {c:Cls} {k q:Nat} {ch:ND} (h:Out n c k q ch) (hq:q=1∨q=2) (hn:NFew n) (hc:CFew c):NFew ch:=by
 obtain ⟨g,gs,hg,h⟩:=h
 rcases h with ⟨rfl,_⟩ | ⟨rfl,_⟩ | ⟨σ,h1,_,_,rfl⟩
 ·omega
 ·omega
 ·have hgt:Few g.1:=hn g.1 (by simp [ND.terms,hg])
  have hhd:Few (ap (Zcp n.vars) c.head):=hc.1.ap (Zoh _)
  have hσ:=h1.few hgt hhd
  intro t ht
  rw [Zej] at ht
  simp only [Qk,List.mem_map] at ht
  rcases ht with ⟨u,hu,rfl⟩ | ⟨u,hu,rfl⟩ | ⟨u,hu,rfl⟩
  ·rcases hu with ⟨b,hb,rfl⟩ | ⟨x,hx,rfl⟩
   ·exact ((hc.2 b hb).ap (Zoh _)).ap hσ
   ·exact (hn x.1 (by simp only [ND.terms,hg,List.map_cons,List.cons_append,Qp,Qk,List.mem_map]; exact Or.inr (Or.inl ⟨x,hx,rfl⟩))).ap hσ
  ·exact (hn u (by simp [ND.terms,hu])).ap hσ
  ·rcases hu with ⟨x,hx,rfl⟩ | hu
   ·exact (hn x.1 (by simp only [ND.terms,Qk,List.mem_map]; exact Or.inr (Or.inr ⟨x,hx,rfl⟩))).ap hσ
   ·simp at hu; subst hu; exact hgt.ap hσ
structure SF (st:RS):Prop where
 sb:SB st
 atom:Few st.atom
 head:Few st.head
 body:∀ l ∈ st.body,Few l
 cls:∀ c ∈ st.clauses,Few c.head∧∀ l ∈ c.body,Few l
theorem Zqt {l:List Sym} {s:Sym} (h:Few l) (hs:s.args≤4):Few (l++[s]):=fun t ht=>by
 rcases Qk.1 ht with ht | ht
 ·exact h t ht
 ·simp at ht; subst ht; exact hs
theorem Zpr:Few []:=fun s hs=>by simp at hs
theorem Zqu:∀ l ∈ ([]:List (List Sym)),Few l:=fun l hl=>by simp at hl
theorem Zqv {st:RS} (h:SF st) (hf:Zdr st=false) (hn:st.next=0∨st.next=1∨st.next=2):Few (Zbx st):=by
 unfold Zbx
 cases ho:st.opn with
 | nil=>exact h.atom
 | cons n r =>
  simp only
  by_cases h2:st.next=2
  ·have ha:Zig st<4:=by
    unfold Zdr at hf
    rw [if_neg (by omega),if_neg (by omega),if_pos h2] at hf
    simp at hf
    omega
   intro s hs
   obtain ⟨i,hi⟩:=List.mem_iff_getElem?.1 hs
   rw [List.getElem?_modify] at hi
   cases hx:st.atom[i]? with
   | none=>rw [hx] at hi; simp at hi
   | some x =>
    rw [hx] at hi
    simp at hi
    subst hi
    split
    ·rename_i e
     subst e
     have:Zig st=x.args:=by unfold Zig; rw [ho]; simp [hx]
     simp only
     omega
    ·exact h.atom x (Qh hx)
  ·have:=h.sb.empty h2 (by omega) (by omega)
   rw [this]
   intro s hs
   simp at hs
theorem SF.endAtom {st:RS} (h:SF st):Few (Zal st).atom∧Few (Zal st).head∧(∀ l ∈ (Zal st).body,Few l)∧∀ c ∈ (Zal st).clauses,Few c.head∧∀ l ∈ c.body,Few l:=by
 unfold Zal
 split
 ·refine ⟨fun s hs=>by simp at hs,h.head,fun l hl => ?_,h.cls⟩
  simp at hl
  rcases hl with hl | rfl
  ·exact h.body l hl
  ·exact h.atom
 ·exact ⟨fun s hs=>by simp at hs,h.atom,h.body,h.cls⟩
theorem SF.take {st:RS} {kd len:Nat} {t:List UInt8} (h:SF st) (hc:Zbh st kd len=0) (hlen:len=t.length):SF (Zbb st kd t):=by
 have hs:=Zgy hc
 have hsb:=h.sb.take hc hlen
 have hfull:kd=1∨kd=2→Zdr st=false:=by
  intro hk
  unfold Zbh at hc
  rw [if_neg (by simp [hs])] at hc
  split at hc
  ·omega
  ·rename_i h'
   cases hf:Zdr st with
   | false=>rfl
   | true=>exact absurd ⟨hk,Or.inr hf⟩ h'
 have hnext:kd=1∨kd=2→st.next=0∨st.next=1∨st.next=2:=by
  intro hk
  unfold Zba at hs
  split at hs
  ·omega
  ·split at hs
   ·omega
   ·split at hs
    ·rcases hk with rfl | rfl
     ·simp [Zbg] at hs
     ·simp [Zbg] at hs
    ·split at hs
     ·rcases hk with rfl | rfl
      ·simp [Zbg] at hs
      ·simp [Zbg] at hs
     ·simp at hs
 obtain ⟨e1,e2,e3,e4⟩:=h.endAtom
 refine ⟨hsb,?_,?_,?_,?_⟩
 all_goals clear hsb
 all_goals
  unfold Zbb
  split
  ·rename_i hk
   first
    | exact Zqt (Zqv h (hfull (Or.inl hk)) (hnext (Or.inl hk))) (by simp)
    | exact h.head
    | exact h.body
    | exact h.cls
  split
  ·rename_i _ hk
   first
    | exact Zqt (l:=Zbx st) (Zqv h (hfull (Or.inr hk)) (hnext (Or.inr hk))) (by simp)
    | exact h.head
    | exact h.body
    | exact h.cls
  split
  ·first | exact h.atom | exact h.head | exact h.body | exact h.cls
  split
  ·unfold Zgo
   first | exact h.atom | exact h.head | exact h.body | exact h.cls
  split
  ·unfold Zep
   split
   ·first | exact e1 | exact e2 | exact e3 | exact e4
   ·first | exact h.atom | exact h.head | exact h.body | exact h.cls
  split
  ·first | exact e1 | exact e2 | exact e3 | exact e4
  split
  ·unfold Zaj
   first
    | exact e1
    | exact Zpr
    | exact Zqu
    | exact (fun c hc=>by
      simp only [Qk,List.mem_singleton] at hc
      rcases hc with hc | rfl
      ·exact e4 c hc
      ·exact ⟨e2,e3⟩)
  ·first | exact h.atom | exact h.head | exact h.body | exact h.cls
theorem SF.run {e:Nat}:∀ {ts:List Tok} {st:RS},SF st→(runT e ts st).1=0→SF (runT e ts st).2.2:=by
 intro ts
 induction ts with
 | nil=>intro st h _; unfold runT; split <;> exact h
 | cons t ts ih =>
  intro st h h0
  unfold runT at h0 ⊢
  split at h0
  ·rename_i hc; exact absurd h0 hc
  ·rename_i hc
   rw [if_neg hc]
   exact ih (h.take (len:=t.text.length) (by omega) rfl) h0
theorem SF.start (q:Bool):SF ⟨q,if q then 1 else 0,q,[],[],[],[],[],[]⟩:=⟨SB.start q,Zpr,Zpr,Zqu,fun c hc=>by simp at hc⟩
theorem Zyt {s:ByteArray} {cs:List Cls} (h:Zde s=some cs):∀ c ∈ cs,CFew c:=by
 obtain ⟨_,h0,e,_⟩:=Zek h
 have hB:SF (runs s false).2.2:=(SF.start false).run h0
 intro c hc
 exact hB.cls c (by rw [e]; exact hc)
theorem Yam {s:ByteArray} {a:List (List Sym) × Names} (h:Zey s=some a):NFew (topN a):=by
 obtain ⟨_,h0,e,_⟩:=Zee h
 have hB:SF (runs s true).2.2:=(SF.start true).run h0
 have hc:=(hB.cls ⟨[],a.1,a.2⟩ (by rw [e]; simp)).2
 intro t ht
 simp only [ND.terms,topN,List.map_map,List.map_nil,Qs,Qk,List.mem_map,Function.comp] at ht
 rcases ht with ⟨u,hu,rfl⟩ | ⟨i,_,rfl⟩
 ·exact hc u hu
 ·exact Zzj i
def TryX (n:ND) (c:Cls) (k:Nat) (X:Nat→Prop) (v:Value) (u:World):Prop:=∃ g1 g2 g3 v1 v2 v3 r1 r2 r3,∃ uu q:Nat,v = .tuple #[.agg #[.slice g1 g2 g3,.slice v1 v2 v3,.slice r1 r2 r3,.int .i64 uu],.int .i64 q] ∧
 ((q=0∧(n.goals=[]∨Out n c k 0 n))∨(q=2∧∃ ch,Out n c k 3 ch)∨(q=1∧∃ ch qq,(qq=1∨qq=2)∧Out n c k qq ch∧uu=ch.vars∧g2=ch.goals.length ∧
  (∃ vs,TermsAt u 0 (.slice g1 g2 g3) (ch.goals.map (·.1)) vs∧(∀ j,(Value.slice g1 g2 g3).ownBlock=some j→¬ X j)∧∀ x ∈ vs,∀ j,x.ownBlock=some j→¬ X j) ∧
  (∃ vs,TermsAt u 0 (.slice v1 v2 v3) ch.vals vs∧(∀ j,(Value.slice v1 v2 v3).ownBlock=some j→¬ X j)∧∀ x ∈ vs,∀ j,x.ownBlock=some j→¬ X j) ∧
  (∃ vs,TermsAt u 0 (.slice r1 r2 r3) (ch.done.map (·.1)) vs∧(∀ j,(Value.slice r1 r2 r3).ownBlock=some j→¬ X j)∧∀ x ∈ vs,∀ j,x.ownBlock=some j→¬ X j)))
theorem Zfp {X X':Nat→Prop} {v:Value} {ls:List (List Sym)} {u u':World} (h:∃ vs,TermsAt u 0 v ls vs∧(∀ j,v.ownBlock=some j→¬ X j)∧∀ x ∈ vs,∀ j,x.ownBlock=some j→¬ X j) (hb:∀ k,k<u.heap.size→¬ X k→u'.heap[k]?=u.heap[k]?) (hX:∀ k,k<u.heap.size→X' k→X k) :
  ∃ vs,TermsAt u' 0 v ls vs∧(∀ j,v.ownBlock=some j→¬ X' j)∧∀ x ∈ vs,∀ j,x.ownBlock=some j→¬ X' j:=by
 obtain ⟨vs,h,h1,h2⟩:=h
 have hlen:vs.length=ls.length:=by have:=h.owns.1; omega
 have hin:∀ x ∈ vs,∃ l,WordAt u x l:=fun x hx=>by
  obtain ⟨i,hi⟩:=List.mem_iff_getElem?.1 hx
  have hil:=(Qa.1 hi).1
  obtain ⟨y,h3,h4⟩:=h.all i _ (Qb (by omega))
  rw [hi] at h3
  simp only [Qo] at h3
  subst h3
  exact ⟨_,h4⟩
 refine ⟨vs,⟨Zao h.owns (fun j hj=>hb j (h.owns.lt j hj).2 (h1 j hj)),fun i l hi => ?_⟩,fun j hj hx=>h1 j hj (hX j (h.owns.lt j hj).2 hx),fun x hx j hj hx' => ?_⟩
 ·obtain ⟨y,h3,h4⟩:=h.all i l hi
  exact ⟨y,h3,Zao h4 (fun j hj=>hb j (h4.lt j hj).2 (h2 y (Qh h3) j hj))⟩
 ·obtain ⟨l,hl⟩:=hin x hx
  exact h2 x hx j hj (hX j (hl.lt j hj).2 hx')
theorem TryX.stable {n:ND} {c:Cls} {k:Nat}:∀ X X' v u u',TryX n c k X v u→(∀ k,k<u.heap.size→¬ X k→u'.heap[k]?=u.heap[k]?)→u.heap.size≤u'.heap.size→(∀ k,k<u.heap.size→X' k→X k)→TryX n c k X' v u':=by
 rintro X X' v u u' ⟨g1,g2,g3,v1,v2,v3,r1,r2,r3,uu,q,rfl,h⟩ hb _ hX
 refine ⟨g1,g2,g3,v1,v2,v3,r1,r2,r3,uu,q,rfl,?_⟩
 rcases h with h | h | ⟨rfl,ch,qq,h1,h2,h3,h4,h5,h6,h7⟩
 ·exact Or.inl h
 ·exact Or.inr (Or.inl h)
 ·exact Or.inr (Or.inr ⟨rfl,ch,qq,h1,h2,h3,h4,Zfp h5 hb hX,Zfp h6 hb hX,Zfp h7 hb hX⟩)
theorem TryOut.toX {n:ND} {c:Cls} {k:Nat} {X:Nat→Prop} {w w':World} {e:Ending} (h:TryOut n c k w e w') (hX:∀ j,X j→j<w.heap.size):∃ v,e = .returned v∧Ext w w'∧TryX n c k X v w':=by
 obtain ⟨hE,g1,g2,g3,v1,v2,v3,r1,r2,r3,uu,q,rfl,h⟩:=h
 refine ⟨_,rfl,hE,g1,g2,g3,v1,v2,v3,r1,r2,r3,uu,q,rfl,?_⟩
 have key:∀ {v:Value} {ls:List (List Sym)},TermsNew w.heap.size w' v ls→∃ vs,TermsAt w' 0 v ls vs∧(∀ j,v.ownBlock=some j→¬ X j)∧∀ x ∈ vs,∀ j,x.ownBlock=some j→¬ X j:=fun {v ls} h=>by
  obtain ⟨vs,h1,h2,h3⟩:=h
  exact ⟨vs,h1,fun j hj hx=>by have:=h2 j hj; have:=hX j hx; omega,fun x hx j hj hx'=>by have:=h3 x hx j hj; have:=hX j hx'; omega⟩
 rcases h with h | h | ⟨rfl,ch,qq,h1,h2,h3,h4,h5⟩
 ·exact Or.inl h
 ·exact Or.inr (Or.inl h)
 ·exact Or.inr (Or.inr ⟨rfl,ch,qq,h1,h2,h4,h5,key h3.goals,key h3.vals,key h3.done⟩)
theorem ProgIn.cell {w:World} {lb cap:Nat} {cs:List Cls} {xs:List (List Value)} (h:ProgIn w (.slice (some ⟨lb,0,none⟩) cs.length cap) cs xs) {k:Nat} {c:Cls} (hc:cs[k]?=some c):∃ hv bv nv,w.cell? ⟨lb,k * 3,none⟩=some hv∧w.cell? ⟨lb,k * 3+1,none⟩=some bv∧w.cell? ⟨lb,k * 3+2,none⟩=some nv∧ClsIn w hv bv nv c:=by
 obtain ⟨hv,bv,nv,hx,hcl⟩:=h.all k c hc
 have key:∀ (xs:List (List Value)) (k:Nat),(∀ x ∈ xs,x.length=3)→xs[k]?=some [hv,bv,nv]→∀ j,j<3→xs.flatten[k * 3+j]?=[hv,bv,nv][j]?:=by
  intro xs
  induction xs with
  | nil=>intro k _ h; simp at h
  | cons x xs ih =>
   intro k h3 hk j hj
   rw [List.flatten_cons]
   have hx3:=h3 x (by simp)
   cases k with
   | zero =>
    simp at hk
    subst hk
    rw [Qc (by simp; omega)]
    simp
   | succ k =>
    rw [Qd (by omega),hx3]
    have:=ih k (fun y hy=>h3 y (by simp [hy])) (by simpa using hk) j hj
    rw [← this]
    congr 1
    omega
 have k3:=key xs k h.three hx
 refine ⟨hv,bv,nv,Zai h.owns _ _ ?_,Zai h.owns _ _ ?_,Zai h.owns _ _ ?_,hcl⟩
 ·have:=k3 0 (by omega); simpa using this
 ·have:=k3 1 (by omega); simpa using this
 ·have:=k3 2 (by omega); simpa using this
theorem Yan:∀ {met:List Nat} {n k:Nat},(∀ i,i<k→met[i]?≠some n)→met[k]?=some n→met.idxOf n=k:=by
 intro met
 induction met with
 | nil=>intro n k _ h; simp at h
 | cons x met ih =>
  intro n k h1 h2
  rw [List.idxOf_cons]
  cases k with
  | zero=>simp at h2; subst h2; simp
  | succ k =>
   have hx:x≠n:=fun e=>h1 0 (by omega) (by simp [e])
   have:(x == n)=false:=by rw [Qu]; exact hx
   rw [this]
   simp only [cond_false]
   rw [ih (n:=n) (k:=k) (fun i hi=>by have:=h1 (i+1) (by omega); simpa using this) (by simpa using h2)]
theorem Zyu:∀ {met:List Nat} {n:Nat},(∀ i,i<met.length→met[i]?≠some n)→met.idxOf n=met.length:=by
 intro met
 induction met with
 | nil=>intro n _; rfl
 | cons x met ih =>
  intro n h1
  rw [List.idxOf_cons]
  have hx:x≠n:=fun e=>h1 0 (by simp) (by simp [e])
  have:(x == n)=false:=by rw [Qu]; exact hx
  rw [this]
  simp only [cond_false,Qf]
  rw [ih (n:=n) (fun i hi=>by have:=h1 (i+1) (by simp; omega); simpa using this)]
theorem Zps (w:World) (n:Nat) (lv:Value) (met:List Nat) (h:w.ownsRow 0 3 1 lv met.length (ints met)) (hl:met.length≤10000) (hn:n≤200000) :
  Calls Tryd.prog 76 #[.int .i64 n,lv] w fun e w'=>e = .returned (.int .i64 (met.idxOf n))∧w'=w:=by
 obtain ⟨la,lcap,rfl⟩:=Zad h
 have H:=Zac h
 clear h
 go_enter Tryd.func76,Tryd.ntmps76
 go_wp2
 go_loopg [5] (met.length+1) (fun gk pv wr=>∃ (k:Nat),pv = .int .i64 k∧k≤met.length∧met.length - k<gk∧wr=w∧∀ i,i<k→met[i]?≠some n)
 case atStart=>exact ⟨0,by go_num,Qm _,by omega,rfl,fun i hi=>by omega⟩
 case round =>
  obtain ⟨k,rfl,hk,hgk,rfl,hbef⟩:=hrel
  have Hbef:=Zac hbef
  clear hbef
  by_cases hlt:k<met.length
  ·have hlt':(k:Int)<(met.length:Int):=by omega
   obtain ⟨x,hx⟩:∃ x,met[k]?=some x:=⟨_,Qb hlt⟩
   obtain ⟨g,cap',cur,he,_,hgb,_⟩:=Zat H.out (by omega)
   simp only [Value.slice.injEq] at he
   obtain ⟨rfl,_,rfl⟩:=he
   have x0:wr.cell? ⟨g,k,none⟩=some (.int .i64 x):=Zai H.out k _ (by simp only [ints,Qj,hx,Option.map_some])
   have hgl:=Zab hgb
   have Hx:=Zac hx
   clear hx hgb
   by_cases hxn:x=n
   ·subst hxn
    have Hi:Hid (met.idxOf x=k):=Yan Hbef.out Hx.out
    go_wp2
    go_ret
    exact ⟨by rw [Hi.out]; simp,rfl⟩
   ·have hb:((x:Int) != (n:Int))=true:=by rw [bne_iff_ne]; omega
    go_wp2
    go_roundg (met.length - k)
    case measure=>omega
    case rel =>
     refine ⟨k+1,by go_num,by omega,by omega,rfl,fun i hi => ?_⟩
     by_cases e:i=k
     ·subst e
      rw [Hx.out]
      simpa using hxn
     ·exact Hbef.out i (by omega)
  ·have hek:k=met.length:=by omega
   subst hek
   have Hi:Hid (met.idxOf n=met.length):=Zyu Hbef.out
   have hlt':¬ ((met.length:Int)<(met.length:Int)):=by omega
   go_wp2
   go_ret
   exact ⟨by rw [Hi.out]; simp,rfl⟩
theorem TermsAt.other {w w':World} {B B2 n s:Nat} {e:TypeId} {v vv:Value} {ls:List (List Sym)} {vs ys:List Value} (h:TermsAt w B v ls vs) (hv:w.ownsRow B2 e s vv n ys) (he1:52≠e) (he2:79≠e) (hk:Kept (Zbo vv) w w'):TermsAt w' B v ls vs :=
 ⟨hk.owns h.owns (fun j hj hS=>by
  obtain ⟨cur,hc⟩:=Zbr hv j hS
  exact Zaf h.owns he1 hc hj),fun i l hi=>by
  obtain ⟨x,h1,h2⟩:=h.all i l hi
  refine ⟨x,h1,hk.owns h2 (fun j hj hS => ?_)⟩
  obtain ⟨cur,hc⟩:=Zbr hv j hS
  exact Zaf h2 he2 hc hj⟩
structure OrdB (w:World) (Bc:Nat) (rl:List (List Sym)) (rv:Value) (xs:List Value) (met:List Nat) (mv:Value) (ch:List Sym) (cv:Value) (wr:World):Prop where
 ext:Ext w wr
 row:TermsAt wr w.heap.size rv rl xs
 low:∀ x ∈ xs,∀ j,x.ownBlock=some j→j<Bc
 met:wr.ownsRow w.heap.size 3 1 mv met.length (ints met)
 b1:w.heap.size≤Bc
 b2:Bc≤wr.heap.size
 chg:wr.ownsRow Bc 79 3 cv ch.length (Zag ch)
theorem OrdB.on {w wr w1:World} {Bc:Nat} {rl:List (List Sym)} {rv mv cv:Value} {xs:List Value} {met:List Nat} {ch:List Sym} (h:OrdB w Bc rl rv xs met mv ch cv wr) (e:Ext wr w1):OrdB w Bc rl rv xs met mv ch cv w1:=by
 obtain ⟨h1,h2,h3,h4,h5,h6,h7⟩:=h
 exact ⟨h1.trans (e.mono h1.size),h2.ext e,h3,Zao h4 (fun j hj=>e.block j (h4.lt j hj).2),h5,Qq h6 e.size,Zao h7 (fun j hj=>e.block j (h7.lt j hj).2)⟩
theorem OrdB.metApp {w w1 w2:World} {Bc n:Nat} {rl:List (List Sym)} {rv mv mv2 cv:Value} {xs:List Value} {met:List Nat} {ch:List Sym} (h:OrdB w Bc rl rv xs met mv ch cv w1) (hap:Appended w1 w.heap.size 3 1 mv (met.length+1) (ints met++[.int .i64 n]) mv2 w2):OrdB w Bc rl rv xs (met++[n]) mv2 ch cv w2:=by
 obtain ⟨h1,h2,h3,h4,h5,h6,h7⟩:=h
 have hsz:=hap.kept.size
 refine ⟨h1.trans (hap.kept.below h1.size (fun j hj=>(h4.lt j hj).1)),h2.other h4 (by decide) (by decide) hap.kept,h3,?_,h5,by omega,hap.kept.owns h7 (fun j hj hS => ?_)⟩
 ·have:=hap.owns
  simpa [ints] using this
 ·obtain ⟨cur,hc⟩:=Zbr h4 j hS
  exact Zaf h7 (by decide) hc hj
theorem OrdB.chApp {w w1 w2:World} {Bc:Nat} {rl:List (List Sym)} {rv mv cv cv2:Value} {xs:List Value} {met:List Nat} {ch:List Sym} {s:Sym} (h:OrdB w Bc rl rv xs met mv ch cv w1) (hap:Appended w1 Bc 79 3 cv (ch.length+1) (Zag ch++Zbi s) cv2 w2):OrdB w Bc rl rv xs met mv (ch++[s]) cv2 w2:=by
 obtain ⟨h1,h2,h3,h4,h5,h6,h7⟩:=h
 have hsz:=hap.kept.size
 refine ⟨h1.trans (hap.kept.below h1.size (fun j hj=>Qq h5 (h7.lt j hj).1)),⟨hap.kept.owns h2.owns (fun j hj hS => ?_),fun i l hi => ?_⟩,h3,hap.kept.owns h4 (fun j hj hS => ?_),h5,by omega,?_⟩
 ·obtain ⟨cur,hc⟩:=Zbr h7 j hS
  exact Zaf h2.owns (by decide) hc hj
 ·obtain ⟨x,e1,e2⟩:=h2.all i l hi
  refine ⟨x,e1,hap.kept.owns e2 (fun j hj hS => ?_)⟩
  have:=h3 x (Qh e1) j hj
  have:=(h7.lt j hS).1
  omega
 ·obtain ⟨cur,hc⟩:=Zbr h7 j hS
  exact Zaf h4 (by decide) hc hj
 ·have:=hap.owns
  rw [Zck,Qg]
  simpa [Zag] using this
theorem OrdB.box {w w1 w2:World} {Bc M:Nat} {cs:Array Value} {fr:Nat × Nat} {rl:List (List Sym)} {rv mv cv:Value} {xs:List Value} {met:List Nat} {ch:List Sym} (h:OrdB w Bc rl rv xs met mv ch cv w1) (hM:w1.heap[M]?=some (.cells cs 79 fr)) (hB:Bc≤M) (hc:∀ j,cv.ownBlock=some j→j≠M) (hk:Kept (fun k=>k=M) w1 w2):OrdB w Bc rl rv xs met mv ch cv w2:=by
 obtain ⟨h1,h2,h3,h4,h5,h6,h7⟩:=h
 have hsz:=hk.size
 refine ⟨h1.trans (hk.below h1.size (fun j hj=>by omega)),⟨Zdo h2.owns hM (by decide) hk,fun i l hi => ?_⟩,h3,Zdo h4 hM (by decide) hk,h5,by omega,hk.owns h7 (fun j hj hS=>hc j hj hS)⟩
 obtain ⟨x,e1,e2⟩:=h2.all i l hi
 refine ⟨x,e1,hk.owns e2 (fun j hj hS => ?_)⟩
 have:=h3 x (Qh e1) j hj
 have hS:j=M:=hS
 omega
theorem TermsAt.words {w:World} {B:Nat} {v:Value} {ls:List (List Sym)} {vs:List Value} (h:TermsAt w B v ls vs):∀ x ∈ vs,∀ j,x.ownBlock=some j→j<w.heap.size:=fun x hx j hj=>by
 have hlen:vs.length=ls.length:=by have:=h.owns.1; omega
 obtain ⟨i,hi⟩:=List.mem_iff_getElem?.1 hx
 have hil:=(Qa.1 hi).1
 obtain ⟨y,h3,h4⟩:=h.all i _ (Qb (by omega))
 rw [hi] at h3
 simp only [Qo] at h3
 subst h3
 exact (h4.lt j hj).2
theorem Zyv (n:Nat) (met:List Nat):(meet n met).length≤met.length+1:=by unfold meet; split <;> simp
theorem Zlh:∀ (l:List Sym) (met:List Nat),(Zar l met).2.length≤met.length+l.length:=by
 intro l
 induction l with
 | nil=>intro met; simp [Zar]
 | cons s l ih =>
  intro met
  simp only [Zar]
  split
  ·have:=ih (meet s.num met); have:=Zyv s.num met; simp; omega
  ·have:=ih met; simp; omega
theorem Zli:∀ (ts:List (List Sym)) (met:List Nat),(Zau ts met).2.length≤met.length+ts.flatten.length:=by
 intro ts
 induction ts with
 | nil=>intro met; simp [Zau]
 | cons t ts ih =>
  intro met
  simp only [Zau,List.flatten_cons,Qg]
  have:=ih (Zar t met).2
  have:=Zlh t met
  omega
def Ybp (ts:List (List Sym)) (w:World) (e:Ending) (w':World):Prop:=Ext w w'∧∃ x c,e = .returned (.slice x ts.length c)∧TermsIn w' (.slice x ts.length c) (Zau ts []).1
theorem Zpt (w:World) (tv:Value) (ts:List (List Sym)) (h:TermsIn w tv ts) (hl:ts.length≤1000) (hf:ts.flatten.length≤8000) (hok:∀ t ∈ ts,TmOk t) :
  Calls Tryd.prog 55 #[tv] w (Ybp ts w):=by
 obtain ⟨us,h⟩:=h
 obtain ⟨ta,tcap,rfl⟩:=Zad h.owns
 have H:=Zac h
 have Hok:=Zac hok
 have Hf:=Zac hf
 clear h hok hf
 go_enter Tryd.func55,Tryd.ntmps55
 go_wp2
 go_loopg [3,4,13] (ts.length+1) (fun gk rv mv iv wr=>∃ (k:Nat) (xs:List Value),iv = .int .i64 k∧k≤ts.length∧ts.length - k<gk∧OrdB w wr.heap.size (Zau (ts.take k) []).1 rv xs (Zau (ts.take k) []).2 mv [] (.slice none 0 0) wr)
 case atStart=>exact ⟨0,[],by go_num,Qm _,by omega,Below.refl _ _,TermsAt.nil _ _,by simp,World.ownsRow_nil _ _ _ _,Qe _,Qe _,World.ownsRow_nil _ _ _ _⟩
 case round =>
  obtain ⟨k,xs,rfl,hk,hgk,hA⟩:=hrel
  have hmet:(Zau (ts.take k) []).2.length≤8000:=by
   have h1:=Zli (ts.take k) []
   have h2:=Hf.out
   have h3:(ts.take k).flatten.length≤ts.flatten.length:=by
    conv=>rhs; rw [← List.take_append_drop k ts,List.flatten_append,Qg]
    omega
   simp at h1
   simp at h2 h3
   omega
  have hlk:(Zau (ts.take k) []).1.length=k:=by rw [Zec]; simp; omega
  obtain ⟨rl,hrl⟩:∃ r,r=(Zau (ts.take k) []).1:=⟨_,rfl⟩
  obtain ⟨met,hme⟩:∃ r,r=(Zau (ts.take k) []).2:=⟨_,rfl⟩
  rw [← hrl,← hme] at hA
  rw [← hme] at hmet
  rw [← hrl] at hlk
  have hrow:=hA.row.owns
  rw [hlk] at hrow
  obtain ⟨ra,rcap,rfl⟩:=Zad hrow
  obtain ⟨ma,mcap,rfl⟩:=Zad hA.met
  have hsr:=hA.ext.size
  have HA:=Zac hA
  have Hrl:=Zac hrl
  have Hme:=Zac hme
  have Hlk:=Zac hlk
  clear hA hrow hrl hme hlk
  by_cases hlt:k<ts.length
  ·obtain ⟨t,ht⟩:∃ t,ts[k]?=some t:=⟨_,Qb hlt⟩
   obtain ⟨x,hx,hxo⟩:=H.out.all _ t ht
   obtain ⟨xa,xcap,rfl⟩:=Zad hxo
   obtain ⟨g,cap',cur,he,_,hgb,_⟩:=Zat H.out.owns (by omega)
   simp only [Value.slice.injEq] at he
   obtain ⟨rfl,_,rfl⟩:=he
   have hgw:=Zab hgb
   have hgr:g<wr.heap.size:=by omega
   have x0:wr.cell? ⟨g,k,none⟩=some (.slice xa t.length xcap):=(HA.out.ext.cell (p:=⟨g,k,none⟩) hgw).trans (Zai H.out.owns _ _ hx)
   obtain ⟨o1,o2,o3⟩:=Hok.out t (Qh ht)
   have Hxo:Hid (WordAt w (.slice xa t.length xcap) t):=hxo
   have Ht:=Zac ht
   have Ho3:=Zac o3
   have Hta:Hid (∀ (i:Nat) s,t[i]?=some s→s.name=[]→s.args=0):=fun i s hs=>by obtain ⟨j,hj⟩:=o1; exact (Zhd hj hs).1
   have hm8:met.length+t.length≤9000:=by omega
   obtain ⟨wo,hwo⟩:∃ x,x=wr:=⟨_,rfl⟩
   subst hwo
   clear ht hx hxo hgb o1 o3
   go_wp2
   go_loopg [4,7,19] (t.length+1) (fun gk mv cv iv wr=>∃ (i:Nat),iv = .int .i64 i∧i≤t.length∧t.length - i<gk∧OrdB w wo.heap.size rl (.slice ra k rcap) xs (Zar (t.take i) met).2 mv (Zar (t.take i) met).1 cv wr)
   case atStart=>exact ⟨0,by go_num,Qm _,by omega,HA.out⟩
   case round =>
    obtain ⟨i,rfl,hi,hgi,hB⟩:=hrel
    have hmi:(Zar (t.take i) met).2.length≤9000:=by
     have:=Zlh (t.take i) met
     simp at this
     omega
    have hci:(Zar (t.take i) met).1.length=i:=by rw [Zhn]; simp; omega
    obtain ⟨ch,hch⟩:∃ r,r=(Zar (t.take i) met).1:=⟨_,rfl⟩
    obtain ⟨mt,hmt⟩:∃ r,r=(Zar (t.take i) met).2:=⟨_,rfl⟩
    rw [← hch,← hmt] at hB
    rw [← hmt] at hmi
    rw [← hch] at hci
    have hcg:=hB.chg
    rw [hci] at hcg
    obtain ⟨ca,ccap,rfl⟩:=Zad hcg
    obtain ⟨na,ncap,rfl⟩:=Zad hB.met
    have hsi:=hB.ext.size
    have hb2:=hB.b2
    have HB:=Zac hB
    have Hch:=Zac hch
    have Hmt:=Zac hmt
    have Hci:=Zac hci
    clear hB hcg hch hmt hci x0
    by_cases hit:i<t.length
    ·obtain ⟨s,hs⟩:∃ s,t[i]?=some s:=⟨_,Qb hit⟩
     obtain ⟨g2,cap2,cur2,he2,_,hgb2,_⟩:=Zat Hxo.out (by omega)
     simp only [Value.slice.injEq] at he2
     obtain ⟨rfl,_,rfl⟩:=he2
     have ho:=Zao Hxo.out (fun j hj=>HB.out.ext.block j (Hxo.out.lt j hj).2)
     have hgw2:=Zab hgb2
     have hgr2:g2<wr.heap.size:=by omega
     have e0:wr.cell? ⟨g2,i * 3,none⟩=some (.string ⟨s.name.toArray⟩):=Zai ho _ _ (by have:=Zav t i s hs 0 (by omega); rw [Nat.add_zero] at this; rw [this]; rfl)
     have e1:wr.cell? ⟨g2,i * 3+1,none⟩=some (.int .i64 s.num):=Zai ho _ _ (by rw [Zav t i s hs 1 (by omega)]; rfl)
     have e2:wr.cell? ⟨g2,i * 3+2,none⟩=some (.int .i64 s.args):=Zai ho _ _ (by rw [Zav t i s hs 2 (by omega)]; rfl)
     have hsn:=Ho3.out s (Qh hs)
     have hnx:Zar (t.take (i+1)) met=(if s.name=[] then (ch++[⟨[],mt.idxOf s.num,s.args⟩],meet s.num mt) else (ch++[s],mt)):=by
      rw [List.take_add_one,hs]
      simp only [Option.toList]
      rw [Zhm,← Hch.out,← Hmt.out]
      simp only [Zar]
      split <;> rfl
     have Hnx:=Zac hnx
     clear hs ho hgb2 hnx
     cases hnm:s.name with
     | cons y ys =>
      rw [hnm] at e0
      have Hnx2:Hid (Zar (t.take (i+1)) met=(ch++[s],mt)):=by show _=_; rw [Hnx.out,if_neg (by rw [hnm]; simp)]
      have Hs2:Hid (s=⟨y::ys,s.num,s.args⟩):=by show _=_; rw [← hnm]
      have hE:Ext wr (wr.alloc (.cells #[.string ⟨(y::ys).toArray⟩,.int .i64 s.num,.int .i64 s.args] 79)):=(Ext.of (by repeat' (first | with_reducible(first|exact Qx _ _|apply Kept.drew|apply Kept.drewN|apply Qz|refine Qy ?_ ?_ _)|exact fun h=>absurd h (by simp <;> omega))))
      have HB1:=Zac (HB.out.on hE)
      have Hrow:Hid ((wr.alloc (.cells #[.string ⟨(y::ys).toArray⟩,.int .i64 s.num,.int .i64 s.args] 79)).ownsRow wo.heap.size 79 3 (.slice ca i ccap) i (Zag ch)):=by have:=HB1.out.chg; rw [Hci.out] at this; exact this
      clear hnm hE
      go_wp2_with (at_builtin; go_loud (refine Zam (wr.alloc (.cells #[.string ⟨(y::ys).toArray⟩,.int .i64 s.num,.int .i64 s.args] 79)) rfl (.tmp 41) (.tmp 43) 52 rfl wo.heap.size 79 Tryd.infoSym Tryd.underlying52 rfl (by decide) (.slice ca i ccap) i (Zag ch) rfl Hrow.out #[.string ⟨(y::ys).toArray⟩,.int .i64 s.num,.int .i64 s.args] (N:=wr.heap.size+1) rfl (by simp) rfl (Zfl _ _ _) ?_ ?_ ?_))
      ·omega
      ·simp; omega
      intro v2 w2 hap
      obtain ⟨a2,c2,rfl⟩:=Zad hap.owns
      have hB2:=HB1.out.chApp (s:=s) (cv2 := .slice a2 (i+1) c2) (w2:=w2) (by rw [Hci.out,Hs2.out]; simpa [Zbi] using hap)
      have HB2:=Zac hB2
      clear hap hB2
      go_wp2
      go_roundg (t.length - i)
      case measure=>omega
      case rel=>exact ⟨i+1,by go_num,by omega,by omega,by rw [Hnx2.out]; exact HB2.out⟩
     | nil =>
      rw [hnm] at e0
      obtain ⟨P,hP⟩:∃ p,p=mt.idxOf s.num:=⟨_,rfl⟩
      have hPl:P≤mt.length:=by rw [hP]; exact List.idxOf_le_length
      have hE:∀ o,Ext wr (wr.alloc o):=fun o=>(Ext.of (by repeat' (first | with_reducible(first|exact Qx _ _|apply Kept.drew|apply Kept.drewN|apply Qz|refine Qy ?_ ?_ _)|exact fun h=>absurd h (by simp <;> omega))))
      have HPl:=Zac (Zps (wr.alloc (.cells #[.string ⟨#[]⟩,.int .i64 s.num,.int .i64 s.args] 79)) s.num (.slice na mt.length ncap) mt (Zbc (HB.out.on (hE _)).met (Qm _)) (by omega) hsn)
      rw [← hP] at HPl
      have Hnx2:Hid (Zar (t.take (i+1)) met=(ch++[⟨[],P,s.args⟩],meet s.num mt)):=by show _=_; rw [Hnx.out,if_pos hnm,← hP]
      have Hmeet:Hid (meet s.num mt=if P=mt.length then mt++[s.num] else mt):=by show _=_; unfold meet; rw [← hP]
      have HE:=Zac hE
      have HBm:=Zac (HB.out.on (hE (.cells #[.string ⟨#[]⟩,.int .i64 s.num,.int .i64 s.args] 79)))
      clear hnm hE hP
      go_wp2_with fail
      refine HPl.out.mono ?_
      rintro e w1 ⟨rfl,rfl⟩
      by_cases hnew:P=mt.length
      ·subst hnew
       have hz:((mt.length:Int) == (mt.length:Int))=true:=by simp
       have Hmrow:Hid ((wr.alloc (.cells #[.string ⟨#[]⟩,.int .i64 s.num,.int .i64 s.args] 79)).ownsRow w.heap.size 3 1 (.slice na mt.length ncap) mt.length (ints mt)):=HBm.out.met
       go_wp2_with (at_builtin; go_loud (refine Zam (wr.alloc (.cells #[.string ⟨#[]⟩,.int .i64 s.num,.int .i64 s.args] 79)) rfl (.tmp 34) (.tmp 37) 22 rfl w.heap.size 3 Tryd.infoInt Tryd.underlying22 rfl (by decide) (.slice na mt.length ncap) mt.length (ints mt) rfl Hmrow.out #[.int .i64 s.num] (N:=wr.heap.size+1) rfl (by simp) rfl (Zlt _) ?_ ?_ ?_))
       ·omega
       ·simp; omega
       intro v2 w2 hap
       obtain ⟨a2,c2,rfl⟩:=Zad hap.owns
       have hB2:=HBm.out.metApp (n:=s.num) hap
       have hbx:w2.heap[wr.heap.size]?=some (.cells #[.string ⟨#[]⟩,.int .i64 s.num,.int .i64 s.args] 79 (0,0)):=(hap.kept.block _ (by simp) (Zaf Hmrow.out (by decide) (heap_alloc_new wr _))).trans (heap_alloc_new wr _)
       have hK:Kept (fun k=>k=wr.heap.size) w2 (w2.setCell ⟨wr.heap.size,1,none⟩ (.int .i64 mt.length)):=(Qx (only wr.heap.size) w2).put 1 _
       have hB3:=hB2.box hbx hb2 (fun j hj=>by have:=(HB.out.chg.lt j hj).2; omega) hK
       have y0:=Zaa hbx 0 _ rfl
       have y1:=Zaa hbx 1 _ rfl
       have y2:=Zaa hbx 2 _ rfl
       have yf:=fun i=>Zae hbx i
       have yl:=Zab hbx
       have hsz2:=hap.kept.size
       simp at hsz2
       have HB3:=Zac hB3
       have Hrow:Hid ((w2.setCell ⟨wr.heap.size,1,none⟩ (.int .i64 mt.length)).ownsRow wo.heap.size 79 3 (.slice ca i ccap) i (Zag ch)):=by have:=hB3.chg; rw [Hci.out] at this; exact this
       have Hme2:Hid (meet s.num mt=mt++[s.num]):=by show _=_; rw [Hmeet.out]; simp
       clear hap hB2 hbx hK hB3 e0 e1 e2
       go_wp2_with (at_builtin; go_loud (refine Zam (w2.setCell ⟨wr.heap.size,1,none⟩ (.int .i64 mt.length)) rfl (.tmp 41) (.tmp 43) 52 rfl wo.heap.size 79 Tryd.infoSym Tryd.underlying52 rfl (by decide) (.slice ca i ccap) i (Zag ch) rfl Hrow.out #[.string ⟨#[]⟩,.int .i64 mt.length,.int .i64 s.args] (N:=w2.heap.size) rfl (by simp) rfl (Zfl _ _ _) ?_ ?_ ?_))
       ·omega
       ·simp; omega
       intro v4 w4 hap
       obtain ⟨a4,c4,rfl⟩:=Zad hap.owns
       have hB4:=HB3.out.chApp (s:=⟨[],mt.length,s.args⟩) (cv2 := .slice a4 (i+1) c4) (w2:=w4) (by rw [Hci.out]; simpa [Zbi] using hap)
       have HB4:=Zac hB4
       clear hap hB4
       go_wp2
       go_roundg (t.length - i)
       case measure=>omega
       case rel=>exact ⟨i+1,by go_num,by omega,by omega,by rw [Hnx2.out,Hme2.out]; exact HB4.out⟩
      ·have hz:((P:Int) == (mt.length:Int))=false:=by rw [Qu]; omega
       have Hme2:Hid (meet s.num mt=mt):=by show _=_; rw [Hmeet.out,if_neg hnew]
       have HB3:=Zac (HB.out.on (HE.out (.cells #[.string ⟨#[]⟩,.int .i64 P,.int .i64 s.args] 79)))
       have Hrow:Hid ((wr.alloc (.cells #[.string ⟨#[]⟩,.int .i64 P,.int .i64 s.args] 79)).ownsRow wo.heap.size 79 3 (.slice ca i ccap) i (Zag ch)):=by have:=HB3.out.chg; rw [Hci.out] at this; exact this
       clear hnew
       go_wp2_with (at_builtin; go_loud (refine Zam (wr.alloc (.cells #[.string ⟨#[]⟩,.int .i64 P,.int .i64 s.args] 79)) rfl (.tmp 41) (.tmp 43) 52 rfl wo.heap.size 79 Tryd.infoSym Tryd.underlying52 rfl (by decide) (.slice ca i ccap) i (Zag ch) rfl Hrow.out #[.string ⟨#[]⟩,.int .i64 P,.int .i64 s.args] (N:=wr.heap.size+1) rfl (by simp) rfl (Zfl _ _ _) ?_ ?_ ?_))
       ·omega
       ·simp; omega
       intro v4 w4 hap
       obtain ⟨a4,c4,rfl⟩:=Zad hap.owns
       have hB4:=HB3.out.chApp (s:=⟨[],P,s.args⟩) (cv2 := .slice a4 (i+1) c4) (w2:=w4) (by rw [Hci.out]; simpa [Zbi] using hap)
       have HB4:=Zac hB4
       clear hap hB4
       go_wp2
       go_roundg (t.length - i)
       case measure=>omega
       case rel=>exact ⟨i+1,by go_num,by omega,by omega,by rw [Hnx2.out,Hme2.out]; exact HB4.out⟩
    ·have hei:i=t.length:=by omega
     subst hei
     have Hrow:Hid (wr.ownsRow w.heap.size 52 1 (.slice ra k rcap) k xs):=by have:=HB.out.row.owns; rw [Hlk.out] at this; exact this
     go_wp2_with (at_builtin; go_loud (refine Zam wr rfl (.tmp 46) (.tmp 48) 53 rfl w.heap.size 52 Tryd.infoSyms Tryd.underlying53 rfl (by decide) (.slice ra k rcap) k xs rfl Hrow.out #[.slice ca t.length ccap] (N:=wr.heap.size) rfl (by simp) rfl (Zcx _ _ _) ?_ ?_ ?_))
     ·omega
     ·omega
     intro v2 w2 hap
     obtain ⟨a2,c2,rfl⟩:=Zad hap.owns
     have hfin:OrdB w w2.heap.size (Zau (ts.take (k+1)) []).1 (.slice a2 (k+1) c2) (xs++[.slice ca t.length ccap]) (Zau (ts.take (k+1)) []).2 (.slice na mt.length ncap) [] (.slice none 0 0) w2:=by
      have hch:=Hch.out
      have hmt:=Hmt.out
      rw [List.take_length] at hch hmt
      have hnx:Zau (ts.take (k+1)) []=(rl++[ch],mt):=by
       rw [List.take_add_one,Ht.out]
       simp only [Option.toList]
       rw [Zlz,← Hrl.out,← Hme.out]
       simp only [Zau]
       rw [hch,hmt]
      rw [hnx]
      obtain ⟨q1,q2,q3,q4,q5,q6,q7⟩:=HB.out
      have hsz:=hap.kept.size
      have hx:WordAt wr (.slice ca t.length ccap) ch:=Zbc q7 (Qm _)
      have ht:TermsAt w2 w.heap.size (.slice a2 (k+1) c2) (rl++[ch]) (xs++[.slice ca t.length ccap]):=q2.snoc (by rw [Hlk.out]; exact hap) hx
      refine ⟨q1.trans (hap.kept.below q1.size (fun j hj=>(Hrow.out.lt j hj).1)),ht,ht.words,hap.kept.owns q4 (fun j hj hS => ?_),by omega,Qe _,World.ownsRow_nil _ _ _ _⟩
      obtain ⟨cur,hc⟩:=Zbr Hrow.out j hS
      exact Zaf q4 (by decide) hc hj
     have Hfin:=Zac hfin
     clear hap hfin
     go_wp2
     go_roundg (ts.length - k)
     case measure=>omega
     case rel=>exact ⟨k+1,_,by go_num,by omega,by omega,Hfin.out⟩
  ·have hek:k=ts.length:=by omega
   subst hek
   go_wp2
   go_ret
   have hr:=Hrl.out
   rw [List.take_length] at hr
   obtain ⟨q1,q2,_⟩:=HA.out
   rw [hr] at q2
   exact ⟨q1,ra,rcap,rfl,q2.inn⟩
structure TxOk (ts:List (List Sym)):Prop where
 len:ts.length≤1000
 all:ts.flatten.length≤8000
 ok:∀ t ∈ ts,TmOk t
 sym:∀ t ∈ (Zau ts []).1,Zxy t
 txt:∀ t ∈ (Zau ts []).1,(Zbu t []).length≤1000000
def Zjy (ts:List (List Sym)):List (List UInt8):=(Zau ts []).1.map (fun t=>Zbu t [])
def Zyw (ts:List (List Sym)) (w:World) (e:Ending) (w':World):Prop:=Ext w w'∧∃ x c,e = .returned (.slice x ts.length c)∧w'.ownsRow 0 9 1 (.slice x ts.length c) ts.length (strs (Zjy ts))
theorem Zwn (w:World) (tv:Value) (ts:List (List Sym)) (h:TermsIn w tv ts) (ho:TxOk ts):Calls Tryd.prog 45 #[tv] w (Zyw ts w):=by
 obtain ⟨ta,tcap,rfl⟩:=h.shape
 have HI:=Zac (Zpt w _ ts h ho.len ho.all ho.ok)
 have Ho:=Zac ho
 have hl:=ho.len
 have hcl:(Zau ts []).1.length=ts.length:=Zec _ _
 obtain ⟨C,hC⟩:∃ C,C=(Zau ts []).1:=⟨_,rfl⟩
 have Htx:Hid (Zjy ts=C.map (fun t=>Zbu t [])):=by show _=_; unfold Zjy; rw [hC]
 rw [← hC] at hcl
 have HC:=Zac hC
 have Hcl:=Zac hcl
 clear h ho hC hcl
 go_enter Tryd.func45,Tryd.ntmps45
 go_wp2_with fail
 refine HI.out.mono ?_
 rintro e w1 ⟨hE1,xa,xc,rfl,hT⟩
 rw [← HC.out] at hT
 obtain ⟨us,hT⟩:=hT
 have hz1:=hE1.size
 have HE1:=Zac hE1
 have HT:=Zac hT
 clear hE1 hT HI
 go_wp2
 go_loopg [3,9] (ts.length+1) (fun gk rv iv wr=>∃ (k:Nat),iv = .int .i64 k∧k≤ts.length∧ts.length - k<gk∧Ext w1 wr∧wr.ownsRow w1.heap.size 9 1 rv k (strs ((C.take k).map (fun t=>Zbu t []))))
 case atStart=>exact ⟨0,by go_num,Qm _,by omega,Below.refl _ _,World.ownsRow_nil _ _ _ _⟩
 case round =>
  obtain ⟨k,rfl,hk,hgk,hE,hown⟩:=hrel
  obtain ⟨ra,rcap,rfl⟩:=Zad hown
  have hsr:=hE.size
  have HE:=Zac hE
  have Hown:=Zac hown
  clear hE hown
  by_cases hlt:k<ts.length
  ·have hkC:k<C.length:=by rw [Hcl.out]; exact hlt
   obtain ⟨t,ht⟩:∃ t,C[k]?=some t:=⟨_,Qb hkC⟩
   obtain ⟨y,hy,hyo⟩:=HT.out.all _ t ht
   obtain ⟨ya,ycap,rfl⟩:=Zad hyo
   have hor:=HT.out.owns
   rw [Hcl.out] at hor
   obtain ⟨g,cap',cur,he,_,hgb,_⟩:=Zat hor (by omega)
   simp only [Value.slice.injEq] at he
   obtain ⟨rfl,_,rfl⟩:=he
   have hgw:=Zab hgb
   have hgr:g<wr.heap.size:=by omega
   have x0:wr.cell? ⟨g,k,none⟩=some (.slice ya t.length ycap):=(HE.out.cell (p:=⟨g,k,none⟩) hgw).trans (Zai hor _ _ hy)
   have htm:t ∈ (Zau ts []).1:=by rw [← HC.out]; exact Qh ht
   have hso:=Ho.out.sym t htm
   have htx:=Ho.out.txt t htm
   have HA:=Zac (Znm wr 0 (.slice ya t.length ycap) t (WordAt.ext hyo HE.out) hso.1 hso.2 (by omega))
   have hnx:C.take (k+1)=C.take k++[t]:=by rw [List.take_add_one,ht]; rfl
   obtain ⟨A,hA⟩:∃ A,A=Zbu t []:=⟨_,rfl⟩
   rw [← hA] at HA htx
   have HAA:=Zac hA
   have Hnx:=Zac hnx
   clear ht hy hyo hor hgb htm hso hnx hA
   go_wp2_with fail
   refine HA.out.mono ?_
   rintro e w2 ⟨rfl,hE2⟩
   have hz2:=hE2.size
   have HE2:Hid (Ext w1 w2):=HE.out.trans (hE2.mono hsr)
   have Hrow:Hid (w2.ownsRow w1.heap.size 9 1 (.slice ra k rcap) k (strs ((C.take k).map (fun t=>Zbu t [])))):=Zao Hown.out (fun j hj=>hE2.block j (Hown.out.lt j hj).2)
   clear hE2 x0
   go_wp2_with (at_builtin; go_loud (refine Zam w2 rfl (.tmp 13) (.tmp 16) 34 rfl w1.heap.size 9 Tryd.infoStr Tryd.underlying34 rfl (by decide) (.slice ra k rcap) k (strs ((C.take k).map (fun t=>Zbu t []))) rfl Hrow.out #[.string ⟨A.toArray⟩] (N:=w2.heap.size) rfl (by simp) rfl (Zuf _) ?_ ?_ ?_))
   ·omega
   ·omega
   intro v3 w3 hap
   obtain ⟨a3,c3,rfl⟩:=Zad hap.owns
   have hE3:Ext w1 w3:=HE2.out.trans (hap.kept.below (by omega) (fun j hj=>(Hrow.out.lt j hj).1))
   have hrow3:w3.ownsRow w1.heap.size 9 1 (.slice a3 (k+1) c3) (k+1) (strs ((C.take (k+1)).map (fun t=>Zbu t []))):=by
    have:=hap.owns
    rw [Hnx.out,Qr]
    simp only [List.map_cons,List.map_nil,strs,Qr]
    rw [← HAA.out]
    rw [← List.map_take] at this
    exact this
   have HE3:=Zac hE3
   have Hrow3:=Zac hrow3
   clear hap hE3 hrow3
   go_wp2
   go_roundg (ts.length - k)
   case measure=>omega
   case rel=>exact ⟨k+1,by go_num,by omega,by omega,HE3.out,Hrow3.out⟩
  ·have hek:k=ts.length:=by omega
   subst hek
   go_wp2
   go_ret
   have hrow:=Hown.out
   rw [← Hcl.out,List.take_length] at hrow
   rw [← Htx.out,Hcl.out] at hrow
   exact ⟨HE1.out.trans (HE.out.mono hz1),ra,rcap,rfl,Zbc hrow (Qm _)⟩
theorem Zki (w:World) (nv vv:Value) (names:Names) (ts:List (List Sym)) (hn:w.ownsRow 0 9 1 nv names.length (strs names)) (h:TermsIn w vv ts) (ho:TxOk ts) (hl:names.length=ts.length) (hL:(Zgk [] names (Zau ts []).1).length≤100000000) :
  Calls Tryd.prog 37 #[nv,vv] w fun e w'=>Ext w w'∧e = .returned (.string ⟨(if names=[] then [121,101,115] else Zgk [] names (Zau ts []).1).toArray⟩):=by
 obtain ⟨na,ncap,rfl⟩:=Zad hn
 obtain ⟨ta,tcap,rfl⟩:=h.shape
 by_cases h0:names=[]
 ·subst h0
  clear hn h ho hl hL
  go_enter Tryd.func37,Tryd.ntmps37
  go_wp2
  go_ret
  exact ⟨Below.refl _ _,by simp⟩
 ·have hpos:0<names.length:=List.length_pos_iff.2 h0
  rw [if_neg h0]
  have HI:=Zac (Zwn w _ ts h ho)
  have hcl:(Zau ts []).1.length=ts.length:=Zec _ _
  have hlen:=ho.len
  obtain ⟨C,hC⟩:∃ C,C=(Zau ts []).1:=⟨_,rfl⟩
  have Htx:Hid (Zjy ts=C.map (fun t=>Zbu t [])):=by show _=_; unfold Zjy; rw [hC]
  rw [← hC] at hcl hL ⊢
  obtain ⟨F,hF⟩:∃ F,F=Zgk [] names C:=⟨_,rfl⟩
  rw [← hF] at hL ⊢
  have HF:=Zac hF
  have Hn:=Zac hn
  have Hcl:=Zac hcl
  have z1:((names.length:Int) == 0)=false:=by rw [Qu]; omega
  have Hl:=Zac hl
  obtain ⟨N,hN⟩:∃ N,N=names.length:=⟨_,rfl⟩
  rw [← hN] at z1 hpos ⊢
  have hNl:N≤1000:=by omega
  have htN:ts.length=N:=by omega
  rw [htN]
  have HN:=Zac hN
  have HtN:=Zac htN
  rw [htN] at HI
  clear hn h ho hC hF hcl hl h0 hN htN
  go_enter Tryd.func37,Tryd.ntmps37
  go_wp2_with fail
  refine HI.out.mono ?_
  rintro e w1 ⟨hE1,xa,xc,rfl,hT⟩
  rw [HtN.out] at hT ⊢
  rw [Htx.out] at hT
  have hz1:=hE1.size
  have HE1:=Zac hE1
  have HT:=Zac hT
  clear hE1 hT HI
  go_wp2
  go_loopg [5,14] (N+1) (fun gk tx iv wr=>∃ (k:Nat) (acc:List UInt8),iv = .int .i64 k∧k≤N∧N - k<gk∧tx = .string ⟨acc.toArray⟩∧acc++Zgk (if k=0 then [] else [44]) (names.drop k) (C.drop k)=F∧wr=w1)
  case atStart=>exact ⟨0,[],by go_num,Qm _,by omega,rfl,by rw [HF.out]; rfl,rfl⟩
  case round =>
   obtain ⟨k,acc,rfl,hk,hgk,rfl,hacc,rfl⟩:=hrel
   by_cases hlt:k<N
   ·have hkn:k<names.length:=by rw [← HN.out]; exact hlt
    have hkC:k<C.length:=by rw [Hcl.out,HtN.out]; exact hlt
    obtain ⟨x,hx⟩:∃ x,names[k]?=some x:=⟨_,Qb hkn⟩
    obtain ⟨t,ht⟩:∃ t,C[k]?=some t:=⟨_,Qb hkC⟩
    have hdx:names.drop k=x::names.drop (k+1):=by rw [List.drop_eq_getElem_cons hkn,(Qa.1 hx).2]
    have hdt:C.drop k=t::C.drop (k+1):=by rw [List.drop_eq_getElem_cons hkC,(Qa.1 ht).2]
    rw [hdx,hdt,Zgk] at hacc
    have hor:w.ownsRow 0 9 1 (.slice na N ncap) N (strs names):=by have:=Hn.out; rw [← HN.out] at this; exact this
    obtain ⟨g,cap',cur,he,_,hgb,_⟩:=Zat hor (by omega)
    simp only [Value.slice.injEq] at he
    obtain ⟨rfl,_,rfl⟩:=he
    have hgw:=Zab hgb
    have hgr:g<wr.heap.size:=by omega
    have x0:wr.cell? ⟨g,k,none⟩=some (.string ⟨x.toArray⟩):=(HE1.out.cell (p:=⟨g,k,none⟩) hgw).trans (Zai hor _ _ (by simp [strs,hx]))
    obtain ⟨g2,cap2,cur2,he2,_,hgb2,_⟩:=Zat HT.out (by omega)
    simp only [Value.slice.injEq] at he2
    obtain ⟨rfl,_,rfl⟩:=he2
    have hgr2:=Zab hgb2
    obtain ⟨A,hA⟩:∃ A,A=Zbu t []:=⟨_,rfl⟩
    have y0:wr.cell? ⟨g2,k,none⟩=some (.string ⟨A.toArray⟩):=Zai HT.out _ _ (by simp [strs,ht,hA])
    rw [← hA] at hacc
    have hlen2:=Zpa hacc
    simp only [Qg,Qf] at hlen2
    have Hacc:=Zac hacc
    have hkN:¬ ((N:Int)≤(k:Int)):=by omega
    clear hacc hdx hdt hx ht hor hgb hgb2 hA
    by_cases hk0:k=0
    ·subst hk0
     have Hacc2:Hid (acc++(x++[61]++A)++Zgk [44] (names.drop (0+1)) (C.drop (0+1))=F):=by show _=_; rw [← Hacc.out]; simp
     simp only [if_pos,Jt] at hlen2
     go_wp2
     go_roundg (N - 0)
     case measure=>omega
     case rel =>
      refine ⟨0+1,acc++(x++[61]++A),by go_num,by omega,by omega,?_,Hacc2.out,rfl⟩
      show Value.string (_++(_++(⟨[61].toArray⟩:ByteArray)++_))=_
      rw [Zbp,Zbp,Zbp]
    ·have Hacc2:Hid (acc++[44]++(x++[61]++A)++Zgk [44] (names.drop (k+1)) (C.drop (k+1))=F):=by show _=_; rw [← Hacc.out,if_neg hk0]; simp
     rw [if_neg hk0] at hlen2
     simp only [Qf,Jt] at hlen2
     have hk1:(0:Int)<(k:Int):=by omega
     go_wp2
     go_roundg (N - k)
     case measure=>omega
     case rel =>
      refine ⟨k+1,acc++[44]++(x++[61]++A),by go_num,by omega,by omega,?_,by rw [if_neg (by omega)]; exact Hacc2.out,rfl⟩
      show Value.string (_++(⟨[44].toArray⟩:ByteArray)++(_++(⟨[61].toArray⟩:ByteArray)++_))=_
      rw [Zbp,Zbp,Zbp,Zbp]
   ·have hek:k=N:=by omega
    subst hek
    have Hacc:Hid (acc=F):=by
     show _=_
     rw [List.drop_eq_nil_of_le (by rw [← HN.out]; exact Qe _)] at hacc
     simpa [Zgk] using hacc
    clear hacc
    go_wp2
    go_ret
    rw [← Hacc.out]
    exact ⟨HE1.out,rfl⟩
end Go.Proofs.YtlmjilpjmgjjcabDoor
