/-
  PROVED HERE: what the program's 'proof.follow' gives (the conditions stand in the statement).
-/
import Derived.Test.YtlmjilpjmgjjcabGreatDoorT7
set_option linter.unusedSimpArgs false
set_option linter.unusedVariables false
set_option maxRecDepth 10000
set_option maxHeartbeats 4000000
namespace Go.Proofs.YtlmjilpjmgjjcabGreatDoor
open Go.RowKit
theorem Zth (s:ByteArray) (w:World) (hl:s.size≤800) :
  Calls Tryz.prog 40 #[.string s] w fun e w'=>Below w.heap.size w w'∧(((runs s false).1≠0∧e = .returned (.tuple #[.slice none 0 0,.agg #[.int .i64 (runs s false).1,.int .i64 (runs s false).2.1]])) ∨
   ((runs s false).1=0∧∃ v B Sa Sb xs,e = .returned (.tuple #[v,.agg #[.int .i64 0,.int .i64 0]])∧CCRow w' B Sa Sb v (runs s false).2.2.clauses xs∧w.heap.size≤B)):=by
 obtain ⟨R,hR⟩:∃ R,R=runs s false:=⟨_,rfl⟩
 have hA:=Zmu ((w.alloc (.cells #[.int .i64 0,.int .i64 0] 60)).alloc (.cells (Zdd (st0 false) nilV) 121)) _ _ (st0 false) s (Yik (w.alloc (.cells #[.int .i64 0,.int .i64 0] 60)) false) (Ycq false) (by omega)
 rw [show runT s.size (toks s.data.toList 0) (st0 false)=R from hR.symm] at hA
 rw [show (w.alloc (.cells #[.int .i64 0,.int .i64 0] 60)).heap.size=w.heap.size+1 from by simp] at hA
 have HA:=Zac hA
 rw [← hR]
 clear hR hA
 go_enter Tryz.func40,Tryz.ntmps40
 go_wp2_with fail
 refine HA.out.mono ?_
 rintro e w2 ⟨rfl,hr,hb⟩
 have hF:FaultAt w2 w.heap.size 0 0:=(hb.block w.heap.size (by omega)).trans (Zar (heap_alloc_new w _) _)
 have hB:Below w.heap.size w w2:=((Below.refl _ w).alloc (Qe _) _).trans ((((Below.refl _ _).alloc (by simp) _)).trans (hb.mono (by omega)))
 obtain ⟨V,Sa,Sb,vs,xs,h⟩:=hr
 have hrb:=Zab h.blk
 obtain ⟨c0,c1,c2,c3,c4,c5,c6,c7,c8⟩:=h.opens.facts
 have cf:=fun i=>Zae h.blk i
 obtain ⟨ca,ccap,hvc⟩:=Zad h.rest.cls.1
 rw [hvc] at c8
 obtain ⟨hT4,f0,f1,ff⟩:=hF.cells
 have HF:=Zac hF
 have HB:=Zac hB
 have HC:=Zac h.rest.cls
 have Hvc:=Zac hvc
 clear hF hB h hvc hb c0 c1 c2 c3 c4 c5 c6 c7
 by_cases hc:R.1=0
 ·have b0:((R.1:Int) != 0)=false:=by rw [hc]; rfl
  have Hc:=Zac hc
  clear hc
  go_wp2
  refine bodyPost_ret (v := .tuple #[.slice ca R.2.2.clauses.length ccap,.agg #[.int .i64 0,.int .i64 0]]) (by simp [results,Tryz.results40,go_sem,f0,f1,ff,hT4]) rfl ?_
  refine ⟨?_,Or.inr ⟨Hc.out,_,w.heap.size+1,Sa,Sb,xs,rfl,?_,by omega⟩⟩
  ·exact ((HB.out.setCell (p:=⟨w.heap.size,0,none⟩) (Qe _) _).setCell (p:=⟨w.heap.size,1,none⟩) (Qe _) _).alloc (by simp; omega) _
  ·rw [← Hvc.out]
   exact Ygd HC.out ((((Qx (only w.heap.size) w2).put 0 _).put 1 _).alloc _) (fun k cur T fr hk hb=>by
    have hk:k=w.heap.size:=hk
    rw [hk,HF.out] at hb
    simp only [Qo,Obj.cells.injEq] at hb
    rw [← hb.2.1]
    decide)
 ·have b0:((R.1:Int) != 0)=true:=by rw [bne_iff_ne]; omega
  have Hc:=Zac hc
  clear hc
  go_wp2_with fail
  go_region
  all_goals
   go_wp2
   refine bodyPost_ret (v := .tuple #[.slice none 0 0,.agg #[.int .i64 R.1,.int .i64 R.2.1]]) (by simp [results,Tryz.results40,go_sem,f0,f1,ff,hT4]) rfl ?_
   refine ⟨?_,Or.inl ⟨Hc.out,rfl⟩⟩
   exact (((HB.out.setCell (p:=⟨w.heap.size,0,none⟩) (Qe _) _).setCell (p:=⟨w.heap.size,1,none⟩) (Qe _) _).alloc (by simp; omega) _).drew
def Yhh (p:ByteArray) (w:World) (e:Ending) (w':World):Prop:=Ext w w'∧((Zcl p=none∧∃ er pl:Nat,er≠0∧e = .returned (.tuple #[.slice none 0 0,.agg #[.int .i64 er,.int .i64 pl]])) ∨
 (∃ cs a c xs,Zcl p=some cs∧e = .returned (.tuple #[.slice a cs.length c,.agg #[.int .i64 0,.int .i64 0]])∧ProgIn w' (.slice a cs.length c) cs xs∧∀ j,(Value.slice a cs.length c).ownBlock=some j→w.heap.size≤j))
theorem Yeq (p:ByteArray) (w:World) (hp:p.size≤maxLen):Calls Tryz.prog 40 #[.string p] w (Yhh p w):=by
 by_cases hb:800<p.size
 ·refine (Zpr p w hp hb).mono ?_
  rintro e w' ⟨rfl,hE⟩
  exact ⟨hE,Or.inl ⟨by unfold Zcl; rw [if_pos hb],1,0,by omega,rfl⟩⟩
 ·refine (Zth p w (by omega)).mono ?_
  rintro e w' ⟨hE,⟨hne,rfl⟩ | ⟨h0,v,B,Sa,Sb,xs,rfl,hrow,hB⟩⟩
  ·obtain ⟨r1,_,_⟩:=Zdu p false
   refine ⟨hE,Or.inl ⟨?_,_,_,hne,rfl⟩⟩
   unfold Zcl
   rw [if_neg hb,if_pos (by rw [← r1]; exact hne)]
  ·obtain ⟨r1,_,_⟩:=Zdu p false
   obtain ⟨cs,h1,h2⟩:=Zsj p (by omega) h0
   have hpo:Zcl p=some cs:=by
    unfold Zcl
    rw [if_neg hb,if_neg (by rw [← r1]; simp [h0]),h1]
   rw [h2] at hrow
   obtain ⟨a,c,rfl⟩:=Zad hrow.1
   exact ⟨hE,Or.inr ⟨cs,a,c,xs,hpo,rfl,hrow.prog,fun j hj=>Qq hB (hrow.1.lt j hj).1⟩⟩
def Ykf (q:ByteArray) (w:World) (e:Ending) (w':World):Prop:=Ext w w'∧((Zdx q=none∧∃ er pl:Nat,er≠0∧e = .returned (.tuple #[.agg #[.slice none 0 0,.slice none 0 0,.slice none 0 0],.agg #[.int .i64 er,.int .i64 pl]])) ∨
 (∃ a h1 h2 h3 b1 bc n1 nc,Zdx q=some a∧e = .returned (.tuple #[.agg #[.slice h1 h2 h3,.slice b1 a.1.length bc,.slice n1 a.2.length nc],.agg #[.int .i64 0,.int .i64 0]])∧TermsIn w' (.slice b1 a.1.length bc) a.1∧w'.ownsRow 0 9 1 (.slice n1 a.2.length nc) a.2.length (strs a.2)))
theorem Yhi (q:ByteArray) (w:World) (hq:q.size≤maxLen):Calls Tryz.prog 41 #[.string q] w (Ykf q w):=by
 by_cases hb:120<q.size
 ·refine (Zuf q w hq hb).mono ?_
  rintro e w' ⟨rfl,hE⟩
  exact ⟨hE,Or.inl ⟨by unfold Zdx; rw [if_pos hb],1,0,by omega,rfl⟩⟩
 ·refine (Zyv q w (by omega) (fun h0 => ?_)).mono ?_
  ·obtain ⟨x,e1,e2,_⟩:=Zit q (by omega) h0
   exact ⟨_,_,e2⟩
  rintro e w' ⟨hE,⟨hne,rfl⟩ | ⟨h0,hv,bv,vv,B,Sa,vs,c,cs,rfl,hcs,⟨h1,h2,h3,rfl⟩,hn,hbd⟩⟩
  ·obtain ⟨r1,_,_⟩:=Zdu q true
   refine ⟨hE,Or.inl ⟨?_,_,_,hne,rfl⟩⟩
   unfold Zdx
   rw [if_neg hb,if_pos (by rw [← r1]; exact hne)]
  ·obtain ⟨r1,_,_⟩:=Zdu q true
   obtain ⟨x,e1,e2,_⟩:=Zit q (by omega) h0
   have hao:Zdx q=some (x.1,x.2.2):=by
    unfold Zdx
    rw [if_neg hb,if_neg (by rw [← r1]; simp [h0]),e1]
    rfl
   rw [e2] at hcs
   simp only [List.cons.injEq] at hcs
   obtain ⟨rfl,_⟩:=hcs
   obtain ⟨n1,nc,rfl⟩:=Zad hn
   obtain ⟨b1,bc,rfl⟩:=Zad hbd.1
   exact ⟨hE,Or.inr ⟨(x.1,x.2.2),h1,h2,h3,b1,bc,n1,nc,hao,rfl,hbd.terms,Zba hn (Qm _)⟩⟩
def Yhj (p q:ByteArray) (w:World) (e:Ending) (w':World):Prop:=Ext w w'∧((Zcl p=none∧e = .returned (.tuple #[.slice none 0 0,.agg #[.slice none 0 0,.slice none 0 0,.slice none 0 0],.int .i64 4])) ∨
 ((∃ cs,Zcl p=some cs)∧Zdx q=none∧e = .returned (.tuple #[.slice none 0 0,.agg #[.slice none 0 0,.slice none 0 0,.slice none 0 0],.int .i64 5])) ∨
 (∃ cs a l1 lc xs h1 h2 h3 b1 bc n1 nc,Zcl p=some cs∧Zdx q=some a∧e = .returned (.tuple #[.slice l1 cs.length lc,.agg #[.slice h1 h2 h3,.slice b1 a.1.length bc,.slice n1 a.2.length nc],.int .i64 0])∧ProgIn w' (.slice l1 cs.length lc) cs xs∧TermsIn w' (.slice b1 a.1.length bc) a.1∧w'.ownsRow 0 9 1 (.slice n1 a.2.length nc) a.2.length (strs a.2)))
theorem ProgIn.box {w w':World} {M:Nat} {cs0:Array Value} {t:TypeId} {fr:Nat × Nat} {v:Value} {cs:List Cls} {xs:List (List Value)} (h:ProgIn w v cs xs) (hM:w.heap[M]?=some (.cells cs0 t fr)) (h1:74≠t∨∀ j,v.ownBlock=some j→j≠M) (h2:72≠t) (h3:102≠t) (h4:9≠t) (hk:Kept (fun k=>k=M) w w'):ProgIn w' v cs xs :=
 ⟨hk.owns h.owns (fun j hj hS=>by
  rcases h1 with h1 | h1
  ·have hS:j=M:=hS
   rw [hS] at hj
   exact Zag h.owns h1 hM hj
  ·exact h1 j hj hS),h.len,h.three,fun i c hc=>by
  obtain ⟨hv,bv,vv,e1,e2⟩:=h.all i c hc
  exact ⟨hv,bv,vv,e1,Zct e2.head hM h3 hk,e2.body.box hM h2 h3 hk,Zct e2.names hM h4 hk⟩⟩
theorem Znf (p q:ByteArray) (w:World) (hp:p.size≤maxLen) (hq:q.size≤maxLen):Calls Tryz.prog 25 #[.string p,.string q] w (Yhj p q w):=by
 have HP:=Zac (fun u=>Yeq p u hp)
 have HQ:=Zac (fun u=>Yhi q u hq)
 clear hp hq
 go_enter Tryz.func25,Tryz.ntmps25
 go_wp2_with fail
 refine (HP.out _).mono ?_
 rintro e w1 ⟨hE1,hc⟩
 have hs1:=hE1.size
 simp at hs1
 have hb1:w1.heap[w.heap.size]?=some (.cells #[.slice none 0 0,.slice none 0 0,.slice none 0 0] 74 (0,0)):=(hE1.block _ (by simp)).trans (heap_alloc_new w _)
 obtain ⟨b0,b1,b2,bf⟩:w1.cell? ⟨w.heap.size,0,none⟩=some (.slice none 0 0)∧w1.cell? ⟨w.heap.size,1,none⟩=some (.slice none 0 0)∧w1.cell? ⟨w.heap.size,2,none⟩=some (.slice none 0 0)∧∀ i,w1.frozen? ⟨w.heap.size,i,none⟩=false:=⟨Zaa hb1 0 _ rfl,Zaa hb1 1 _ rfl,Zaa hb1 2 _ rfl,fun i=>Zae hb1 i⟩
 have hm1:w.heap.size<w1.heap.size:=by omega
 have HEw1:Hid (Ext w w1):=((Ext.of (by repeat' (first | with_reducible(first|exact Qx _ _|apply Kept.drew|apply Kept.drewN|apply Qz|refine Qy ?_ ?_ _)|exact fun h=>absurd h (by simp <;> omega)))):Ext w (w.alloc _)).trans (hE1.mono (by simp))
 have Hb1:=Zac hb1
 rcases hc with ⟨hno,er,pl,her,rfl⟩ | ⟨cs,la,lcap,xs,hsome,rfl,hrow,hnew⟩
 ·have hb:((er:Int) != 0)=true:=by rw [bne_iff_ne]; omega
  have Hno:=Zac hno
  clear hno hE1 hb1
  go_wp2
  refine bodyPost_ret (v := .tuple #[.slice none 0 0,.agg #[.slice none 0 0,.slice none 0 0,.slice none 0 0],.int .i64 4]) (by simp [results,Tryz.results25,go_sem,b0,b1,b2,bf,hm1]) rfl ?_
  refine ⟨HEw1.out.trans (Kept.below (S:=fun i=>w.heap.size≤i) (by repeat' (first | with_reducible(first|exact Qx _ _|apply Kept.drew|apply Kept.drewN|apply Qz|refine Qy ?_ ?_ _)|(intro _; simp only; omega))) (by omega) (fun i e=>e)),Or.inl ⟨Hno.out,rfl⟩⟩
 ·have Hrow:=Zac hrow
  have Hsome:=Zac hsome
  have Hnew:Hid (∀ j,(Value.slice la cs.length lcap).ownBlock=some j→j≠w.heap.size):=fun j hj=>by
   have:=hnew j hj
   simp at this
   omega
  clear hrow hsome hE1 hb1 hnew
  go_wp2_with fail
  refine (HQ.out _).mono ?_
  rintro e w2 ⟨hE2,hc⟩
  have hs2:=hE2.size
  simp at hs2
  have hE12:Ext w1 w2:=(Below.refl _ w1 |>.alloc (Qe _) _).trans (hE2.mono (by simp))
  have hb2:=(hE12.block _ hm1).trans Hb1.out
  obtain ⟨b0,b1,b2,bf⟩:w2.cell? ⟨w.heap.size,0,none⟩=some (.slice none 0 0)∧w2.cell? ⟨w.heap.size,1,none⟩=some (.slice none 0 0)∧w2.cell? ⟨w.heap.size,2,none⟩=some (.slice none 0 0)∧∀ i,w2.frozen? ⟨w.heap.size,i,none⟩=false:=⟨Zaa hb2 0 _ rfl,Zaa hb2 1 _ rfl,Zaa hb2 2 _ rfl,fun i=>Zae hb2 i⟩
  have hm2:w.heap.size<w2.heap.size:=by omega
  have HEw2:Hid (Ext w w2):=HEw1.out.trans (hE12.mono (by omega))
  have Hb2:=Zac hb2
  have HE2:=Zac hE12
  clear hE12
  rcases hc with ⟨hno,er,pl,her,rfl⟩ | ⟨a,h1,h2,h3,c1,cc,n1,nc,hask,rfl,hA,hN⟩
  ·have hb:((er:Int) != 0)=true:=by rw [bne_iff_ne]; omega
   have Hno:=Zac hno
   clear hno hE2 hb2
   go_wp2
   refine bodyPost_ret (v := .tuple #[.slice none 0 0,.agg #[.slice none 0 0,.slice none 0 0,.slice none 0 0],.int .i64 5]) (by simp [results,Tryz.results25,go_sem,b0,b1,b2,bf,hm2]) rfl ?_
   refine ⟨HEw2.out.trans (Kept.below (S:=fun i=>w.heap.size≤i) (by repeat' (first | with_reducible(first|exact Qx _ _|apply Kept.drew|apply Kept.drewN|apply Qz|refine Qy ?_ ?_ _)|(intro _; simp only; omega))) (by omega) (fun i e=>e)),Or.inr (Or.inl ⟨⟨cs,Hsome.out⟩,Hno.out,rfl⟩)⟩
  ·have HA:=Zac hA
   have HN:=Zac hN
   have Hask:=Zac hask
   clear hA hN hask hE2 hb2
   go_wp2_with fail
   go_region
   all_goals
    go_wp2
    refine bodyPost_ret (v := .tuple #[.slice la cs.length lcap,.agg #[.slice h1 h2 h3,.slice c1 a.1.length cc,.slice n1 a.2.length nc],.int .i64 0]) (by simp [results,Tryz.results25,go_sem,b0,b1,b2,bf,hm2]) rfl ?_
    refine ⟨HEw2.out.trans (Kept.below (S:=fun i=>w.heap.size≤i) (by repeat' (first | with_reducible(first|exact Qx _ _|apply Kept.drew|apply Kept.drewN|apply Qz|refine Qy ?_ ?_ _)|(intro _; simp only; omega))) (by omega) (fun i e=>e)),Or.inr (Or.inr ⟨cs,a,la,lcap,xs,h1,h2,h3,c1,cc,n1,nc,Hsome.out,Hask.out,rfl,?_,?_,?_⟩)⟩
    ·exact ((Hrow.out.ext HE2.out).box Hb2.out (Or.inr Hnew.out) (by decide) (by decide) (by decide) ((((Qx (only w.heap.size) w2).put 0 _).put 1 _).put 2 _)).ext (Ext.of (by repeat' (first | with_reducible(first|exact Qx _ _|apply Kept.drew|apply Kept.drewN|apply Qz|refine Qy ?_ ?_ _)|exact fun h=>absurd h (by simp <;> omega))))
    ·exact (HA.out.box Hb2.out (by decide) (by decide) ((((Qx (only w.heap.size) w2).put 0 _).put 1 _).put 2 _)).ext (Ext.of (by repeat' (first | with_reducible(first|exact Qx _ _|apply Kept.drew|apply Kept.drewN|apply Qz|refine Qy ?_ ?_ _)|exact fun h=>absurd h (by simp <;> omega))))
    ·exact Zah (Zct HN.out Hb2.out (by decide) ((((Qx (only w.heap.size) w2).put 0 (.slice h1 h2 h3)).put 1 (.slice c1 a.1.length cc)).put 2 (.slice n1 a.2.length nc))) (fun j hj=>((Ext.of (by repeat' (first | with_reducible(first|exact Qx _ _|apply Kept.drew|apply Kept.drewN|apply Qz|refine Qy ?_ ?_ _)|exact fun h=>absurd h (by simp <;> omega)))):Ext _ _).block j (by simp; have:=(HN.out.lt j hj).2; omega))
structure WBg (w:World) (gv vv rv:Value) (u uu:Nat) (hv bv nv:Value) (gl:List (List Sym)) (g:Value) (xs:List Value) (wr:World):Prop where
 ext:Ext w wr
 nb:NB wr w.heap.size gv vv rv u
 cb:wr.heap[w.heap.size+1]?=some (.cells #[hv,bv,nv] 74 (0,0))
 res:NB wr (w.heap.size+2) (.slice none 0 0) (.slice none 0 0) (.slice none 0 0) 0
 box:NB wr (w.heap.size+3) g vv (.slice none 0 0) uu
 row:TermsAt wr w.heap.size g gl xs
theorem WBg.on {w wr w1:World} {gv vv rv hv bv nv g:Value} {u uu:Nat} {gl:List (List Sym)} {xs:List Value} (h:WBg w gv vv rv u uu hv bv nv gl g xs wr) (e:Ext wr w1):WBg w gv vv rv u uu hv bv nv gl g xs w1:=by
 obtain ⟨h1,h2,h3,h4,h5,h6⟩:=h
 exact ⟨h1.trans (e.mono h1.size),(e.block _ (Zab h2)).trans h2,(e.block _ (Zab h3)).trans h3,(e.block _ (Zab h4)).trans h4,(e.block _ (Zab h5)).trans h5,h6.ext e⟩
theorem WBg.app {w w1 w2:World} {gv vv rv hv bv nv g g2 x:Value} {u uu n:Nat} {gl:List (List Sym)} {l:List Sym} {xs:List Value} (h:WBg w gv vv rv u uu hv bv nv gl g xs w1) (hn:gl.length=n) (hx:WordAt w1 x l) (hap:Appended w1 w.heap.size 72 1 g (n+1) (xs++[x]) g2 w2) :
  WBg w gv vv rv u uu hv bv nv (gl++[l]) g2 (xs++[x]) (w2.setCell ⟨w.heap.size+3,0,none⟩ g2):=by
 obtain ⟨h1,h2,h3,h4,h5,h6⟩:=h
 have b2:=(hap.kept.block _ (Zab h2) (Zag h6.owns (by decide) h2)).trans h2
 have b3:=(hap.kept.block _ (Zab h3) (Zag h6.owns (by decide) h3)).trans h3
 have b4:=(hap.kept.block _ (Zab h4) (Zag h6.owns (by decide) h4)).trans h4
 have b5:=(hap.kept.block _ (Zab h5) (Zag h6.owns (by decide) h5)).trans h5
 have hK:Kept (fun j=>j=w.heap.size+3) w2 (w2.setCell ⟨w.heap.size+3,0,none⟩ g2):=(Qx (only (w.heap.size+3)) w2).put 0 _
 exact ⟨(h1.trans (hap.kept.below h1.size (fun j hj=>(h6.owns.lt j hj).1))).setCell (p:=⟨w.heap.size+3,0,none⟩) (by simp) _,(hK.block _ (Zab b2) (by simp)).trans b2,(hK.block _ (Zab b3) (by simp)).trans b3,(hK.block _ (Zab b4) (by simp)).trans b4,Zaf b5 0 _,
  (h6.snoc (by rw [hn]; exact hap) hx).box b5 (by decide) (by decide) hK⟩
structure WBr (w:World) (B:Nat) (gv vv rv:Value) (u uu:Nat) (hv bv nv:Value) (gl:List (List Sym)) (g:Value) (rl:List (List Sym)) (r:Value) (ys:List Value) (wr:World):Prop where
 ext:Ext w wr
 nb:NB wr w.heap.size gv vv rv u
 cb:wr.heap[w.heap.size+1]?=some (.cells #[hv,bv,nv] 74 (0,0))
 res:NB wr (w.heap.size+2) (.slice none 0 0) (.slice none 0 0) (.slice none 0 0) 0
 box:NB wr (w.heap.size+3) g vv r uu
 goals:TermsIn wr g gl
 low:∀ j,g.ownBlock=some j→j<B
 b1:w.heap.size≤B
 b2:B≤wr.heap.size
 row:TermsAt wr B r rl ys
theorem WBr.on {w wr w1:World} {B:Nat} {gv vv rv hv bv nv g r:Value} {u uu:Nat} {gl rl:List (List Sym)} {ys:List Value} (h:WBr w B gv vv rv u uu hv bv nv gl g rl r ys wr) (e:Ext wr w1):WBr w B gv vv rv u uu hv bv nv gl g rl r ys w1:=by
 obtain ⟨h1,h2,h3,h4,h5,h6,h7,h8,h9,h10⟩:=h
 exact ⟨h1.trans (e.mono h1.size),(e.block _ (Zab h2)).trans h2,(e.block _ (Zab h3)).trans h3,(e.block _ (Zab h4)).trans h4,(e.block _ (Zab h5)).trans h5,h6.ext e,h7,h8,Qq h9 e.size,h10.ext e⟩
theorem WBr.app {w w1 w2:World} {B n:Nat} {gv vv rv hv bv nv g r r2 x:Value} {u uu:Nat} {gl rl:List (List Sym)} {l:List Sym} {ys:List Value} (h:WBr w B gv vv rv u uu hv bv nv gl g rl r ys w1) (hn:rl.length=n) (hx:WordAt w1 x l) (hap:Appended w1 B 72 1 r (n+1) (ys++[x]) r2 w2) :
  WBr w B gv vv rv u uu hv bv nv gl g (rl++[l]) r2 (ys++[x]) (w2.setCell ⟨w.heap.size+3,2,none⟩ r2):=by
 obtain ⟨h1,h2,h3,h4,h5,h6,h7,h8,h9,h10⟩:=h
 have b2:=(hap.kept.block _ (Zab h2) (Zag h10.owns (by decide) h2)).trans h2
 have b3:=(hap.kept.block _ (Zab h3) (Zag h10.owns (by decide) h3)).trans h3
 have b4:=(hap.kept.block _ (Zab h4) (Zag h10.owns (by decide) h4)).trans h4
 have b5:=(hap.kept.block _ (Zab h5) (Zag h10.owns (by decide) h5)).trans h5
 have hK:Kept (fun j=>j=w.heap.size+3) w2 (w2.setCell ⟨w.heap.size+3,2,none⟩ r2):=(Qx (only (w.heap.size+3)) w2).put 2 _
 have hsz:=hap.kept.size
 exact ⟨(h1.trans (hap.kept.below h1.size (fun j hj=>Qq h8 (h10.owns.lt j hj).1))).setCell (p:=⟨w.heap.size+3,2,none⟩) (by simp) _,(hK.block _ (Zab b2) (by simp)).trans b2,(hK.block _ (Zab b3) (by simp)).trans b3,(hK.block _ (Zab b4) (by simp)).trans b4,Zaf b5 2 _,
  (h6.aside h7 h10.owns hap.kept).box b5 (by decide) (by decide) hK,h7,h8,by simp; omega,(h10.snoc (by rw [hn]; exact hap) hx).box b5 (by decide) (by decide) hK⟩
def LayApp (w0:World) (B:Nat) (x gv:Value) (n:Nat) (xs:List Value) (F:Value→World→Prop):List Value→World→Prop
 | [],u=>u=w0
 | [y],u=>y = .slice (some ⟨w0.heap.size,0,none⟩) 1 1∧u=w0.alloc (.cells #[x] 72)
 | [_,z],u=>Appended w0 B 72 1 gv (n+1) (xs++[x]) z u
 | [_,z,_],u=>F z u
 | _,_=>False
theorem LayApp.ext {w0:World} {B:Nat} {x gv:Value} {n:Nat} {xs:List Value} {F:Value→World→Prop}:∀ {vs:List Value} {u:World},LayApp w0 B x gv n xs F vs u→vs.length≤1→Ext w0 u
 | [],u,h,_=>by obtain rfl:u=w0:=h; exact Below.refl _ _
 | [y],u,h,_=>by
  obtain ⟨_,rfl⟩:=h
  exact (Below.refl _ _).alloc (Qe _) _
 | _::_::_,_,_,h=>by simp at h
def Ykg (gl vl rl:List (List Sym)) (vv:Value) (uu:Nat) (w:World) (e:Ending) (w':World):Prop:=Ext w w'∧∃ g1 gc r1 rc,e = .returned (.agg #[.slice g1 gl.length gc,vv,.slice r1 rl.length rc,.int .i64 uu])∧TermsIn w' (.slice g1 gl.length gc) gl∧TermsIn w' (.slice r1 rl.length rc) rl
theorem Zti (w:World) (gv vv rv hv bv nv:Value) (g0:List Sym) (gs vl rl body:List (List Sym)) (ns:Names) (u:Nat) (h1:TermsIn w gv (g0::gs)) (h2:TermsIn w vv vl) (h3:TermsIn w rv rl) (hh:∃ a n x,hv = .slice a n x) (hb:TermsIn w bv body) (hns:w.ownsRow 0 9 1 nv ns.length (strs ns))
  (hgl:(g0::gs).length≤1000) (hrl:rl.length≤1000) (hbl:body.length≤1000) (hnl:ns.length≤4000) (hu:u≤190000) (hbo:∀ l ∈ body,TmOk l) :
  Calls Tryz.prog 62 #[.agg #[gv,vv,rv,.int .i64 u],.agg #[hv,bv,nv]] w (Ykg (body.map (fun l=>l.map (rn u))++gs) vl (rl++[g0]) vv (u+ns.length) w):=by
 obtain ⟨ha,hn1,hc1,rfl⟩:=hh
 obtain ⟨gus,h1⟩:=h1
 obtain ⟨rus,h3⟩:=h3
 obtain ⟨bus,hb⟩:=hb
 obtain ⟨va,vcap,rfl⟩:=h2.shape
 obtain ⟨ga,gcap,rfl⟩:=Zad h1.owns
 obtain ⟨ra,rcap,rfl⟩:=Zad h3.owns
 obtain ⟨ba,bcap,rfl⟩:=Zad hb.owns
 obtain ⟨na,ncap,rfl⟩:=Zad hns
 obtain ⟨GL,hGL⟩:∃ G,G=g0::gs:=⟨_,rfl⟩
 rw [← hGL] at h1 hgl ⊢
 have hGpos:0<GL.length:=by rw [hGL]; simp
 have H1:=Zac h1
 have H3:=Zac h3
 have Hb:=Zac hb
 have Hbo:=Zac hbo
 have HGL:=Zac hGL
 clear h1 h2 h3 hb hns hbo hGL
 obtain ⟨uu,huu⟩:∃ n,n=u+ns.length:=⟨_,rfl⟩
 have HI:Hid ((u:Int)+(ns.length:Int)=(uu:Int)):=by show _=_; omega
 have huu2:uu≤200000:=by omega
 obtain ⟨bl',hbl'⟩:∃ L,L=body.map (fun l=>l.map (rn u)):=⟨_,rfl⟩
 rw [← huu,← hbl']
 have hbn:bl'.length=body.length:=by rw [hbl']; simp
 have Hbl:=Zac hbl'
 clear huu hbl'
 go_enter Tryz.func62,Tryz.ntmps62
 go_wp2
 rw [HI.out]
 go_loopg [24] (body.length+1) (fun gk iv wr=>∃ (k:Nat) (g:Value) (xs:List Value),iv = .int .i64 k∧k≤body.length∧body.length - k<gk∧WBg w (.slice ga GL.length gcap) (.slice va vl.length vcap) (.slice ra rl.length rcap) u uu (.slice ha hn1 hc1) (.slice ba body.length bcap) (.slice na ns.length ncap) ((body.take k).map (fun l=>l.map (rn u))) g xs wr)
 case atStart=>exact ⟨0,.slice none 0 0,[],by go_num,Qm _,by omega,(Ext.of (by repeat' (first | with_reducible(first|exact Qx _ _|apply Kept.drew|apply Kept.drewN|apply Qz|refine Qy ?_ ?_ _)|exact fun h=>absurd h (by simp <;> omega)))),Zar (Zar (Zar (heap_alloc_new w _) _) _) _,Zar (Zar (Zdn (by simp) _) _) _,Zar (Zdn (by simp) _) _,Zdn (by simp) _,TermsAt.nil _ _⟩
 case round =>
  obtain ⟨k,g,xs,rfl,hk,hgk,hA⟩:=hrel
  have hlk:((body.take k).map (fun l=>l.map (rn u))).length=k:=by simp; omega
  have hrow:=hA.row.owns
  rw [hlk] at hrow
  obtain ⟨ra1,rcap1,rfl⟩:=Zad hrow
  have hsr:=hA.ext.size
  have m3:wr.cell? ⟨w.heap.size,3,none⟩=some (.int .i64 u):=Zaa hA.nb 3 _ rfl
  have m0:wr.cell? ⟨w.heap.size,0,none⟩=some (.slice ga GL.length gcap):=Zaa hA.nb 0 _ rfl
  have m2:wr.cell? ⟨w.heap.size,2,none⟩=some (.slice ra rl.length rcap):=Zaa hA.nb 2 _ rfl
  have n0:wr.cell? ⟨w.heap.size+3,0,none⟩=some (.slice ra1 k rcap1):=Zaa hA.box 0 _ rfl
  have ml:=Zab hA.nb
  have nl:=Zab hA.box
  have HA:=Zac hA
  clear hA hrow hlk
  by_cases hlt:k<body.length
  ·obtain ⟨l,hs⟩:∃ l,body[k]?=some l:=⟨_,Qb hlt⟩
   obtain ⟨x,hx,hxo⟩:=Hb.out.all _ l hs
   obtain ⟨xa,xcap,rfl⟩:=Zad hxo
   obtain ⟨bb,cap',cur,he,_,hgb,_⟩:=Zao Hb.out.owns (by omega)
   simp only [Value.slice.injEq] at he
   obtain ⟨rfl,_,rfl⟩:=he
   have hgw:=Zab hgb
   have hgr:bb<wr.heap.size:=by omega
   have x0:wr.cell? ⟨bb,k,none⟩=some (.slice xa l.length xcap):=(HA.out.ext.cell (p:=⟨bb,k,none⟩) hgw).trans (Zai Hb.out.owns _ _ hx)
   obtain ⟨_,o2,o3⟩:=Hbo.out l (Qh hs)
   have HR:=Zac (Zik wr.drew (.slice xa l.length xcap) l u (WordAt.ext hxo (HA.out.ext.trans ⟨rfl,rfl,rfl,Qe _,fun _ _=>rfl⟩)) o2 o3 (by omega))
   have hnx:(body.take (k+1)).map (fun l=>l.map (rn u))=(body.take k).map (fun l=>l.map (rn u))++[l.map (rn u)]:=by rw [List.take_add_one,hs]; simp
   have Hnx:=Zac hnx
   clear hs hx hxo hgb o2 o3 hnx
   go_wp2_with fail
   have HA':=HA.out.on (w1:=wr.drew) ⟨rfl,rfl,rfl,Qe _,fun _ _=>rfl⟩
   have hlk:((body.take k).map (fun l=>l.map (rn u))).length=k:=by simp; omega
   refine Zgg (by kernel_rfl) [.rd 0 3 (fun _ => .pointer (some ⟨w.heap.size+3,0,none⟩)),.rd 0 2 (fun _ => .slice ra1 k rcap1),.rd 0 3 (fun _ => .slice xa l.length xcap),.rd 0 3 (fun _ => .pointer (some ⟨w.heap.size,3,none⟩)),.rd 0 2 (fun _ => .int .i64 u),.st 0,.st 1,.st 2,.rd 0 3 (fun _ => .pointer (some ⟨w.heap.size+3,0,none⟩)),.st 3] 4 7 (by kernel_rfl)
    (CallApp wr.drew w.heap.size (l.map (rn u)) (.slice ra1 k rcap1) k xs (fun z y=>∃ xs',WBg w (.slice ga GL.length gcap) (.slice va vl.length vcap) (.slice ra rl.length rcap) u uu (.slice ha hn1 hc1) (.slice (some ⟨bb,0,none⟩) body.length bcap) (.slice na ns.length ncap) ((body.take (k+1)).map (fun l=>l.map (rn u))) z xs' y)) rfl ?_ ?_
   ·refine ⟨⟨trivial,fun vs y _ hl hS => ?_⟩,⟨trivial,fun vs y _ hl hS => ?_⟩,⟨trivial,fun vs y _ hl hS => ?_⟩,⟨trivial,fun vs y _ hl hS => ?_⟩,⟨trivial,fun vs y _ hl hS => ?_⟩,⟨trivial,fun vs y hl hS => ?_⟩,⟨trivial,fun vs y hl hS => ?_⟩,⟨trivial,fun vs y hl hS => ?_⟩,⟨trivial,fun vs y _ hl hS => ?_⟩,⟨trivial,fun vs y hl hS => ?_⟩,trivial⟩
    ·simp [phAll,phA,pa,Ph.kd,Ph.val,Kd.val,go_sem]
    ·have t1:y.cell? ⟨w.heap.size+3,0,none⟩=some (.slice ra1 k rcap1):=((hS.ext hl).cell (p:=⟨w.heap.size+3,0,none⟩) nl).trans n0
     simp [phAll,phA,pa,Ph.kd,Ph.val,Kd.val,go_sem,t1]
    ·simp [phAll,phA,pa,Ph.kd,Ph.val,Kd.val,go_sem]
    ·simp [phAll,phA,pa,Ph.kd,Ph.val,Kd.val,go_sem]
    ·have t1:y.cell? ⟨w.heap.size,3,none⟩=some (.int .i64 u):=((hS.ext hl).cell (p:=⟨w.heap.size,3,none⟩) ml).trans m3
     simp [phAll,phA,pa,Ph.kd,Ph.val,Kd.val,go_sem,t1]
    ·obtain rfl:=List.length_eq_zero_iff.1 hl
     have hy:y=wr.drew:=hS
     subst hy
     refine .call 42 #[.slice xa l.length xcap,.int .i64 u] _ (by simp [phAll,phA,pa,Ph.kd,Ph.val,Kd.val,go_sem]) (HR.out.mono ?_)
     rintro e y ⟨v,B,rfl,h⟩
     exact ⟨v,rfl,v,B,rfl,h⟩
    ·obtain ⟨x,rfl⟩:=List.length_eq_one_iff.1 hl
     have hS1:=hS
     obtain ⟨x',B',he,hB,hr,hE⟩:=hS1
     simp only [Ending.returned.injEq] at he
     subst he
     obtain ⟨xa1,xc1,rfl⟩:=Zad hr
     exact .value (.slice (some ⟨y.heap.size,0,none⟩) 1 1) (y.alloc (.cells #[.slice xa1 (l.map (rn u)).length xc1] 72)) (by simp [phAll,phA,pa,Ph.kd,Ph.val,Kd.val,go_sem]) ⟨y,hS,rfl,rfl⟩
    ·obtain ⟨x,x2,rfl⟩:∃ x y,vs=[x,y]:=by
      match vs,hl with
      | [x,y],_=>exact ⟨x,y,rfl⟩
     obtain ⟨u1,hW,rfl,rfl⟩:=hS
     have hW1:=hW
     obtain ⟨x',B',he,hB,hr,hE⟩:=hW1
     simp only [Ending.returned.injEq] at he
     subst he
     obtain ⟨xa1,xc1,rfl⟩:=Zad hr
     have hrow:u1.ownsRow w.heap.size 72 1 (.slice ra1 k rcap1) k xs:=by
      have:=(HA'.on hE).row.owns
      rw [hlk] at this
      exact this
     have hsz:=hE.size
     obtain ⟨z,w',hrun,hap⟩:=Zhf (P:=Tryz.prog) u1 63 63 w.heap.size 72 Tryz.infoSyms Tryz.underlying63 rfl (by decide) (.slice ra1 k rcap1) k xs hrow #[.slice xa1 (l.map (rn u)).length xc1] rfl (Zeb _ _ _) (by omega) (Qq hsr hsz)
     refine .value z w' (Zij (.tmp 29) (.tmp 34) 63 rfl (by simp [phAll,phA,pa,Ph.kd,Ph.val,Kd.val,go_sem]) (by simp [phAll,phA,pa,Ph.kd,Ph.val,Kd.val,go_sem]) hrun) ⟨u1,hW,by simpa using hap⟩
    ·simp [phAll,phA,pa,Ph.kd,Ph.val,Kd.val,go_sem]
    ·obtain ⟨x,x2,z,rfl⟩:∃ x y z,vs=[x,y,z]:=by
      match vs,hl with
      | [x,y,z],_=>exact ⟨x,y,z,rfl⟩
     obtain ⟨u1,hW,hap⟩:=hS
     obtain ⟨x',B',he,hB,hr,hE⟩:=hW
     simp only [Ending.returned.injEq] at he
     subst he
     obtain ⟨za,zc,rfl⟩:=Zad hap.owns
     have hA2:=(HA'.on hE).app hlk (Zba hr (Qm _)) hap
     rw [← Hnx.out] at hA2
     have h4:=(HA'.on hE).box
     have b4:=(hap.kept.block _ (Zab h4) (Zag (HA'.on hE).row.owns (by decide) h4)).trans h4
     have c4:=Zaa b4 0 _ rfl
     have f4:=Zae b4 0
     exact .skip _ (by simp [phAll,phA,pa,Ph.kd,Ph.val,Kd.val,go_sem,c4,f4]) ⟨_,hA2⟩
   ·rintro vs y hl hS
    obtain ⟨x,x2,z,x3,rfl⟩:∃ x y z y',vs=[x,y,z,y']:=by
     match vs,hl with
     | [x,y,z,y'],_=>exact ⟨x,y,z,y',rfl⟩
    obtain ⟨xs',hA2⟩:=hS
    simp only [phAll,phA,paAll,pa,Ph.kd,Ph.val,Kd.val,List.map_cons,List.map_nil,if_true,Act.put,List.setIfInBounds_toArray,List.set_cons_succ,List.set_cons_zero]
    have HA2:=Zac hA2
    clear hA2
    go_wp2
    go_roundg (body.length - k)
    case measure=>omega
    case rel=>exact ⟨k+1,_,xs',by go_num,by omega,by omega,HA2.out⟩
  ·have hek:k=body.length:=by omega
   subst hek
   have HA1:Hid (WBg w (.slice ga GL.length gcap) (.slice va vl.length vcap) (.slice ra rl.length rcap) u uu (.slice ha hn1 hc1) (.slice ba body.length bcap) (.slice na ns.length ncap) (bl'++(GL.take 0).drop 1) (.slice ra1 body.length rcap1) xs wr):=by
    have:=HA.out
    rw [List.take_length,← Hbl.out] at this
    show WBg _ _ _ _ _ _ _ _ _ _ _ _ _
    simpa using this
   obtain ⟨wo,hwo⟩:∃ x,x=wr:=⟨_,rfl⟩
   subst hwo
   clear HA
   go_wp2
   go_loopg [41] (GL.length+1) (fun gk iv wr=>∃ (k:Nat) (g:Value) (xs:List Value),iv = .int .i64 k∧k≤GL.length∧GL.length - k<gk∧WBg w (.slice ga GL.length gcap) (.slice va vl.length vcap) (.slice ra rl.length rcap) u uu (.slice ha hn1 hc1) (.slice ba body.length bcap) (.slice na ns.length ncap) (bl'++(GL.take k).drop 1) g xs wr)
   case atStart=>exact ⟨0,_,xs,by go_num,Qm _,by omega,HA1.out⟩
   case round =>
    clear m0 m2 m3 n0 ml nl HA1
    obtain ⟨k,g,xs,rfl,hk,hgk,hA⟩:=hrel
    obtain ⟨N,hN⟩:∃ N,N=(bl'++(GL.take k).drop 1).length:=⟨_,rfl⟩
    have hN2:N≤4000:=by rw [hN]; simp; omega
    have hrow:=hA.row.owns
    rw [← hN] at hrow
    obtain ⟨ra1,rcap1,rfl⟩:=Zad hrow
    have hsr:=hA.ext.size
    have m0:wr.cell? ⟨w.heap.size,0,none⟩=some (.slice ga GL.length gcap):=Zaa hA.nb 0 _ rfl
    have m2:wr.cell? ⟨w.heap.size,2,none⟩=some (.slice ra rl.length rcap):=Zaa hA.nb 2 _ rfl
    have n0:wr.cell? ⟨w.heap.size+3,0,none⟩=some (.slice ra1 N rcap1):=Zaa hA.box 0 _ rfl
    have nf:=fun i=>Zae hA.box i
    have ml:=Zab hA.nb
    have nl:=Zab hA.box
    have HA:=Zac hA
    have Hrow:=Zac hrow
    have HN:=Zac hN
    clear hA hrow hN
    by_cases hlt:k<GL.length
    ·obtain ⟨l,hs⟩:∃ l,GL[k]?=some l:=⟨_,Qb hlt⟩
     obtain ⟨x,hx,hxo⟩:=H1.out.all _ l hs
     obtain ⟨xa,xcap,rfl⟩:=Zad hxo
     obtain ⟨gg,cap',cur,he,_,hgb,_⟩:=Zao H1.out.owns (by omega)
     simp only [Value.slice.injEq] at he
     obtain ⟨rfl,_,rfl⟩:=he
     have hgw:=Zab hgb
     have hgr:gg<wr.heap.size:=by omega
     have x0:wr.cell? ⟨gg,k,none⟩=some (.slice xa l.length xcap):=(HA.out.ext.cell (p:=⟨gg,k,none⟩) hgw).trans (Zai H1.out.owns _ _ hx)
     have Hxo:Hid (WordAt wr (.slice xa l.length xcap) l):=WordAt.ext hxo HA.out.ext
     have Hs:=Zac hs
     clear hs hx hxo hgb
     by_cases hk0:k=0
     ·subst hk0
      go_wp2
      go_roundg (GL.length - 0)
      case measure=>omega
      case rel =>
       refine ⟨1,.slice ra1 N rcap1,xs,by go_num,by omega,by omega,?_⟩
       have:=HA.out
       simpa using this
     ·have hk1:(0:Int)<(k:Int):=by omega
      go_wp2_with (at_builtin; go_loud (refine Zam wr rfl (.tmp 49) (.tmp 51) 63 rfl w.heap.size 72 Tryz.infoSyms Tryz.underlying63 rfl (by decide) (.slice ra1 N rcap1) N xs rfl Hrow.out #[.slice xa l.length xcap] (N:=wr.heap.size) rfl (by simp) rfl (Zeb _ _ _) ?_ ?_ ?_))
      ·omega
      ·omega
      intro v3 w2 hap
      obtain ⟨a3,c3,rfl⟩:=Zad hap.owns
      have hA2:=HA.out.app HN.out.symm Hxo.out hap
      have hnx:(bl'++(GL.take k).drop 1)++[l]=bl'++(GL.take (k+1)).drop 1:=by
       rw [List.take_add_one,Hs.out,Qi]
       congr 1
       rw [List.drop_append_of_le_length (by simp; omega)]
       rfl
      rw [hnx] at hA2
      have b4:=(hap.kept.block _ (Zab HA.out.box) (Zag Hrow.out (by decide) HA.out.box)).trans HA.out.box
      have m1:=Zaa b4 0 _ rfl
      have mf:=fun i=>Zae b4 i
      have mll:=Zab b4
      have HA2:=Zac hA2
      clear hap hA2 b4 hnx
      go_wp2
      go_roundg (GL.length - k)
      case measure=>omega
      case rel=>exact ⟨k+1,_,_,by go_num,by omega,by omega,HA2.out⟩
    ·have hek:k=GL.length:=by omega
     subst hek
     obtain ⟨FL,hFL⟩:∃ L,L=bl'++GL.drop 1:=⟨_,rfl⟩
     have hFN:FL.length=N:=by rw [hFL,HN.out,List.take_length]
     have hWr:WBr w wr.heap.size (.slice ga GL.length gcap) (.slice va vl.length vcap) (.slice ra rl.length rcap) u uu (.slice ha hn1 hc1) (.slice ba body.length bcap) (.slice na ns.length ncap) FL (.slice ra1 N rcap1) (rl.take 0) (.slice none 0 0) [] wr:=by
      obtain ⟨h1,h2,h3,h4,h5,h6⟩:=HA.out
      rw [List.take_length,← hFL] at h6
      exact ⟨h1,h2,h3,h4,h5,h6.inn,fun j hj=>(h6.owns.lt j hj).2,h1.size,Qe _,TermsAt.nil _ _⟩
     have HW:=Zac hWr
     have HFL:=Zac hFL
     have HFN:=Zac hFN
     obtain ⟨wp,hwp⟩:∃ x,x=wr:=⟨_,rfl⟩
     subst hwp
     clear HA hWr hFL hFN Hrow HN
     go_wp2
     go_loopg [58] (rl.length+1) (fun gk iv wr=>∃ (k:Nat) (r:Value) (ys:List Value),iv = .int .i64 k∧k≤rl.length∧rl.length - k<gk∧WBr w wp.heap.size (.slice ga GL.length gcap) (.slice va vl.length vcap) (.slice ra rl.length rcap) u uu (.slice ha hn1 hc1) (.slice ba body.length bcap) (.slice na ns.length ncap) FL (.slice ra1 N rcap1) (rl.take k) r ys wr)
     case atStart=>exact ⟨0,_,[],by go_num,Qm _,by omega,HW.out⟩
     case round =>
      clear m0 m2 n0 nf ml nl HW
      obtain ⟨k,r,ys,rfl,hk,hgk,hA⟩:=hrel
      have hlk:(rl.take k).length=k:=by simp; omega
      have hrow:=hA.row.owns
      rw [hlk] at hrow
      obtain ⟨sa,scap,rfl⟩:=Zad hrow
      have hsr:=hA.ext.size
      have hb2:=hA.b2
      have m0:wr.cell? ⟨w.heap.size,0,none⟩=some (.slice ga GL.length gcap):=Zaa hA.nb 0 _ rfl
      have m2:wr.cell? ⟨w.heap.size,2,none⟩=some (.slice ra rl.length rcap):=Zaa hA.nb 2 _ rfl
      have n2:wr.cell? ⟨w.heap.size+3,2,none⟩=some (.slice sa k scap):=Zaa hA.box 2 _ rfl
      have nf:=fun i=>Zae hA.box i
      have ml:=Zab hA.nb
      have nl:=Zab hA.box
      have HA:=Zac hA
      have Hrow:=Zac hrow
      clear hA hrow hlk
      by_cases hlt:k<rl.length
      ·obtain ⟨l,hs⟩:∃ l,rl[k]?=some l:=⟨_,Qb hlt⟩
       obtain ⟨x,hx,hxo⟩:=H3.out.all _ l hs
       obtain ⟨xa,xcap,rfl⟩:=Zad hxo
       obtain ⟨rr,cap',cur,he,_,hgb,_⟩:=Zao H3.out.owns (by omega)
       simp only [Value.slice.injEq] at he
       obtain ⟨rfl,_,rfl⟩:=he
       have hgw:=Zab hgb
       have hgr:rr<wr.heap.size:=by omega
       have x0:wr.cell? ⟨rr,k,none⟩=some (.slice xa l.length xcap):=(HA.out.ext.cell (p:=⟨rr,k,none⟩) hgw).trans (Zai H3.out.owns _ _ hx)
       have Hxo:Hid (WordAt wr (.slice xa l.length xcap) l):=WordAt.ext hxo HA.out.ext
       have Hs:=Zac hs
       clear hs hx hxo hgb
       go_wp2_with (at_builtin; go_loud (refine Zam wr rfl (.tmp 63) (.tmp 65) 63 rfl wp.heap.size 72 Tryz.infoSyms Tryz.underlying63 rfl (by decide) (.slice sa k scap) k ys rfl Hrow.out #[.slice xa l.length xcap] (N:=wr.heap.size) rfl (by simp) rfl (Zeb _ _ _) ?_ ?_ ?_))
       ·omega
       ·omega
       intro v3 w2 hap
       obtain ⟨a3,c3,rfl⟩:=Zad hap.owns
       have hA2:=HA.out.app (by simp; omega) Hxo.out hap
       have hnx:rl.take k++[l]=rl.take (k+1):=by rw [List.take_add_one,Hs.out]; rfl
       rw [hnx] at hA2
       have b4:=(hap.kept.block _ (Zab HA.out.box) (Zag Hrow.out (by decide) HA.out.box)).trans HA.out.box
       have m1:=Zaa b4 2 _ rfl
       have mf:=fun i=>Zae b4 i
       have mll:=Zab b4
       have HA2:=Zac hA2
       clear hap hA2 b4 hnx
       go_wp2
       go_roundg (rl.length - k)
       case measure=>omega
       case rel=>exact ⟨k+1,_,_,by go_num,by omega,by omega,HA2.out⟩
      ·have hek:k=rl.length:=by omega
       subst hek
       obtain ⟨x,hx,hxo⟩:=H1.out.all 0 g0 (by rw [HGL.out]; rfl)
       obtain ⟨xa,xcap,rfl⟩:=Zad hxo
       obtain ⟨gg,cap',cur,he,_,hgb,_⟩:=Zao H1.out.owns (by omega)
       simp only [Value.slice.injEq] at he
       obtain ⟨rfl,_,rfl⟩:=he
       have hgw:=Zab hgb
       have hgr:gg<wr.heap.size:=by omega
       have x0:wr.cell? ⟨gg,0,none⟩=some (.slice xa g0.length xcap):=(HA.out.ext.cell (p:=⟨gg,0,none⟩) hgw).trans (Zai H1.out.owns _ _ hx)
       have Hxo:Hid (WordAt wr.drew (.slice xa g0.length xcap) g0):=WordAt.ext hxo (HA.out.ext.trans ⟨rfl,rfl,rfl,Qe _,fun _ _=>rfl⟩)
       have hGi:(0:Int)<(GL.length:Int):=by omega
       clear hx hxo hgb
       have HA':=Zac (HA.out.on (w1:=wr.drew) ⟨rfl,rfl,rfl,Qe _,fun _ _=>rfl⟩)
       rw [List.take_length] at HA'
       go_wp2_with fail
       refine Zgg (by kernel_rfl) [.rd 0 2 (fun _ => .pointer (some ⟨w.heap.size+3,2,none⟩)),.rd 0 1 (fun _ => .slice sa rl.length scap),.rd 0 0 (fun _ => .pointer (some ⟨w.heap.size,0,none⟩)),.rd 0 0 (fun _ => .slice (some ⟨gg,0,none⟩) GL.length gcap),.rd 0 0 (fun _ => .pointer (some ⟨gg,0,none⟩)),.rd 0 0 (fun _ => .slice xa g0.length xcap),.st 0,.st 1,.rd 0 2 (fun _ => .pointer (some ⟨w.heap.size+3,2,none⟩)),.st 2] 3 7 (by kernel_rfl)
        (LayApp wr.drew wp.heap.size (.slice xa g0.length xcap) (.slice sa rl.length scap) rl.length ys (fun z y=>∃ ys',WBr w wp.heap.size (.slice (some ⟨gg,0,none⟩) GL.length gcap) (.slice va vl.length vcap) (.slice ra rl.length rcap) u uu (.slice ha hn1 hc1) (.slice ba body.length bcap) (.slice na ns.length ncap) FL (.slice ra1 N rcap1) (rl++[g0]) z ys' y)) rfl ?_ ?_
       ·refine ⟨⟨trivial,fun vs y _ hl hS => ?_⟩,⟨trivial,fun vs y _ hl hS => ?_⟩,⟨trivial,fun vs y _ hl hS => ?_⟩,⟨trivial,fun vs y _ hl hS => ?_⟩,⟨trivial,fun vs y _ hl hS => ?_⟩,⟨trivial,fun vs y _ hl hS => ?_⟩,⟨trivial,fun vs y hl hS => ?_⟩,⟨trivial,fun vs y hl hS => ?_⟩,⟨trivial,fun vs y _ hl hS => ?_⟩,⟨trivial,fun vs y hl hS => ?_⟩,trivial⟩
        ·simp [phAll,phA,pa,Ph.kd,Ph.val,Kd.val,go_sem]
        ·have t1:y.cell? ⟨w.heap.size+3,2,none⟩=some (.slice sa rl.length scap):=((hS.ext hl).cell (p:=⟨w.heap.size+3,2,none⟩) nl).trans n2
         simp [phAll,phA,pa,Ph.kd,Ph.val,Kd.val,go_sem,t1]
        ·simp [phAll,phA,pa,Ph.kd,Ph.val,Kd.val,go_sem]
        ·have t1:y.cell? ⟨w.heap.size,0,none⟩=some (.slice (some ⟨gg,0,none⟩) GL.length gcap):=((hS.ext (by omega)).cell (p:=⟨w.heap.size,0,none⟩) ml).trans m0
         simp [phAll,phA,pa,Ph.kd,Ph.val,Kd.val,go_sem,t1]
        ·simp [phAll,phA,pa,Ph.kd,Ph.val,Kd.val,go_sem,hGpos]
        ·have t1:y.cell? ⟨gg,0,none⟩=some (.slice xa g0.length xcap):=((hS.ext (by omega)).cell (p:=⟨gg,0,none⟩) hgr).trans x0
         simp [phAll,phA,pa,Ph.kd,Ph.val,Kd.val,go_sem,t1]
        ·obtain rfl:=List.length_eq_zero_iff.1 hl
         have hy:y=wr.drew:=hS
         subst hy
         exact .value (.slice (some ⟨wr.drew.heap.size,0,none⟩) 1 1) (wr.drew.alloc (.cells #[.slice xa g0.length xcap] 72)) (by simp [phAll,phA,pa,Ph.kd,Ph.val,Kd.val,go_sem]) ⟨rfl,rfl⟩
        ·obtain ⟨x,rfl⟩:=List.length_eq_one_iff.1 hl
         obtain ⟨rfl,rfl⟩:=hS
         have hrow:wr.drew.ownsRow wp.heap.size 72 1 (.slice sa rl.length scap) rl.length ys:=HA'.out.row.owns
         obtain ⟨z,w',hrun,hap⟩:=Zhf (P:=Tryz.prog) wr.drew 63 63 wp.heap.size 72 Tryz.infoSyms Tryz.underlying63 rfl (by decide) (.slice sa rl.length scap) rl.length ys hrow #[.slice xa g0.length xcap] rfl (Zeb _ _ _) (by omega) HA'.out.b2
         exact .value z w' (Zij (.tmp 74) (.tmp 79) 63 rfl (by simp [phAll,phA,pa,Ph.kd,Ph.val,Kd.val,go_sem]) (by simp [phAll,phA,pa,Ph.kd,Ph.val,Kd.val,go_sem]) hrun) (by simpa [LayApp] using hap)
        ·simp [phAll,phA,pa,Ph.kd,Ph.val,Kd.val,go_sem]
        ·obtain ⟨x,z,rfl⟩:∃ x y,vs=[x,y]:=by
          match vs,hl with
          | [x,y],_=>exact ⟨x,y,rfl⟩
         have hap:Appended _ _ _ _ _ _ _ z y:=hS
         obtain ⟨za,zc,rfl⟩:=Zad hap.owns
         have hA2:=HA'.out.app rfl Hxo.out hap
         have h4:=HA'.out.box
         have b4:=(hap.kept.block _ (Zab h4) (Zag HA'.out.row.owns (by decide) h4)).trans h4
         have c4:=Zaa b4 2 _ rfl
         have f4:=Zae b4 2
         exact .skip _ (by simp [phAll,phA,pa,Ph.kd,Ph.val,Kd.val,go_sem,c4,f4]) ⟨_,hA2⟩
       ·rintro vs y hl hS
        obtain ⟨x,z,x3,rfl⟩:∃ x y z,vs=[x,y,z]:=by
         match vs,hl with
         | [x,y,z],_=>exact ⟨x,y,z,rfl⟩
        obtain ⟨ys',hA2⟩:=hS
        have hrow:=hA2.row.owns
        obtain ⟨ta,tcap,rfl⟩:=Zad hrow
        simp only [phAll,phA,paAll,pa,Ph.kd,Ph.val,Kd.val,List.map_cons,List.map_nil,if_true,Act.put,List.setIfInBounds_toArray,List.set_cons_succ,List.set_cons_zero]
        have q0:=Zaa hA2.box 0 _ rfl
        have q1:=Zaa hA2.box 1 _ rfl
        have q2:=Zaa hA2.box 2 _ rfl
        have q3:=Zaa hA2.box 3 _ rfl
        have ql:=Zab hA2.box
        have r0:=Zaa hA2.res 0 _ rfl
        have r1:=Zaa hA2.res 1 _ rfl
        have r2:=Zaa hA2.res 2 _ rfl
        have r3:=Zaa hA2.res 3 _ rfl
        have rf:=fun i=>Zae hA2.res i
        have rll:=Zab hA2.res
        have HA2:=Zac hA2
        clear hA2 hrow HA' HA
        go_wp2
        refine bodyPost_ret (v := .agg #[.slice ra1 N rcap1,.slice va vl.length vcap,.slice ta (rl++[g0]).length tcap,.int .i64 uu]) (by simp [results,Tryz.results62,go_sem,r0,r1,r2,r3,rf,rll]) rfl ?_
        have hK2:∀ x0 x1 x2 x3,Kept (fun j=>j=w.heap.size+2) y ((((y.setCell ⟨w.heap.size+2,0,none⟩ x0).setCell ⟨w.heap.size+2,1,none⟩ x1).setCell ⟨w.heap.size+2,2,none⟩ x2).setCell ⟨w.heap.size+2,3,none⟩ x3):=fun x0 x1 x2 x3=>((((Qx (only (w.heap.size+2)) y).put 0 _).put 1 _).put 2 _).put 3 _
        have hE:=(((HA2.out.ext.setCell (p:=⟨w.heap.size+2,0,none⟩) (by simp) (.slice ra1 N rcap1)).setCell (p:=⟨w.heap.size+2,1,none⟩) (by simp) (.slice va vl.length vcap)).setCell (p:=⟨w.heap.size+2,2,none⟩) (by simp) (.slice ta (rl++[g0]).length tcap)).setCell (p:=⟨w.heap.size+2,3,none⟩) (by simp) (.int .i64 uu)
        have hFL:FL=bl'++gs:=by rw [HFL.out,HGL.out]; rfl
        have hg:=HA2.out.goals.box HA2.out.res (by decide) (by decide) (hK2 (.slice ra1 N rcap1) (.slice va vl.length vcap) (.slice ta (rl++[g0]).length tcap) (.int .i64 uu))
        have hr:=HA2.out.row.inn.box HA2.out.res (by decide) (by decide) (hK2 (.slice ra1 N rcap1) (.slice va vl.length vcap) (.slice ta (rl++[g0]).length tcap) (.int .i64 uu))
        rw [← HFN.out] at hg hE hr ⊢
        rw [hFL] at hg hE hr ⊢
        rw [show rl.length+1=(rl++[g0]).length by simp]
        exact ⟨hE,_,_,_,_,rfl,hg,hr⟩
theorem Zng {k V:Nat} {l:List Sym} (hw:Wf k l) (hl:l.length≤1000) (ho:∀ v,Occ v l→v<V) (hV:V≤200000):TmOk l :=
 ⟨⟨k,hw⟩,hl,fun s hs=>by
  obtain ⟨i,hi⟩:=List.mem_iff_getElem?.1 hs
  by_cases hn:s.name=[]
  ·have:=ho s.num ⟨s,hs,hn,rfl⟩
   omega
  ·rw [(Zjo hw hi).2 hn]; omega⟩
theorem TmOk.rn {l:List Sym} {v:Nat} {k:Nat} (hw:Wf k l) (hl:l.length≤1000) {V:Nat} (ho:∀ u,Occ u l→u<V) (hV:V+v≤200000):TmOk (l.map (YtlmjilpjmgjjcabGreatDoor.rn v)):=by
 rw [← Zme hw]
 have hlen:(ap (Zcx v) l).length=l.length:=by rw [Zme hw]; simp
 exact Zng (Zml (Zpk v) hw) (by omega) (V:=V+v) (fun u hu=>by
  obtain ⟨x,hx,rfl⟩:=Zgy hu
  have:=ho x hx
  omega) hV
def TryOut (n:ND) (c:Cls) (k:Nat) (w:World) (e:Ending) (w':World):Prop:=Ext w w'∧∃ g1 g2 g3 v1 v2 v3 r1 r2 r3,∃ uu q:Nat,e = .returned (.tuple #[.agg #[.slice g1 g2 g3,.slice v1 v2 v3,.slice r1 r2 r3,.int .i64 uu],.int .i64 q]) ∧
 ((q=0∧(n.goals=[]∨Out n c k 0 n))∨(q=2∧∃ ch,Out n c k 3 ch)∨(q=1∧∃ ch qq,(qq=1∨qq=2)∧Out n c k qq ch∧NodeNew w.heap.size w' (.slice g1 g2 g3) (.slice v1 v2 v3) (.slice r1 r2 r3) ch∧uu=ch.vars∧g2=ch.goals.length))
theorem Zhr (σ:Nat→List Sym) (n:ND) (c:Cls) (hc:COk c) (k:Nat) (g:List Sym × Nat) (gs:List (List Sym × Nat)):(Zaq σ n c k g gs).goals.map (·.1)=((c.body.map (fun l=>l.map (rn n.vars))++gs.map (·.1))).map (ap σ):=by
 unfold Zaq
 simp only
 rw [Zpl,Qr,List.map_map]
 congr 2
 refine List.map_congr_left (fun l hl => ?_)
 exact Zme (hc.wfb l hl)
theorem Zlj (σ:Nat→List Sym) (n:ND) (c:Cls) (k:Nat) (g:List Sym × Nat) (gs:List (List Sym × Nat)):(Zaq σ n c k g gs).done.map (·.1)=(n.done.map (·.1)++[g.1]).map (ap σ):=by
 unfold Zaq
 simp only
 rw [Zpl,Qr]
 rfl
theorem Yer {n:ND} (hn:NOk n) {c:Cls} (hc:COk c) (k:Nat) {g:List Sym × Nat} {gs:List (List Sym × Nat)} (hg:n.goals=g::gs) {σ:Nat→List Sym} (h1:Mgu σ g.1 (ap (Zcx n.vars) c.head)) {l:List Sym} (hl:l ∈ (c.body.map (fun l=>l.map (rn n.vars))++gs.map (·.1))++(n.vals++(n.done.map (·.1)++[g.1]))) (hb:30<(ap σ l).length):Zfg (Zaq σ n c k g gs)=3:=by
 refine Classical.byContradiction (fun hne => ?_)
 have hok:=Zpm hn hc k hg h1 hne
 have hle:(ap σ l).length≤30:=by
  rcases Qk.1 hl with hl | hl
  ·have:ap σ l ∈ (Zaq σ n c k g gs).goals.map (·.1):=by rw [Zhr σ n c hc]; exact List.mem_map.2 ⟨l,hl,rfl⟩
   obtain ⟨x,hx,e⟩:=List.mem_map.1 this
   rw [← e]; exact (hok.gs x hx).1
  ·rcases Qk.1 hl with hl | hl
   ·exact hok.vsize (t:=ap σ l) (List.mem_map.2 ⟨l,hl,rfl⟩)
   ·have:ap σ l ∈ (Zaq σ n c k g gs).done.map (·.1):=by rw [Zlj]; exact List.mem_map.2 ⟨l,hl,rfl⟩
    obtain ⟨x,hx,e⟩:=List.mem_map.1 this
    rw [← e]; exact (hok.ds x hx).1
 omega
theorem Yak {n:ND} {c:Cls} (k:Nat) {g:List Sym × Nat} {gs:List (List Sym × Nat)} {σ:Nat→List Sym} (h:40<c.body.length+gs.length∨100<n.used.length+1):Zfg (Zaq σ n c k g gs)=3:=by
 have:Zmp (Zaq σ n c k g gs)=true:=by
  unfold Zmp Zaq carr
  simp only [Bool.or_eq_true,decide_eq_true_eq,Ql,Qg,Qf,Jt]
  omega
 unfold Zfg
 rw [if_pos this]
theorem Zvf {n:ND} {c:Cls} (hc:COk c) (k:Nat) {g:List Sym × Nat} {gs:List (List Sym × Nat)} {σ:Nat→List Sym} (h1:¬ 40<c.body.length+gs.length) (h2:¬ 100<n.used.length+1) (h:∀ l ∈ (c.body.map (fun l=>l.map (rn n.vars))++gs.map (·.1))++(n.vals++(n.done.map (·.1)++[g.1])),(ap σ l).length≤30):Zfg (Zaq σ n c k g gs)=1∨Zfg (Zaq σ n c k g gs)=2:=by
 have:Zmp (Zaq σ n c k g gs)=false:=by
  have hg:∀ x ∈ (Zaq σ n c k g gs).goals,¬ bigG x=true:=fun x hx=>by
   have:x.1 ∈ (Zaq σ n c k g gs).goals.map (·.1):=List.mem_map.2 ⟨x,hx,rfl⟩
   rw [Zhr σ n c hc] at this
   obtain ⟨l,hl,e⟩:=List.mem_map.1 this
   have:=h l (List.mem_append_left _ hl)
   unfold bigG
   rw [← e]
   simpa using this
  have hd:∀ x ∈ (Zaq σ n c k g gs).done,¬ bigG x=true:=fun x hx=>by
   have:x.1 ∈ (Zaq σ n c k g gs).done.map (·.1):=List.mem_map.2 ⟨x,hx,rfl⟩
   rw [Zlj] at this
   obtain ⟨l,hl,e⟩:=List.mem_map.1 this
   have:=h l (List.mem_append_right _ (List.mem_append_right _ hl))
   unfold bigG
   rw [← e]
   simpa using this
  unfold Zmp
  simp only [Bool.or_eq_false_iff,decide_eq_false_iff_not]
  refine ⟨⟨⟨?_,?_⟩,List.any_eq_false.2 hg⟩,List.any_eq_false.2 hd⟩
  ·unfold Zaq carr; simp; omega
  ·unfold Zaq carr; simp; omega
 unfold Zfg
 rw [this]
 simp only [Bool.false_eq_true,if_false]
 split
 ·exact Or.inr rfl
 ·exact Or.inl rfl
theorem Zqq (w:World) (gv vv rv hv bv nv:Value) (n:ND) (c:Cls) (k:Nat) (hn:NOk n) (hc:COk c) (h:NodeIn w gv vv rv n) (hcl:ClsIn w hv bv nv c) :
  Calls Tryz.prog 52 #[.agg #[gv,vv,rv,.int .i64 n.vars],.agg #[hv,bv,nv]] w (TryOut n c k w):=by
 obtain ⟨ga,gcap,rfl⟩:=h.goals.shape
 obtain ⟨va,vcap,rfl⟩:=h.vals.shape
 obtain ⟨ra,rcap,rfl⟩:=h.done.shape
 obtain ⟨ha,hcap,rfl⟩:=Zad hcl.head
 obtain ⟨ba,bcap,rfl⟩:=hcl.body.shape
 obtain ⟨na,ncap,rfl⟩:=Zad hcl.names
 have hgl:(n.goals.map (·.1)).length=n.goals.length:=by simp
 have hdl:(n.done.map (·.1)).length=n.done.length:=by simp
 rw [hgl,hdl] at h ⊢
 have hV:n.vars≤101000:=by have:=hn.vars; have:=hn.ul; omega
 have hcn:c.names.length≤1000:=hc.n
 have hg40:=hn.gl
 have hd100:n.done.length≤100:=by rw [hn.dl]; exact hn.ul
 have hb6:=hc.bn
 obtain ⟨W,hW⟩:∃ W,W=((w.alloc (.cells #[.slice ga n.goals.length gcap,.slice va n.vals.length vcap,.slice ra n.done.length rcap,.int .i64 n.vars] 65)).alloc (.cells #[.slice ha c.head.length hcap,.slice ba c.body.length bcap,.slice na c.names.length ncap] 74)).alloc (.cells #[.slice none 0 0,.slice none 0 0,.slice none 0 0,.int .i64 0] 65):=⟨_,rfl⟩
 have hE0:Ext w W:=by rw [hW]; exact (Ext.of (by repeat' (first | with_reducible(first|exact Qx _ _|apply Kept.drew|apply Kept.drewN|apply Qz|refine Qy ?_ ?_ _)|exact fun h=>absurd h (by simp <;> omega))))
 have hWs:W.heap.size=w.heap.size+3:=by rw [hW]; simp
 have hb0:NB W w.heap.size (.slice ga n.goals.length gcap) (.slice va n.vals.length vcap) (.slice ra n.done.length rcap) n.vars:=by rw [hW]; exact Zar (Zar (heap_alloc_new w _) _) _
 have hb1:W.heap[w.heap.size+1]?=some (.cells #[.slice ha c.head.length hcap,.slice ba c.body.length bcap,.slice na c.names.length ncap] 74 (0,0)):=by rw [hW]; exact Zar (Zdn (by simp) _) _
 have hb2:NB W (w.heap.size+2) (.slice none 0 0) (.slice none 0 0) (.slice none 0 0) 0:=by rw [hW]; exact Zdn (by simp) _
 have HB:Hid (∀ y,Ext W y→y.cell? ⟨w.heap.size,0,none⟩=some (.slice ga n.goals.length gcap)∧y.cell? ⟨w.heap.size,1,none⟩=some (.slice va n.vals.length vcap)∧y.cell? ⟨w.heap.size,2,none⟩=some (.slice ra n.done.length rcap)∧y.cell? ⟨w.heap.size,3,none⟩=some (.int .i64 n.vars) ∧
   y.cell? ⟨w.heap.size+1,0,none⟩=some (.slice ha c.head.length hcap)∧y.cell? ⟨w.heap.size+1,1,none⟩=some (.slice ba c.body.length bcap)∧y.cell? ⟨w.heap.size+1,2,none⟩=some (.slice na c.names.length ncap)∧NB y (w.heap.size+2) (.slice none 0 0) (.slice none 0 0) (.slice none 0 0) 0∧w.heap.size+2<y.heap.size):=fun y hE=>by
  have e0:=(hE.block _ (Zab hb0)).trans hb0
  have e1:=(hE.block _ (Zab hb1)).trans hb1
  have e2:=(hE.block _ (Zab hb2)).trans hb2
  exact ⟨Zaa e0 0 _ rfl,Zaa e0 1 _ rfl,Zaa e0 2 _ rfl,Zaa e0 3 _ rfl,Zaa e1 0 _ rfl,Zaa e1 1 _ rfl,Zaa e1 2 _ rfl,e2,Zab e2⟩
 have hset:Hid (∀ y x0 x1 x2 x3,Ext w y→Ext w ((((y.setCell ⟨w.heap.size+2,0,none⟩ x0).setCell ⟨w.heap.size+2,1,none⟩ x1).setCell ⟨w.heap.size+2,2,none⟩ x2).setCell ⟨w.heap.size+2,3,none⟩ x3)):=fun y x0 x1 x2 x3 hE =>
  (((hE.setCell (p:=⟨w.heap.size+2,0,none⟩) (by simp) _).setCell (p:=⟨w.heap.size+2,1,none⟩) (by simp) _).setCell (p:=⟨w.heap.size+2,2,none⟩) (by simp) _).setCell (p:=⟨w.heap.size+2,3,none⟩) (by simp) _
 have hhead:TmOk (c.head.map (rn n.vars)):=TmOk.rn hc.wfh (by have:=hc.hl; omega) hc.och (by have:=hc.n; omega)
 have hheadl:(c.head.map (rn n.vars)).length=c.head.length:=by simp
 have hhl:=hc.hl
 have HR:=Zac (Zik W (.slice ha c.head.length hcap) c.head n.vars (WordAt.ext hcl.head hE0) (by omega) (fun s hs=>(Zng hc.wfh (by omega) hc.och (by have:=hc.n; omega)).num s hs) (by omega))
 obtain ⟨HD,hHD⟩:∃ l,l=c.head.map (rn n.vars):=⟨_,rfl⟩
 have HHD:Hid (HD=ap (Zcx n.vars) c.head):=by show _=_; rw [hHD]; exact (Zme hc.wfh).symm
 rw [← hHD] at HR hheadl hhead
 have H:=Zac h
 have Hcl:=Zac hcl
 have Hn:=Zac hn
 have Hc:=Zac hc
 have HE0:=Zac hE0
 have Hhead:=Zac hhead
 have Hhl:=Zac hheadl
 have HW:=Zac hW
 clear h hcl hE0 hb0 hb1 hb2 hhead hHD hgl hdl hn hc hheadl
 cases hgo:n.goals with
 | nil =>
  have Hgo:=Zac hgo
  rw [hgo] at HB
  obtain ⟨c0,c1,c2,c3,c4,c5,c6,c7,c8⟩:=HB.out W (Below.refl _ _)
  have r0:=Zaa c7 0 _ rfl
  have r1:=Zaa c7 1 _ rfl
  have r2:=Zaa c7 2 _ rfl
  have r3:=Zaa c7 3 _ rfl
  have rf:=fun i=>Zae c7 i
  rw [hgo] at hW
  clear hgo c7 hg40
  go_enter Tryz.func52,Tryz.ntmps52
  go_wp2_with fail
  rw [Jt] at hW
  rw [← hW]
  refine bodyPost_ret (v := .tuple #[.agg #[.slice none 0 0,.slice none 0 0,.slice none 0 0,.int .i64 0],.int .i64 0]) (by simp [results,Tryz.results52,go_sem,r0,r1,r2,r3,rf,c8]) rfl ?_
  exact ⟨HE0.out,none,0,0,none,0,0,none,0,0,0,0,rfl,Or.inl ⟨rfl,Or.inl Hgo.out⟩⟩
 | cons g gs =>
  have hgn:n.goals.length=gs.length+1:=by rw [hgo]; simp
  have z1:((n.goals.length:Int) == 0)=false:=by rw [Qu]; omega
  obtain ⟨us,hT⟩:=H.out.goals
  obtain ⟨x,hx,hxo⟩:=hT.all 0 g.1 (by rw [hgo]; rfl)
  obtain ⟨xa,xcap,rfl⟩:=Zad hxo
  obtain ⟨gb,cap',cur,he,_,hgb,_⟩:=Zao hT.owns (by simp; omega)
  simp only [Value.slice.injEq] at he
  obtain ⟨rfl,_,rfl⟩:=he
  have hgw:=Zab hgb
  have x0:w.cell? ⟨gb,0,none⟩=some (.slice xa g.1.length xcap):=Zai (by have:=hT.owns; rw [Ql] at this; exact this) _ _ hx
  have hgt:g.1 ∈ n.terms:=by unfold ND.terms; rw [hgo]; simp
  have hgW:=Hn.out.wf g.1 hgt
  have hg30:=(Hn.out.gs g (by rw [hgo]; simp)).1
  have hgO:=(Zng hgW (by omega) (Hn.out.occ g.1 hgt) (by omega)).num
  have hHW:Wf 1 HD:=by rw [HHD.out]; exact Zml (Zpk _) Hc.out.wfh
  have hHl:=Hhl.out
  have HWd:Hid (∀ y hx hc,Ext w y→WordAt y (.slice hx HD.length hc) HD→Calls Tryz.prog 61 #[.slice xa g.1.length xcap,.slice hx HD.length hc] y (Zvd g.1 HD y)):=fun y hx hc hE hr =>
   Yai y _ _ g.1 HD (WordAt.ext hxo hE) hr hgW hHW (by omega) (by omega) (fun s hs=>by
    rcases Qk.1 hs with hs | hs
    ·exact hgO s hs
    ·exact Hhead.out.num s hs)
  have Hgo:=Zac hgo
  have Hgn:=Zac hgn
  have Hg30:=Zac hg30
  clear hT hx hxo hgb hgt hgW hgO hHW hHl hgo hgn hg30
  obtain ⟨gl,hgl⟩:∃ m,m=n.goals.length:=⟨_,rfl⟩
  rw [← hgl] at HB hW z1 hg40
  rw [show (g::gs).length=gl from by rw [hgl,Hgn.out]; rfl]
  have hgp:0<gl:=by rw [hgl,Hgn.out]; omega
  have Hgl:=Zac hgl
  clear hgl
  go_enter Tryz.func52,Tryz.ntmps52
  go_wp2_with fail
  rw [← hW]
  refine HR.out.mono ?_
  rintro e w1 ⟨hv1,B1,rfl,hB1,hr1,hE1⟩
  obtain ⟨h1a,h1c,rfl⟩:=Zad hr1
  obtain ⟨c0,c1,c2,c3,c4,c5,c6,c7,c8⟩:=HB.out w1 hE1
  have hEw1:Ext w w1:=HE0.out.trans (hE1.mono (by omega))
  have hz1:=hE1.size
  have x1:w1.cell? ⟨gb,0,none⟩=some (.slice xa g.1.length xcap):=(hEw1.cell (p:=⟨gb,0,none⟩) hgw).trans x0
  have hgw1:gb<w1.heap.size:=by omega
  have HWd1:=Zac (HWd.out w1 h1a h1c hEw1 (Zba hr1 (Qm _)))
  have HE1:=Zac hE1
  have HEw1:=Zac hEw1
  clear hr1 hE1 hEw1 HR x0 HWd hW
  go_wp2_with fail
  refine HWd1.out.mono ?_
  rintro e w2 ⟨hE2,sx,sn,sc,q,rfl,hout⟩
  obtain ⟨c0,c1,c2,c3,c4,c5,c6,c7,c8⟩:=HB.out w2 (HE1.out.trans (hE2.mono hz1))
  have hz2:=hE2.size
  have r0:=Zaa c7 0 _ rfl
  have r1:=Zaa c7 1 _ rfl
  have r2:=Zaa c7 2 _ rfl
  have r3:=Zaa c7 3 _ rfl
  have rf:=fun i=>Zae c7 i
  have hEw2:Ext w w2:=HEw1.out.trans (hE2.mono (by omega))
  have k0:w.heap.size<w2.heap.size:=by omega
  have k1:w.heap.size+1<w2.heap.size:=by omega
  have HE2:=Zac hE2
  have HEw2:=Zac hEw2
  have Hc7:=Zac c7
  clear hE2 hEw2 x1 HWd1 c7
  rcases hout with ⟨rfl,hno⟩ | ⟨rfl,hva⟩ | ⟨rfl,ts,tvs,hts,hmg,hsm,htl,ht30⟩
  ·have Hno:Hid (Out n c k 0 n):=⟨g,gs,Hgo.out,Or.inl ⟨rfl,by rw [← HHD.out]; exact hno⟩⟩
   clear hno
   go_wp2
   refine bodyPost_ret (v := .tuple #[.agg #[.slice none 0 0,.slice none 0 0,.slice none 0 0,.int .i64 0],.int .i64 0]) (by simp [results,Tryz.results52,go_sem,r0,r1,r2,r3,rf,c8]) rfl ?_
   refine ⟨(hset.out w2 (.slice none 0 0) (.slice none 0 0) (.slice none 0 0) (.int .i64 0) HEw2.out).alloc (by simp; omega) _,none,0,0,none,0,0,none,0,0,0,0,rfl,Or.inl ⟨rfl,Or.inr Hno.out⟩⟩
  ·have Hva:Hid (∃ ch,Out n c k 3 ch):=⟨n,g,gs,Hgo.out,Or.inr (Or.inl ⟨rfl,by rw [← HHD.out]; exact hva⟩)⟩
   clear hva
   go_wp2
   refine bodyPost_ret (v := .tuple #[.agg #[.slice none 0 0,.slice none 0 0,.slice none 0 0,.int .i64 0],.int .i64 2]) (by simp [results,Tryz.results52,go_sem,r0,r1,r2,r3,rf,c8]) rfl ?_
   refine ⟨(hset.out w2 (.slice none 0 0) (.slice none 0 0) (.slice none 0 0) (.int .i64 0) HEw2.out).alloc (by simp; omega) _,none,0,0,none,0,0,none,0,0,0,2,rfl,Or.inr (Or.inl ⟨rfl,Hva.out⟩)⟩
  ·rw [HHD.out] at hmg
   have Hmg:=Zac hmg
   have Hts:=Zac hts
   have Ht30:=Zac ht30
   have Hsm:=Zac hsm
   clear hmg hts ht30 hsm
   by_cases hmany:40<c.body.length+gs.length∨100<n.used.length+1
   ·have Hk:Hid (∃ ch,Out n c k 3 ch):=⟨_,g,gs,Hgo.out,Or.inr (Or.inr ⟨sbOf ts,Hmg.out,Hsm.out,(Yak k hmany).symm,rfl⟩)⟩
    have hgl':gl=gs.length+1:=by rw [Hgl.out,Hgn.out]
    have hdu:=Hn.out.dl
    by_cases h40:40<c.body.length+gs.length
    ·have hi:(40:Int)<(c.body.length:Int)+(gl:Int) - 1:=by omega
     clear hmany h40 hgl' hdu
     go_wp2
     refine bodyPost_ret (v := .tuple #[.agg #[.slice none 0 0,.slice none 0 0,.slice none 0 0,.int .i64 0],.int .i64 2]) (by simp [results,Tryz.results52,go_sem,r0,r1,r2,r3,rf,c8]) rfl ?_
     exact ⟨(hset.out w2 (.slice none 0 0) (.slice none 0 0) (.slice none 0 0) (.int .i64 0) HEw2.out).alloc (by simp; omega) _,none,0,0,none,0,0,none,0,0,0,2,rfl,Or.inr (Or.inl ⟨rfl,Hk.out⟩)⟩
    ·have hi:¬ ((40:Int)<(c.body.length:Int)+(gl:Int) - 1):=by omega
     have hi2:(100:Int)<(n.done.length:Int)+1:=by omega
     clear hmany h40 hgl' hdu
     go_wp2
     refine bodyPost_ret (v := .tuple #[.agg #[.slice none 0 0,.slice none 0 0,.slice none 0 0,.int .i64 0],.int .i64 2]) (by simp [results,Tryz.results52,go_sem,r0,r1,r2,r3,rf,c8]) rfl ?_
     exact ⟨(hset.out w2 (.slice none 0 0) (.slice none 0 0) (.slice none 0 0) (.int .i64 0) HEw2.out).alloc (by simp; omega) _,none,0,0,none,0,0,none,0,0,0,2,rfl,Or.inr (Or.inl ⟨rfl,Hk.out⟩)⟩
   ·have hgl':gl=gs.length+1:=by rw [Hgl.out,Hgn.out]
    have hdu:=Hn.out.dl
    have hi:¬ ((40:Int)<(c.body.length:Int)+(gl:Int) - 1):=by omega
    have hi2:¬ ((100:Int)<(n.done.length:Int)+1):=by omega
    have hm1:¬ 40<c.body.length+gs.length:=fun h=>hmany (Or.inl h)
    have hm2:¬ 100<n.used.length+1:=fun h=>hmany (Or.inr h)
    obtain ⟨sl,hsl⟩:∃ m,m=sn:=⟨_,rfl⟩
    have hN:NodeIn w (.slice (some ⟨gb,0,none⟩) gl gcap) (.slice va n.vals.length vcap) (.slice ra n.done.length rcap) n:=by rw [Hgl.out]; exact H.out
    have hE3:Ext w (w2.alloc (.cells #[.slice sx sn sc] 131)):=HEw2.out.alloc (by omega) _
    have hg3:=(hN.ext hE3).goals
    rw [Hgo.out,List.map_cons] at hg3
    have HBd:=Zac (Zti (w2.alloc (.cells #[.slice sx sn sc] 131)) (.slice (some ⟨gb,0,none⟩) gl gcap) (.slice va n.vals.length vcap) (.slice ra n.done.length rcap) (.slice ha c.head.length hcap) (.slice ba c.body.length bcap) (.slice na c.names.length ncap) g.1 (gs.map (·.1)) n.vals (n.done.map (·.1)) c.body c.names n.vars
     hg3 (hN.ext hE3).vals (hN.ext hE3).done ⟨_,_,_,rfl⟩ (Hcl.out.ext hE3).body (Hcl.out.ext hE3).names (by simp; omega) (by simp; omega) (by omega) (by omega) (by omega) (fun l hl=>Zng (Hc.out.wfb l hl) (by have:=Hc.out.bl l hl; omega) (Hc.out.ocb l hl) (by have:=Hc.out.n; omega)))
    have HN:=Zac hN
    have HE3:=Zac hE3
    clear hgl' hdu hmany hsl hN hE3 hg3
    go_wp2_with fail
    refine HBd.out.mono ?_
    rintro e w4 ⟨hE4,b1,b2,d1,d2,rfl,hbg,hbr⟩
    obtain ⟨G2,hG2⟩:∃ l,l=c.body.map (fun l=>l.map (rn n.vars))++gs.map (·.1):=⟨_,rfl⟩
    obtain ⟨R2,hR2⟩:∃ l,l=n.done.map (·.1)++[g.1]:=⟨_,rfl⟩
    rw [← hG2] at hbg ⊢
    rw [← hR2] at hbr ⊢
    have hG2l:G2.length≤1000:=by rw [hG2]; simp; omega
    have hR2l:R2.length≤1000:=by rw [hR2]; simp; omega
    have hok:∀ l ∈ G2++(n.vals++R2),TmOk l:=fun l hl=>by
     rcases Qk.1 hl with hl | hl
     ·rw [hG2] at hl
      rcases Qk.1 hl with hl | hl
      ·obtain ⟨m,hm,rfl⟩:=List.mem_map.1 hl
       exact TmOk.rn (Hc.out.wfb m hm) (by have:=Hc.out.bl m hm; omega) (Hc.out.ocb m hm) (by have:=Hc.out.n; omega)
      ·obtain ⟨m,hm,rfl⟩:=List.mem_map.1 hl
       have hmt:m.1 ∈ n.terms:=by unfold ND.terms; rw [Hgo.out]; exact List.mem_append_left _ (List.mem_map.2 ⟨m,by simp [hm],rfl⟩)
       exact Zng (Hn.out.wf _ hmt) (by have:=(Hn.out.gs m (by rw [Hgo.out]; simp [hm])).1; omega) (Hn.out.occ _ hmt) (by omega)
     ·rcases Qk.1 hl with hl | hl
      ·have hmt:l ∈ n.terms:=by unfold ND.terms; simp [hl]
       exact Zng (Hn.out.wf _ hmt) (by have:=Hn.out.vsize hl; omega) (Hn.out.occ _ hmt) (by omega)
      ·rw [hR2] at hl
       rcases Qk.1 hl with hl | hl
       ·obtain ⟨m,hm,rfl⟩:=List.mem_map.1 hl
        have hmt:m.1 ∈ n.terms:=by unfold ND.terms; exact List.mem_append_right _ (List.mem_append_right _ (List.mem_map.2 ⟨m,hm,rfl⟩))
        exact Zng (Hn.out.wf _ hmt) (by have:=(Hn.out.ds m hm).1; omega) (Hn.out.occ _ hmt) (by omega)
       ·simp at hl
        subst hl
        have hmt:g.1 ∈ n.terms:=by unfold ND.terms; rw [Hgo.out]; simp
        exact Zng (Hn.out.wf _ hmt) (by have:=Hg30.out; omega) (Hn.out.occ _ hmt) (by omega)
    have hz4:=hE4.size
    have hz4:w2.heap.size+1≤w4.heap.size:=by simpa using hz4
    have hsb:w4.heap[w2.heap.size]?=some (.cells #[.slice sx sn sc] 131 (0,0)):=(hE4.block _ (by simp)).trans (heap_alloc_new w2 _)
    have sb0:=Zaa hsb 0 _ rfl
    have hE24:Ext w2 w4:=(show Ext w2 (w2.alloc (.cells #[.slice sx sn sc] 131)) from (Ext.of (by repeat' (first | with_reducible(first|exact Qx _ _|apply Kept.drew|apply Kept.drewN|apply Qz|refine Qy ?_ ?_ _)|exact fun h=>absurd h (by simp <;> omega))))).trans (hE4.mono (by simp))
    have hEw4:Ext w w4:=HEw2.out.trans (hE24.mono (by omega))
    have c74:NB w4 (w.heap.size+2) (.slice none 0 0) (.slice none 0 0) (.slice none 0 0) 0:=(hE24.block _ c8).trans Hc7.out
    have hE45:∀ o,Ext w4 (w4.alloc o):=fun o=>(Ext.of (by repeat' (first | with_reducible(first|exact Qx _ _|apply Kept.drew|apply Kept.drewN|apply Qz|refine Qy ?_ ?_ _)|exact fun h=>absurd h (by simp <;> omega))))
    have HWt:Hid (∀ o,Calls Tryz.prog 63 #[.agg #[.slice b1 G2.length b2,.slice va n.vals.length vcap,.slice d1 R2.length d2,.int .i64 ((n.vars+c.names.length:Nat):Int)],.agg #[.slice sx sn sc]] (w4.alloc o) (Yep ts G2 n.vals R2 (n.vars+c.names.length) (w4.alloc o))):=fun o =>
     Zqo (w4.alloc o) (.slice sx sn sc) _ _ _ ts G2 n.vals R2 tvs (n.vars+c.names.length) ((Hts.out.ext hE24).ext (hE45 o)) (hbg.ext (hE45 o)) ((HN.out.vals.ext hEw4).ext (hE45 o)) (hbr.ext (hE45 o)) htl Ht30.out (by omega) (by have:=Hn.out.vl; omega) (by omega) hok (by omega)
    have HEw4:=Zac hEw4
    have Hc74:=Zac c74
    have HG2:=Zac hG2
    have HR2:=Zac hR2
    have k4:w.heap.size+2<w4.heap.size:=by omega
    have k5:w2.heap.size<w4.heap.size:=by omega
    clear hE4 hbg hbr hok hsb hE24 hEw4 c74 hE45 hG2 hR2 HBd
    go_wp2_with fail
    refine (HWt.out _).mono ?_
    rintro e w6 ⟨hE6,hout⟩
    have hz6:=hE6.size
    have hz6:w4.heap.size+1≤w6.heap.size:=by simpa using hz6
    have hE46:Ext w4 w6:=(Below.refl _ w4 |>.alloc (Qe _) _).trans (hE6.mono (by simp))
    have hEw6:Ext w w6:=HEw4.out.trans (hE46.mono (by omega))
    have c76:NB w6 (w.heap.size+2) (.slice none 0 0) (.slice none 0 0) (.slice none 0 0) 0:=(hE46.block _ k4).trans Hc74.out
    have r0:=Zaa c76 0 _ rfl
    have r1:=Zaa c76 1 _ rfl
    have r2:=Zaa c76 2 _ rfl
    have r3:=Zaa c76 3 _ rfl
    have rf:=fun i=>Zae c76 i
    have k6:w.heap.size+2<w6.heap.size:=by omega
    have HEw6:=Zac hEw6
    have Hc76:=Zac c76
    clear hE6 hE46 hEw6 c76 HWt
    rcases hout with ⟨hsmall,g1,g2,g3,v1,v2,v3,q1,q2,q3,rfl,t1,t2,t3⟩ | ⟨⟨l,hl,hbig⟩,rfl⟩
    ·have hkind:=Zvf (k:=k) (g:=g) (gs:=gs) Hc.out (σ:=sbOf ts) hm1 hm2 (by rw [← HG2.out,← HR2.out]; exact hsmall)
     have hK2:∀ x0 x1 x2 x3,Kept (fun j=>j=w.heap.size+2) w6 ((((w6.setCell ⟨w.heap.size+2,0,none⟩ x0).setCell ⟨w.heap.size+2,1,none⟩ x1).setCell ⟨w.heap.size+2,2,none⟩ x2).setCell ⟨w.heap.size+2,3,none⟩ x3):=fun x0 x1 x2 x3=>((((Qx (only (w.heap.size+2)) w6).put 0 _).put 1 _).put 2 _).put 3 _
     have hout:TryOut n c k w (.returned (.tuple #[.agg #[.slice g1 g2 g3,.slice v1 v2 v3,.slice q1 q2 q3,.int .i64 ((n.vars+c.names.length:Nat):Int)],.int .i64 1])) ((((w6.setCell ⟨w.heap.size+2,0,none⟩ (.slice g1 g2 g3)).setCell ⟨w.heap.size+2,1,none⟩ (.slice v1 v2 v3)).setCell ⟨w.heap.size+2,2,none⟩ (.slice q1 q2 q3)).setCell ⟨w.heap.size+2,3,none⟩ (.int .i64 ((n.vars+c.names.length:Nat):Int))):=by
      refine ⟨hset.out w6 _ _ _ _ HEw6.out,g1,g2,g3,v1,v2,v3,q1,q2,q3,n.vars+c.names.length,1,rfl,Or.inr (Or.inr ⟨rfl,Zaq (sbOf ts) n c k g gs,Zfg (Zaq (sbOf ts) n c k g gs),hkind,⟨g,gs,Hgo.out,Or.inr (Or.inr ⟨sbOf ts,Hmg.out,Hsm.out,rfl,rfl⟩)⟩,⟨?_,?_,?_⟩,rfl,?_⟩)⟩
      ·rw [Zhr _ _ _ Hc.out,← HG2.out]; exact (t1.box Hc76.out (by decide) (by decide) (hK2 _ _ _ _)).mono (by simp; omega)
      ·exact (t2.box Hc76.out (by decide) (by decide) (hK2 _ _ _ _)).mono (by simp; omega)
      ·rw [Zlj,← HR2.out]; exact (t3.box Hc76.out (by decide) (by decide) (hK2 _ _ _ _)).mono (by simp; omega)
      ·obtain ⟨za,zc,ze⟩:=t1.inn.shape
       simp only [Value.slice.injEq] at ze
       rw [ze.2.1,HG2.out,← Zhr (sbOf ts) n c Hc.out k g gs,Ql]
     have Hout:=Zac hout
     clear hout hsmall hkind hK2 t1 t2 t3
     go_wp2
     refine bodyPost_ret (v := .tuple #[.agg #[.slice g1 g2 g3,.slice v1 v2 v3,.slice q1 q2 q3,.int .i64 ((n.vars+c.names.length:Nat):Int)],.int .i64 1]) (by simp [results,Tryz.results52,go_sem,r0,r1,r2,r3,rf,k6]) rfl ?_
     exact Hout.out
    ·have Hk:Hid (∃ ch,Out n c k 3 ch):=⟨_,g,gs,Hgo.out,Or.inr (Or.inr ⟨sbOf ts,Hmg.out,Hsm.out,(Yer Hn.out Hc.out k Hgo.out Hmg.out (by rw [← HG2.out,← HR2.out]; exact hl) hbig).symm,rfl⟩)⟩
     clear hl hbig
     go_wp2
     refine bodyPost_ret (v := .tuple #[.agg #[.slice none 0 0,.slice none 0 0,.slice none 0 0,.int .i64 0],.int .i64 2]) (by simp [results,Tryz.results52,go_sem,r0,r1,r2,r3,rf,k6]) rfl ?_
     exact ⟨hset.out w6 _ _ _ _ HEw6.out,none,0,0,none,0,0,none,0,0,0,2,rfl,Or.inr (Or.inl ⟨rfl,Hk.out⟩)⟩
def Zlk (s:ByteArray) (p:Nat):Bool:=if h:p<s.size then figB s[p] else false
theorem Zxj {s:ByteArray} {p:Nat} (h:Zlk s p=true):∃ h:p<s.size,figB s[p]=true:=by
 unfold Zlk at h
 split at h
 ·rename_i h1; exact ⟨h1,h⟩
 ·simp at h
theorem Yes (s:ByteArray) (p:Nat) (w:World) (hs:s.size≤100000) (hp:p≤100001) :
  Calls Tryz.prog 60 #[.string s,.int .i64 p] w fun e w'=>e = .returned (.bool (Zlk s p))∧w'=w:=by
 have h0:(0:Int)≤(p:Int):=by omega
 by_cases hlt:p<s.size
 ·have hlt':(p:Int)<(s.size:Int):=by omega
  cases hf:figB s[p] with
  | true =>
   obtain ⟨f1,f2⟩:=Ziu hf
   have Hd:Hid (Zlk s p=true):=by show _=_; unfold Zlk; rw [dif_pos hlt]; exact hf
   clear hf
   go_enter Tryz.func60,Tryz.ntmps60
   go_wp2
   go_ret
   rw [Hd.out]
   exact ⟨by simp; omega,rfl⟩
  | false =>
   have Hd:Hid (Zlk s p=false):=by show _=_; unfold Zlk; rw [dif_pos hlt]; exact hf
   have hb:s[p].toNat<48∨57<s[p].toNat:=by
    simp only [figB,decide_eq_false_iff_not] at hf
    omega
   clear hf
   rcases hb with hb | hb
   ·have f1:¬ 48≤s[p].toNat:=by omega
    go_enter Tryz.func60,Tryz.ntmps60
    go_wp2
    go_ret
    rw [Hd.out]
    exact ⟨rfl,rfl⟩
   ·have f1:48≤s[p].toNat:=by omega
    have f2:¬ s[p].toNat≤57:=by omega
    go_enter Tryz.func60,Tryz.ntmps60
    go_wp2
    go_ret
    rw [Hd.out]
    exact ⟨by simp; omega,rfl⟩
 ·have hlt':¬ (p:Int)<(s.size:Int):=by omega
  have Hd:Hid (Zlk s p=false):=by show _=_; unfold Zlk; rw [dif_neg hlt]
  go_enter Tryz.func60,Tryz.ntmps60
  go_wp2
  go_ret
  rw [Hd.out]
  exact ⟨rfl,rfl⟩
theorem Yet (s:ByteArray) (p:Nat) (w:World) (hs:s.size≤100000) (hp:p≤100000) :
  Calls Tryz.prog 51 #[.string s,.int .i64 p] w fun e w'=>e = .returned (.tuple #[.int .i64 (Zak (s.data.toList.drop p)).1,.int .i64 ((p+(Zak (s.data.toList.drop p)).2:Nat):Int)])∧w'=w:=by
 have HD:=Zac (fun q u (hq:q≤100001)=>Yes s q u hs hq)
 obtain ⟨r,hr⟩:∃ r,r=Zak (s.data.toList.drop p):=⟨_,rfl⟩
 rw [← hr]
 have Hr:=Zac hr
 clear hr
 cases hd:Zlk s p with
 | false =>
  have Hrr:Hid (r=(0,0)):=by
   show _=_
   rw [Hr.out]
   by_cases hlt:p<s.size
   ·refine Zut s p hlt ?_
    unfold Zlk at hd
    rw [dif_pos hlt] at hd
    exact hd
   ·exact Zsk s p hlt
  have H0:=HD.out p w (by omega)
  rw [hd] at H0
  have H0:=Zac H0
  clear hd
  go_enter Tryz.func51,Tryz.ntmps51
  go_wp2_with fail
  refine H0.out.mono ?_
  rintro e w' ⟨rfl,rfl⟩
  go_wp2
  go_ret2
  rw [Hrr.out]
  exact ⟨by simp,rfl⟩
 | true =>
  obtain ⟨hlt,hf⟩:=Zxj hd
  obtain ⟨f1,f2⟩:=Ziu hf
  have H0:=HD.out p w (by omega)
  rw [hd] at H0
  have H0:=Zac H0
  have H1:=HD.out (p+1) w (by omega)
  clear hd
  by_cases h0:s[p].toNat - 48=0
  ·have Hrr:Hid (r=(0,1)):=by show _=_; rw [Hr.out,Zsl s p hlt hf h0,h0]
   have h48:s[p].toNat=48:=by omega
   clear hf H1
   go_enter Tryz.func51,Tryz.ntmps51
   go_wp2_with fail
   refine H0.out.mono ?_
   rintro e w' ⟨rfl,rfl⟩
   go_wp2
   go_ret2
   rw [Hrr.out]
   exact ⟨by simp [h48],rfl⟩
  ·cases hd1:Zlk s (p+1) with
   | false =>
    have Hrr:Hid (r=(s[p].toNat - 48,1)):=by
     show _=_
     rw [Hr.out]
     by_cases hlt1:p+1<s.size
     ·refine Zsm s p hlt hf hlt1 ?_
      unfold Zlk at hd1
      rw [dif_pos hlt1] at hd1
      exact hd1
     ·exact Zuu s p hlt hf hlt1
    rw [hd1] at H1
    have H1:=Zac H1
    clear hf hd1
    go_enter Tryz.func51,Tryz.ntmps51
    go_wp2_with fail
    refine H0.out.mono ?_
    rintro e w' ⟨rfl,rfl⟩
    go_wp2_with fail
    refine H1.out.mono ?_
    rintro e w' ⟨rfl,rfl⟩
    go_wp2
    go_ret2
    rw [Hrr.out]
    exact ⟨by simp; omega,rfl⟩
   | true =>
    obtain ⟨hlt1,hf1⟩:=Zxj hd1
    obtain ⟨f3,f4⟩:=Ziu hf1
    have Hrr:Hid (r=(10 * (s[p].toNat - 48)+(s[p+1].toNat - 48),2)):=by
     show _=_
     rw [Hr.out]
     exact Zuv s p hlt hf h0 hlt1 hf1
    rw [hd1] at H1
    have H1:=Zac H1
    clear hf hd1 hf1
    go_enter Tryz.func51,Tryz.ntmps51
    go_wp2_with fail
    refine H0.out.mono ?_
    rintro e w' ⟨rfl,rfl⟩
    go_wp2_with fail
    refine H1.out.mono ?_
    rintro e w' ⟨rfl,rfl⟩
    go_wp2
    go_ret2
    rw [Hrr.out]
    exact ⟨by simp; omega,rfl⟩
def Yhk (s:ByteArray) (w:World) (e:Ending) (w':World):Prop:=Ext w w' ∧
 ((400<s.size∧e = .returned (.tuple #[.slice none 0 0,.agg #[.int .i64 1,.int .i64 0]]))∨(s.size≤400 ∧
  ((∃ ks a c,Zcj s=(some ks,0)∧e = .returned (.tuple #[.slice a ks.length c,.agg #[.int .i64 0,.int .i64 0]])∧w'.ownsRow 0 3 1 (.slice a ks.length c) ks.length (ints ks)∧ks.length≤400∧∀ k ∈ ks,k≤99) ∨
   (∃ pl:Nat,Zcj s=(none,pl)∧e = .returned (.tuple #[.slice none 0 0,.agg #[.int .i64 6,.int .i64 pl]])))))
theorem Yhl (s:ByteArray) (w:World) (hm:s.size≤maxLen):Calls Tryz.prog 36 #[.string s] w (Yhk s w):=by
 unfold maxLen at hm
 have hset:Hid (∀ y x0 x1,Ext w y→Ext w ((y.setCell ⟨w.heap.size,0,none⟩ x0).setCell ⟨w.heap.size,1,none⟩ x1)):=fun y x0 x1 hE=>(hE.setCell (p:=⟨w.heap.size,0,none⟩) (Qe _) _).setCell (p:=⟨w.heap.size,1,none⟩) (Qe _) _
 by_cases hbig:400<s.size
 ·have hb':(400:Int)<(s.size:Int):=by omega
  go_enter Tryz.func36,Tryz.ntmps36
  go_wp2
  refine bodyPost_ret (v := .tuple #[.slice none 0 0,.agg #[.int .i64 1,.int .i64 0]]) (by simp [results,Tryz.results36,go_sem]) rfl ?_
  exact ⟨(Ext.of (by repeat' (first | with_reducible(first|exact Qx _ _|apply Kept.drew|apply Kept.drewN|apply Qz|refine Qy ?_ ?_ _)|exact fun h=>absurd h (by simp <;> omega)))),Or.inl ⟨hbig,rfl⟩⟩
 ·have hs:s.size≤400:=by omega
  have hb':¬ ((400:Int)<(s.size:Int)):=by omega
  have hsl:s.data.toList.length=s.size:=by simp
  have HN:=Zac (fun p u (hp:p≤401)=>Yet s p u (by omega) (by omega))
  go_enter Tryz.func36,Tryz.ntmps36
  go_wp2
  go_loopg [4,5] (s.size+2) (fun gk lv av wr=>∃ (p f:Nat) (acc:List Nat),av = .int .i64 p∧p≤s.size∧s.size+1 - p<gk∧s.size+1 - p≤f∧Zcj s=Zde f (s.data.toList.drop p) p acc∧acc.length≤p∧(∀ k ∈ acc,k≤99)∧Ext w wr∧wr.heap[w.heap.size]?=some (.cells #[.int .i64 0,.int .i64 0] 60 (0,0))∧wr.ownsRow w.heap.size 3 1 lv acc.length (ints acc))
  case atStart=>exact ⟨0,s.size+1,[],by go_num,by omega,by omega,by omega,by rw [Zcj]; rfl,by simp,by simp,(Ext.of (by repeat' (first | with_reducible(first|exact Qx _ _|apply Kept.drew|apply Kept.drewN|apply Qz|refine Qy ?_ ?_ _)|exact fun h=>absurd h (by simp <;> omega)))),heap_alloc_new w _,World.ownsRow_nil _ _ _ _⟩
  case round =>
   obtain ⟨p,f,acc,rfl,hp,hgk,hf,hnum,hal,ha9,hext,hblk,hown⟩:=hrel
   obtain ⟨la,lcap,rfl⟩:=Zad hown
   have hsr:=hext.size
   obtain ⟨hT4,f0,f1,ff⟩:=FaultAt.cells (e:=0) (p:=0) hblk
   obtain ⟨m,z,hmz⟩:∃ m z,Zak (s.data.toList.drop p)=(m,z):=⟨_,_,rfl⟩
   have hsz:=Zds (s.data.toList.drop p)
   rw [hmz] at hsz
   simp only [List.length_drop] at hsz
   have h1:=HN.out p wr (by omega)
   rw [hmz] at h1
   have H1:=Zac h1
   have Hmz:=Zac hmz
   have Hnm:=Zac hnum
   have Hext:=Zac hext
   have Hown:=Zac hown
   have Hblk:=Zac hblk
   have Ha9:=Zac ha9
   clear h1 hmz hnum hext hown hblk ha9
   by_cases hz:z=0
   ·have Hr:Hid (Zcj s=(none,p)):=by
     show _=_
     cases f with
     | zero =>
      exfalso; omega
     | succ f=>rw [Hnm.out,Zqd _ _ _ _ (by rw [Hmz.out]; exact hz)]
    subst hz
    go_wp2_with fail
    refine H1.out.mono ?_
    rintro e w2 ⟨rfl,rfl⟩
    go_wp2
    refine bodyPost_ret (v := .tuple #[.slice none 0 0,.agg #[.int .i64 6,.int .i64 p]]) (by simp [results,Tryz.results36,go_sem,f0,f1,ff,hT4]) rfl ?_
    exact ⟨hset.out _ _ _ Hext.out,Or.inr ⟨hs,Or.inr ⟨p,Hr.out,rfl⟩⟩⟩
   ·have hple:p<s.size:=by omega
    obtain ⟨f',rfl⟩:∃ f',f=f'+1:=⟨f - 1,by omega⟩
    have Hr:Hid (Zcj s=Zkg f' (s.data.toList.drop (p+z)) (p+z) (acc++[m])):=by
     show _=_
     rw [Hnm.out,Zqc _ _ _ _ (by rw [Hmz.out]; exact hz),Hmz.out,List.drop_drop]
    have hz':(((p+z:Nat):Int) == (p:Int))=false:=by rw [Qu]; omega
    go_wp2_with fail
    refine H1.out.mono ?_
    rintro e w2 ⟨rfl,rfl⟩
    go_wp2_with (at_builtin; go_loud (refine Zam _ rfl (.tmp 23) (.tmp 25) 22 rfl w.heap.size 3 Tryz.infoInt Tryz.underlying22 rfl (by decide) (.slice la acc.length lcap) acc.length (ints acc) rfl Hown.out _ rfl rfl rfl (Zib _) ?_ ?_ ?_))
    ·omega
    ·omega
    intro v' w3 hap
    obtain ⟨v1a,v1cap,rfl⟩:=Zad hap.owns
    have hE3:Ext w w3:=Hext.out.trans (hap.kept.below hsr (fun i e=>(Hown.out.lt i e).1))
    have hb3:=(hap.kept.block _ (Zab Hblk.out) (Zag Hown.out (by decide) Hblk.out)).trans Hblk.out
    obtain ⟨hT5,g0,g1,gf⟩:=FaultAt.cells (e:=0) (p:=0) hb3
    have hrow3:w3.ownsRow w.heap.size 3 1 (.slice v1a (acc.length+1) v1cap) (acc++[m]).length (ints (acc++[m])):=by
     have:=hap.owns
     simpa [ints] using this
    have HE3:=Zac hE3
    have Hb3:=Zac hb3
    have Hrow3:=Zac hrow3
    clear hap hE3 hb3 hrow3 f0 f1 ff hT4
    have h9:Hid (∀ k ∈ acc++[m],k≤99):=fun k hk=>by
     rcases Qk.1 hk with hk | hk
     ·exact Ha9.out k hk
     ·simp at hk; subst hk; omega
    by_cases hlt:p+z<s.size
    ·have hd:=Zdq s (p+z) hlt
     have hlt':¬ ((s.size:Int)≤((p+z:Nat):Int)):=by omega
     by_cases hc:s[p+z]=46
     ·have hcb:((s[p+z].toNat:Int) != 46)=false:=by rw [hc]; rfl
      have Hr2:Hid (Zcj s=Zde f' (s.data.toList.drop (p+z+1)) (p+z+1) (acc++[m])):=by
       show _=_
       rw [Hr.out,hd]
       simp [Zkg,hc]
      clear hd hc
      go_wp2
      go_roundg (s.size+1 - p)
      case measure=>omega
      case rel=>exact ⟨p+z+1,f',acc++[m],by go_num,by omega,by omega,by omega,Hr2.out,by simp; omega,h9.out,HE3.out,Hb3.out,by have:=Hrow3.out; simpa using this⟩
     ·have hcb:((s[p+z].toNat:Int) != 46)=true:=by
       rw [bne_iff_ne]
       intro e
       apply hc
       apply UInt8.toNat_inj.1
       have:s[p+z].toNat=46:=by omega
       rw [this]; rfl
      have Hr2:Hid (Zcj s=(none,p+z)):=by
       show _=_
       rw [Hr.out,hd]
       simp [Zkg,hc]
      clear hd hc
      go_wp2
      refine bodyPost_ret (v := .tuple #[.slice none 0 0,.agg #[.int .i64 6,.int .i64 ((p+z:Nat):Int)]]) (by simp [results,Tryz.results36,go_sem,g0,g1,gf,hT5]) rfl ?_
      exact ⟨hset.out _ _ _ HE3.out,Or.inr ⟨hs,Or.inr ⟨p+z,Hr2.out,rfl⟩⟩⟩
    ·have hd:=Zia s (p+z) hlt
     have hlt':(s.size:Int)≤((p+z:Nat):Int):=by omega
     have Hr2:Hid (Zcj s=(some (acc++[m]),0)):=by
      show _=_
      rw [Hr.out,hd]
      simp [Zkg]
     clear hd
     go_wp2
     refine bodyPost_ret (v := .tuple #[.slice v1a (acc.length+1) v1cap,.agg #[.int .i64 0,.int .i64 0]]) (by simp [results,Tryz.results36,go_sem,g0,g1,gf,hT5]) rfl ?_
     have hK:∀ x0 x1,Kept (fun j=>j=w.heap.size) w3 ((w3.setCell ⟨w.heap.size,0,none⟩ x0).setCell ⟨w.heap.size,1,none⟩ x1):=fun x0 x1=>((Qx (only w.heap.size) w3).put 0 _).put 1 _
     have hrow:=Hrow3.out
     refine ⟨hset.out _ _ _ HE3.out,Or.inr ⟨hs,Or.inl ⟨acc++[m],v1a,v1cap,Hr2.out,by simp,?_,by simp; omega,h9.out⟩⟩⟩
     have hlen:(acc++[m]).length=acc.length+1:=by simp
     rw [hlen] at hrow ⊢
     exact Zba (Zct hrow Hb3.out (by decide) (hK (.int .i64 0) (.int .i64 0))) (Qm _)
def offA (N:List (List UInt8 × Nat)) (s:Sym):Sym:=if s.name=[]∨(s.name,s.args) ∈ N then s else ⟨s.name++[0],s.num,s.args⟩
theorem Ykh {N:List (List UInt8 × Nat)}:∀ {l:List Sym} {k:Nat},Wf k l→Wf k (l.map (offA N)):=by
 intro l
 induction l with
 | nil=>intro k h; exact h
 | cons s l ih =>
  intro k h
  obtain ⟨h1,h2,h3,h4⟩:=h
  have e1:(offA N s).args=s.args:=by unfold offA; split <;> rfl
  have e2:(offA N s).name=[]↔s.name=[]:=by
   unfold offA; split
   ·exact Iff.rfl
   ·rename_i h; simp at h ⊢; exact h.1
  have e3:(offA N s).num=s.num:=by unfold offA; split <;> rfl
  refine ⟨h1,fun h=>by rw [e1]; exact h2 (e2.1 h),fun h=>by rw [e3]; exact h3 (fun h'=>h (e2.2 h')),?_⟩
  rw [e1]; exact ih h4
theorem Mgu.nma {σ:Nat→List Sym} {a b:List Sym} (h:Mgu σ a b) (n:Nat):∀ s ∈ σ n,s.name≠[]→∃ t ∈ a++b,t.name=s.name∧t.args=s.args:=by
 intro s hs hn
 refine Classical.byContradiction (fun hno => ?_)
 have hno:∀ t ∈ a++b,¬ (t.name=s.name∧t.args=s.args):=fun t ht e=>hno ⟨t,ht,e⟩
 obtain ⟨N,hN⟩:∃ N,N=(a++b).map (fun t=>(t.name,t.args)):=⟨_,rfl⟩
 have hθ:Ts (fun n=>(σ n).map (offA N)):=fun n=>Ykh (h.ts n)
 have key:∀ l:List Sym,(∀ t ∈ l,(t.name,t.args) ∈ N)→ap (fun n=>(σ n).map (offA N)) l=(ap σ l).map (offA N):=by
  intro l
  induction l with
  | nil=>intro _; rfl
  | cons t l ih =>
   intro ht
   rw [Zbs,Zbs,Qr,ih (fun u hu=>ht u (by simp [hu]))]
   congr 1
   unfold ap1
   split
   ·rfl
   ·have:offA N t=t:=by unfold offA; rw [if_pos (Or.inr (ht t (by simp)))]
    simp [this]
 have ha:=key a (fun t ht=>by rw [hN]; exact List.mem_map.2 ⟨t,by simp [ht],rfl⟩)
 have hb:=key b (fun t ht=>by rw [hN]; exact List.mem_map.2 ⟨t,by simp [ht],rfl⟩)
 have hw:=h.wide _ hθ (by rw [ha,hb,h.unif]) n
 have hf:=Zok hθ hw s hs hn
 have hnN:¬ (s.name=[]∨(s.name,s.args) ∈ N):=by
  rintro (h | h)
  ·exact hn h
  ·rw [hN] at h
   obtain ⟨t,ht,e⟩:=List.mem_map.1 h
   simp only [Prod.mk.injEq] at e
   exact hno t ht e
 unfold offA at hf
 rw [if_neg hnN] at hf
 have:=congrArg (fun s=>s.name.length) hf
 simp at this
def Few (l:List Sym):Prop:=∀ s ∈ l,s.args≤4
def NFew (n:ND):Prop:=∀ t ∈ n.terms,Few t
def CFew (c:Cls):Prop:=Few c.head∧∀ t ∈ c.body,Few t
theorem Yir (n:Nat):Few (vr n):=fun s hs=>by simp [vr] at hs; subst hs; simp
theorem Few.ap {σ:Nat→List Sym} {l:List Sym} (h:Few l) (hσ:∀ n,Few (σ n)):Few (ap σ l):=by
 intro s hs
 simp only [YtlmjilpjmgjjcabGreatDoor.ap,List.mem_flatMap] at hs
 obtain ⟨t,ht,hs⟩:=hs
 unfold ap1 at hs
 split at hs
 ·exact hσ _ s hs
 ·simp at hs; subst hs; exact h s ht
theorem Ztj (v n:Nat):Few (Zcx v n):=Yir _
theorem Mgu.few {σ:Nat→List Sym} {a b:List Sym} (h:Mgu σ a b) (ha:Few a) (hb:Few b) (n:Nat):Few (σ n):=by
 intro s hs
 by_cases hn:s.name=[]
 ·rw [Zuk (h.ts n) s hs hn]; omega
 ·obtain ⟨t,ht,_,e⟩:=h.nma n s hs hn
  rw [← e]
  rcases Qk.1 ht with ht | ht
  ·exact ha t ht
  ·exact hb t ht
theorem Zvg {n:ND} {c:Cls} {k q:Nat} {ch:ND} (h:Out n c k q ch) (hq:q=1∨q=2) (hn:NFew n) (hc:CFew c):NFew ch:=by
 obtain ⟨g,gs,hg,h⟩:=h
 rcases h with ⟨rfl,_⟩ | ⟨rfl,_⟩ | ⟨σ,h1,_,_,rfl⟩
 ·omega
 ·omega
 ·have hgt:Few g.1:=hn g.1 (by simp [ND.terms,hg])
  have hhd:Few (ap (Zcx n.vars) c.head):=hc.1.ap (Ztj _)
  have hσ:=h1.few hgt hhd
  intro t ht
  rw [Zfy] at ht
  simp only [Qk,List.mem_map] at ht
  rcases ht with ⟨u,hu,rfl⟩ | ⟨u,hu,rfl⟩ | ⟨u,hu,rfl⟩
  ·rcases hu with ⟨b,hb,rfl⟩ | ⟨x,hx,rfl⟩
   ·exact ((hc.2 b hb).ap (Ztj _)).ap hσ
   ·exact (hn x.1 (by simp only [ND.terms,hg,List.map_cons,List.cons_append,Qp,Qk,List.mem_map]; exact Or.inr (Or.inl ⟨x,hx,rfl⟩))).ap hσ
  ·exact (hn u (by simp [ND.terms,hu])).ap hσ
  ·rcases hu with ⟨x,hx,rfl⟩ | hu
   ·exact (hn x.1 (by simp only [ND.terms,Qk,List.mem_map]; exact Or.inr (Or.inr ⟨x,hx,rfl⟩))).ap hσ
   ·simp at hu; subst hu; exact hgt.ap hσ
structure SF (st:RS):Prop where
 sb:SB st
 atom:Few st.atom
 head:Few st.head
 body:∀ l ∈ st.body,Few l
 cls:∀ c ∈ st.clauses,Few c.head∧∀ l ∈ c.body,Few l
theorem Zxk {l:List Sym} {s:Sym} (h:Few l) (hs:s.args≤4):Few (l++[s]):=fun t ht=>by
 rcases Qk.1 ht with ht | ht
 ·exact h t ht
 ·simp at ht; subst ht; exact hs
theorem Zvh:Few []:=fun s hs=>by simp at hs
theorem Zxl:∀ l ∈ ([]:List (List Sym)),Few l:=fun l hl=>by simp at hl
theorem Zxm {st:RS} (h:SF st) (hf:Zfh st=false) (hn:st.next=0∨st.next=1∨st.next=2):Few (Zcn st):=by
 unfold Zcn
 cases ho:st.opn with
 | nil=>exact h.atom
 | cons n r =>
  simp only
  by_cases h2:st.next=2
  ·have ha:Zky st<4:=by
    unfold Zfh at hf
    rw [if_neg (by omega),if_neg (by omega),if_pos h2] at hf
    simp at hf
    omega
   intro s hs
   obtain ⟨i,hi⟩:=List.mem_iff_getElem?.1 hs
   rw [List.getElem?_modify] at hi
   cases hx:st.atom[i]? with
   | none=>rw [hx] at hi; simp at hi
   | some x =>
    rw [hx] at hi
    simp at hi
    subst hi
    split
    ·rename_i e
     subst e
     have:Zky st=x.args:=by unfold Zky; rw [ho]; simp [hx]
     simp only
     omega
    ·exact h.atom x (Qh hx)
  ·have:=h.sb.empty h2 (by omega) (by omega)
   rw [this]
   intro s hs
   simp at hs
theorem SF.endAtom {st:RS} (h:SF st):Few (Zap st).atom∧Few (Zap st).head∧(∀ l ∈ (Zap st).body,Few l)∧∀ c ∈ (Zap st).clauses,Few c.head∧∀ l ∈ c.body,Few l:=by
 unfold Zap
 split
 ·refine ⟨fun s hs=>by simp at hs,h.head,fun l hl => ?_,h.cls⟩
  simp at hl
  rcases hl with hl | rfl
  ·exact h.body l hl
  ·exact h.atom
 ·exact ⟨fun s hs=>by simp at hs,h.atom,h.body,h.cls⟩
theorem SF.take {st:RS} {kd len:Nat} {t:List UInt8} (h:SF st) (hc:Zbv st kd len=0) (hlen:len=t.length):SF (Zbj st kd t):=by
 have hs:=Zji hc
 have hsb:=h.sb.take hc hlen
 have hfull:kd=1∨kd=2→Zfh st=false:=by
  intro hk
  unfold Zbv at hc
  rw [if_neg (by simp [hs])] at hc
  split at hc
  ·omega
  ·rename_i h'
   cases hf:Zfh st with
   | false=>rfl
   | true=>exact absurd ⟨hk,Or.inr hf⟩ h'
 have hnext:kd=1∨kd=2→st.next=0∨st.next=1∨st.next=2:=by
  intro hk
  unfold Zbh at hs
  split at hs
  ·omega
  ·split at hs
   ·omega
   ·split at hs
    ·rcases hk with rfl | rfl
     ·simp [Zbt] at hs
     ·simp [Zbt] at hs
    ·split at hs
     ·rcases hk with rfl | rfl
      ·simp [Zbt] at hs
      ·simp [Zbt] at hs
     ·simp at hs
 obtain ⟨e1,e2,e3,e4⟩:=h.endAtom
 refine ⟨hsb,?_,?_,?_,?_⟩
 all_goals clear hsb
 all_goals
  unfold Zbj
  split
  ·rename_i hk
   first
    | exact Zxk (Zxm h (hfull (Or.inl hk)) (hnext (Or.inl hk))) (by simp)
    | exact h.head
    | exact h.body
    | exact h.cls
  split
  ·rename_i _ hk
   first
    | exact Zxk (l:=Zcn st) (Zxm h (hfull (Or.inr hk)) (hnext (Or.inr hk))) (by simp)
    | exact h.head
    | exact h.body
    | exact h.cls
  split
  ·first | exact h.atom | exact h.head | exact h.body | exact h.cls
  split
  ·unfold Zjc
   first | exact h.atom | exact h.head | exact h.body | exact h.cls
  split
  ·unfold Zgk
   split
   ·first | exact e1 | exact e2 | exact e3 | exact e4
   ·first | exact h.atom | exact h.head | exact h.body | exact h.cls
  split
  ·first | exact e1 | exact e2 | exact e3 | exact e4
  split
  ·unfold Zan
   first
    | exact e1
    | exact Zvh
    | exact Zxl
    | exact (fun c hc=>by
      simp only [Qk,List.mem_singleton] at hc
      rcases hc with hc | rfl
      ·exact e4 c hc
      ·exact ⟨e2,e3⟩)
  ·first | exact h.atom | exact h.head | exact h.body | exact h.cls
theorem SF.run {e:Nat}:∀ {ts:List Tok} {st:RS},SF st→(runT e ts st).1=0→SF (runT e ts st).2.2:=by
 intro ts
 induction ts with
 | nil=>intro st h _; unfold runT; split <;> exact h
 | cons t ts ih =>
  intro st h h0
  unfold runT at h0 ⊢
  split at h0
  ·rename_i hc; exact absurd h0 hc
  ·rename_i hc
   rw [if_neg hc]
   exact ih (h.take (len:=t.text.length) (by omega) rfl) h0
theorem SF.start (q:Bool):SF ⟨q,if q then 1 else 0,q,[],[],[],[],[],[]⟩:=⟨SB.start q,Zvh,Zvh,Zxl,fun c hc=>by simp at hc⟩
theorem Zqr {s:ByteArray} {cs:List Cls} (h:Zcl s=some cs):∀ c ∈ cs,CFew c:=by
 obtain ⟨_,h0,e,_⟩:=Zdr h
 have hB:SF (runs s false).2.2:=(SF.start false).run h0
 intro c hc
 exact hB.cls c (by rw [e]; exact hc)
theorem Zvi {s:ByteArray} {a:List (List Sym) × Names} (h:Zdx s=some a):NFew (topN a):=by
 obtain ⟨_,h0,e,_⟩:=Zcy h
 have hB:SF (runs s true).2.2:=(SF.start true).run h0
 have hc:=(hB.cls ⟨[],a.1,a.2⟩ (by rw [e]; simp)).2
 intro t ht
 simp only [ND.terms,topN,List.map_map,List.map_nil,Qs,Qk,List.mem_map,Function.comp] at ht
 rcases ht with ⟨u,hu,rfl⟩ | ⟨i,_,rfl⟩
 ·exact hc u hu
 ·exact Yir i
def TryX (n:ND) (c:Cls) (k:Nat) (X:Nat→Prop) (v:Value) (u:World):Prop:=∃ g1 g2 g3 v1 v2 v3 r1 r2 r3,∃ uu q:Nat,v = .tuple #[.agg #[.slice g1 g2 g3,.slice v1 v2 v3,.slice r1 r2 r3,.int .i64 uu],.int .i64 q] ∧
 ((q=0∧(n.goals=[]∨Out n c k 0 n))∨(q=2∧∃ ch,Out n c k 3 ch)∨(q=1∧∃ ch qq,(qq=1∨qq=2)∧Out n c k qq ch∧uu=ch.vars∧g2=ch.goals.length ∧
  (∃ vs,TermsAt u 0 (.slice g1 g2 g3) (ch.goals.map (·.1)) vs∧(∀ j,(Value.slice g1 g2 g3).ownBlock=some j→¬ X j)∧∀ x ∈ vs,∀ j,x.ownBlock=some j→¬ X j) ∧
  (∃ vs,TermsAt u 0 (.slice v1 v2 v3) ch.vals vs∧(∀ j,(Value.slice v1 v2 v3).ownBlock=some j→¬ X j)∧∀ x ∈ vs,∀ j,x.ownBlock=some j→¬ X j) ∧
  (∃ vs,TermsAt u 0 (.slice r1 r2 r3) (ch.done.map (·.1)) vs∧(∀ j,(Value.slice r1 r2 r3).ownBlock=some j→¬ X j)∧∀ x ∈ vs,∀ j,x.ownBlock=some j→¬ X j)))
theorem Zhs {X X':Nat→Prop} {v:Value} {ls:List (List Sym)} {u u':World} (h:∃ vs,TermsAt u 0 v ls vs∧(∀ j,v.ownBlock=some j→¬ X j)∧∀ x ∈ vs,∀ j,x.ownBlock=some j→¬ X j) (hb:∀ k,k<u.heap.size→¬ X k→u'.heap[k]?=u.heap[k]?) (hX:∀ k,k<u.heap.size→X' k→X k) :
  ∃ vs,TermsAt u' 0 v ls vs∧(∀ j,v.ownBlock=some j→¬ X' j)∧∀ x ∈ vs,∀ j,x.ownBlock=some j→¬ X' j:=by
 obtain ⟨vs,h,h1,h2⟩:=h
 have hlen:vs.length=ls.length:=by have:=h.owns.1; omega
 have hin:∀ x ∈ vs,∃ l,WordAt u x l:=fun x hx=>by
  obtain ⟨i,hi⟩:=List.mem_iff_getElem?.1 hx
  have hil:=(Qa.1 hi).1
  obtain ⟨y,h3,h4⟩:=h.all i _ (Qb (by omega))
  rw [hi] at h3
  simp only [Qo] at h3
  subst h3
  exact ⟨_,h4⟩
 refine ⟨vs,⟨Zah h.owns (fun j hj=>hb j (h.owns.lt j hj).2 (h1 j hj)),fun i l hi => ?_⟩,fun j hj hx=>h1 j hj (hX j (h.owns.lt j hj).2 hx),fun x hx j hj hx' => ?_⟩
 ·obtain ⟨y,h3,h4⟩:=h.all i l hi
  exact ⟨y,h3,Zah h4 (fun j hj=>hb j (h4.lt j hj).2 (h2 y (Qh h3) j hj))⟩
 ·obtain ⟨l,hl⟩:=hin x hx
  exact h2 x hx j hj (hX j (hl.lt j hj).2 hx')
theorem TryX.stable {n:ND} {c:Cls} {k:Nat}:∀ X X' v u u',TryX n c k X v u→(∀ k,k<u.heap.size→¬ X k→u'.heap[k]?=u.heap[k]?)→u.heap.size≤u'.heap.size→(∀ k,k<u.heap.size→X' k→X k)→TryX n c k X' v u':=by
 rintro X X' v u u' ⟨g1,g2,g3,v1,v2,v3,r1,r2,r3,uu,q,rfl,h⟩ hb _ hX
 refine ⟨g1,g2,g3,v1,v2,v3,r1,r2,r3,uu,q,rfl,?_⟩
 rcases h with h | h | ⟨rfl,ch,qq,h1,h2,h3,h4,h5,h6,h7⟩
 ·exact Or.inl h
 ·exact Or.inr (Or.inl h)
 ·exact Or.inr (Or.inr ⟨rfl,ch,qq,h1,h2,h3,h4,Zhs h5 hb hX,Zhs h6 hb hX,Zhs h7 hb hX⟩)
theorem TryOut.toX {n:ND} {c:Cls} {k:Nat} {X:Nat→Prop} {w w':World} {e:Ending} (h:TryOut n c k w e w') (hX:∀ j,X j→j<w.heap.size):∃ v,e = .returned v∧Ext w w'∧TryX n c k X v w':=by
 obtain ⟨hE,g1,g2,g3,v1,v2,v3,r1,r2,r3,uu,q,rfl,h⟩:=h
 refine ⟨_,rfl,hE,g1,g2,g3,v1,v2,v3,r1,r2,r3,uu,q,rfl,?_⟩
 have key:∀ {v:Value} {ls:List (List Sym)},TermsNew w.heap.size w' v ls→∃ vs,TermsAt w' 0 v ls vs∧(∀ j,v.ownBlock=some j→¬ X j)∧∀ x ∈ vs,∀ j,x.ownBlock=some j→¬ X j:=fun {v ls} h=>by
  obtain ⟨vs,h1,h2,h3⟩:=h
  exact ⟨vs,h1,fun j hj hx=>by have:=h2 j hj; have:=hX j hx; omega,fun x hx j hj hx'=>by have:=h3 x hx j hj; have:=hX j hx'; omega⟩
 rcases h with h | h | ⟨rfl,ch,qq,h1,h2,h3,h4,h5⟩
 ·exact Or.inl h
 ·exact Or.inr (Or.inl h)
 ·exact Or.inr (Or.inr ⟨rfl,ch,qq,h1,h2,h4,h5,key h3.goals,key h3.vals,key h3.done⟩)
def Ziw (cs:List Cls) (a:List (List Sym) × Names) (ks:List Nat) (w:World) (e:Ending) (w':World):Prop:=Ext w w' ∧
 (((Zau cs (topN a) ks 0).2.1≠0∧e = .returned (.tuple #[.agg #[.slice none 0 0,.slice none 0 0,.slice none 0 0,.int .i64 0],.agg #[.int .i64 (Zau cs (topN a) ks 0).2.1,.int .i64 (Zau cs (topN a) ks 0).2.2]])) ∨
  ((Zau cs (topN a) ks 0).2=(0,0)∧∃ g1 g2 g3 v1 v2 v3 r1 r2 r3,∃ uu:Nat,∃ n,e = .returned (.tuple #[.agg #[.slice g1 g2 g3,.slice v1 v2 v3,.slice r1 r2 r3,.int .i64 uu],.agg #[.int .i64 0,.int .i64 0]])∧NodeIn w' (.slice g1 g2 g3) (.slice v1 v2 v3) (.slice r1 r2 r3) n∧NOk n∧NNm n∧NFew n∧Same n (Zau cs (topN a) ks 0).1))
theorem ProgIn.cell {w:World} {lb cap:Nat} {cs:List Cls} {xs:List (List Value)} (h:ProgIn w (.slice (some ⟨lb,0,none⟩) cs.length cap) cs xs) {k:Nat} {c:Cls} (hc:cs[k]?=some c):∃ hv bv nv,w.cell? ⟨lb,k * 3,none⟩=some hv∧w.cell? ⟨lb,k * 3+1,none⟩=some bv∧w.cell? ⟨lb,k * 3+2,none⟩=some nv∧ClsIn w hv bv nv c:=by
 obtain ⟨hv,bv,nv,hx,hcl⟩:=h.all k c hc
 have key:∀ (xs:List (List Value)) (k:Nat),(∀ x ∈ xs,x.length=3)→xs[k]?=some [hv,bv,nv]→∀ j,j<3→xs.flatten[k * 3+j]?=[hv,bv,nv][j]?:=by
  intro xs
  induction xs with
  | nil=>intro k _ h; simp at h
  | cons x xs ih =>
   intro k h3 hk j hj
   rw [List.flatten_cons]
   have hx3:=h3 x (by simp)
   cases k with
   | zero =>
    simp at hk
    subst hk
    rw [Qc (by simp; omega)]
    simp
   | succ k =>
    rw [Qd (by omega),hx3]
    have:=ih k (fun y hy=>h3 y (by simp [hy])) (by simpa using hk) j hj
    rw [← this]
    congr 1
    omega
 have k3:=key xs k h.three hx
 refine ⟨hv,bv,nv,Zai h.owns _ _ ?_,Zai h.owns _ _ ?_,Zai h.owns _ _ ?_,hcl⟩
 ·have:=k3 0 (by omega); simpa using this
 ·have:=k3 1 (by omega); simpa using this
 ·have:=k3 2 (by omega); simpa using this
structure FolAt (w:World) (nb:Nat) (cs:List Cls) (a:List (List Sym) × Names) (ks:List Nat) (i:Nat) (n m:ND) (gv vv rv:Value) (wr:World):Prop where
 ext:Ext w wr
 res:NB wr (w.heap.size+1) (.slice none 0 0) (.slice none 0 0) (.slice none 0 0) 0
 flt:wr.heap[w.heap.size+2]?=some (.cells #[.int .i64 0,.int .i64 0] 60 (0,0))
 box:NB wr nb gv vv rv n.vars
 node:NodeIn wr gv vv rv n
 ok:NOk n
 nm:NNm n
 few:NFew n
 same:Same n m
 fol:Zau cs (topN a) ks 0=Zau cs m (ks.drop i) i
theorem Zvj (w:World) (cv hv bv nv kv:Value) (cs:List Cls) (xs:List (List Value)) (a:List (List Sym) × Names) (ks:List Nat) (hP:ProgIn w cv cs xs) (hh:∃ a n x,hv = .slice a n x) (hb:TermsIn w bv a.1) (hns:w.ownsRow 0 9 1 nv a.2.length (strs a.2)) (hk:w.ownsRow 0 3 1 kv ks.length (ints ks))
  (hcs:∀ c ∈ cs,COk c∧CNm c) (hcf:∀ c ∈ cs,CFew c) (hcl:cs.length≤24) (hN:NOk (topN a)) (hNn:NNm (topN a)) (hNf:NFew (topN a)) (hal:a.1.length≤6) (han:a.2.length≤121) (hkl:ks.length≤400) (hk9:∀ k ∈ ks,k≤99) :
  Calls Tryz.prog 37 #[cv,.agg #[hv,bv,nv],kv] w (Ziw cs a ks w):=by
 obtain ⟨h1,h2,h3,rfl⟩:=hh
 obtain ⟨ba,bcap,rfl⟩:=hb.shape
 obtain ⟨na,ncap,rfl⟩:=Zad hns
 obtain ⟨ka,kcap,rfl⟩:=Zad hk
 obtain ⟨la,lcap,rfl⟩:=Zad hP.owns
 obtain ⟨W,hW⟩:∃ W,W=((w.alloc (.cells #[.slice h1 h2 h3,.slice ba a.1.length bcap,.slice na a.2.length ncap] 74)).alloc (.cells #[.slice none 0 0,.slice none 0 0,.slice none 0 0,.int .i64 0] 65)).alloc (.cells #[.int .i64 0,.int .i64 0] 60):=⟨_,rfl⟩
 have hE0:Ext w W:=by rw [hW]; exact (Ext.of (by repeat' (first | with_reducible(first|exact Qx _ _|apply Kept.drew|apply Kept.drewN|apply Qz|refine Qy ?_ ?_ _)|exact fun h=>absurd h (by simp <;> omega))))
 have hWs:W.heap.size=w.heap.size+3:=by rw [hW]; simp
 have hb1:NB W (w.heap.size+1) (.slice none 0 0) (.slice none 0 0) (.slice none 0 0) 0:=by rw [hW]; exact Zar (Zdn (by simp) _) _
 have hb2:W.heap[w.heap.size+2]?=some (.cells #[.int .i64 0,.int .i64 0] 60 (0,0)):=by rw [hW]; exact Zdn (by simp) _
 have htm:∀ l ∈ a.1,TmOk l:=fun l hl=>by
  have hlt:l ∈ (topN a).terms:=by
   unfold ND.terms topN
   refine List.mem_append_left _ ?_
   simp
   exact hl
  have hg:=(hN.gs (l,0) (by unfold topN; simp; exact hl)).1
  exact Zng (hN.wf l hlt) (by have h':l.length≤30:=hg; omega) (hN.occ l hlt) (by have:(topN a).vars=a.2.length:=rfl; omega)
 have HT:=Zac (Zqp W (.slice h1 h2 h3) (.slice ba a.1.length bcap) (.slice na a.2.length ncap) a.1 a.2 ⟨_,_,_,rfl⟩ (hb.ext hE0) (Zah hns (fun j hj=>hE0.block j (hns.lt j hj).2)) (by omega) (by omega) htm)
 have HP:=Zac hP
 have Hk:=Zac hk
 have Hcs:=Zac hcs
 have Hk9:=Zac hk9
 have HN:=Zac hN
 have HNn:=Zac hNn
 have HNf:=Zac hNf
 have Hcf:=Zac hcf
 have HE0:=Zac hE0
 have Hb1:=Zac hb1
 have Hb2:=Zac hb2
 clear hP hb hns hk hcs hk9 hN hNn hNf hcf hE0 hb1 hb2 htm
 go_enter Tryz.func37,Tryz.ntmps37
 go_wp2_with fail
 rw [← hW]
 have HW:=Zac hW
 clear hW
 refine HT.out.mono ?_
 rintro e w1 ⟨hE1,g1,gc,v1,vc,rfl,hg,hv⟩
 have hz1:=hE1.size
 have hEw1:Ext w w1:=HE0.out.trans (hE1.mono (by omega))
 have hF:FolAt w w1.heap.size cs a ks 0 (topN a) (topN a) (.slice g1 a.1.length gc) (.slice v1 a.2.length vc) (.slice none 0 0) (w1.alloc (.cells #[.slice g1 a.1.length gc,.slice v1 a.2.length vc,.slice none 0 0,.int .i64 a.2.length] 65)):=by
  have hE2:Ext w1 (w1.alloc (.cells #[.slice g1 a.1.length gc,.slice v1 a.2.length vc,.slice none 0 0,.int .i64 a.2.length] 65)):=(Ext.of (by repeat' (first | with_reducible(first|exact Qx _ _|apply Kept.drew|apply Kept.drewN|apply Qz|refine Qy ?_ ?_ _)|exact fun h=>absurd h (by simp <;> omega))))
  refine ⟨hEw1.trans (hE2.mono (by omega)),(hE2.block _ (by omega)).trans ((hE1.block _ (by omega)).trans Hb1.out),(hE2.block _ (by omega)).trans ((hE1.block _ (by omega)).trans Hb2.out),heap_alloc_new w1 _,⟨?_,hv.ext hE2,?_⟩,HN.out,HNn.out,HNf.out,Same.refl HN.out,by simp⟩
  ·have:(topN a).goals.map (·.1)=a.1:=by unfold topN; rw [List.map_map]; exact (List.map_congr_left (fun _ _=>rfl)).trans (List.map_id _)
   rw [this]; exact hg.ext hE2
  ·exact ⟨[],TermsAt.nil _ _⟩
 have HF:=Zac hF
 have hnb:w.heap.size+3≤w1.heap.size:=by omega
 have Hz:Hid (Ext w w1):=hEw1
 clear hE1 hEw1 hg hv hF HT hz1 hWs
 go_wp2
 go_loopg [17] (ks.length+1) (fun gk iv wr=>∃ (i:Nat) (n m:ND) (gv vv rv:Value),iv = .int .i64 i∧i≤ks.length∧ks.length - i<gk∧FolAt w w1.heap.size cs a ks i n m gv vv rv wr)
 case atStart=>exact ⟨0,topN a,topN a,_,_,_,by go_num,Qm _,by omega,HF.out⟩
 case round =>
  obtain ⟨j,n,m,gv,vv,rv,rfl,hj,hgk,hF⟩:=hrel
  obtain ⟨ga,gcap,rfl⟩:=hF.node.goals.shape
  obtain ⟨va,vcap,rfl⟩:=hF.node.vals.shape
  obtain ⟨ra,rcap,rfl⟩:=hF.node.done.shape
  simp only [Ql] at hF
  try simp only [Ql]
  have hsr:=hF.ext.size
  have n0:wr.cell? ⟨w1.heap.size,0,none⟩=some (.slice ga n.goals.length gcap):=Zaa hF.box 0 _ rfl
  have n1:wr.cell? ⟨w1.heap.size,1,none⟩=some (.slice va n.vals.length vcap):=Zaa hF.box 1 _ rfl
  have n2:wr.cell? ⟨w1.heap.size,2,none⟩=some (.slice ra n.done.length rcap):=Zaa hF.box 2 _ rfl
  have n3:wr.cell? ⟨w1.heap.size,3,none⟩=some (.int .i64 n.vars):=Zaa hF.box 3 _ rfl
  have nf:=fun i=>Zae hF.box i
  have nl:=Zab hF.box
  have r0:=Zaa hF.res 0 _ rfl
  have r1:=Zaa hF.res 1 _ rfl
  have r2:=Zaa hF.res 2 _ rfl
  have r3:=Zaa hF.res 3 _ rfl
  have rf:=fun i=>Zae hF.res i
  have rl:=Zab hF.res
  have f0:=Zaa hF.flt 0 _ rfl
  have f1:=Zaa hF.flt 1 _ rfl
  have ff:=fun i=>Zae hF.flt i
  have fl:=Zab hF.flt
  have HF:=Zac hF
  clear hF
  have Herr:Hid (∀ (p:Nat) (y:World) x0 x1 x2 x3 z0 z1,Ext w y→(Zau cs m (ks.drop j) j).2=(7,p)→Ziw cs a ks w (.returned (.tuple #[.agg #[.slice none 0 0,.slice none 0 0,.slice none 0 0,.int .i64 0],.agg #[.int .i64 7,.int .i64 p]])) ((((((y.setCell ⟨w.heap.size+1,0,none⟩ x0).setCell ⟨w.heap.size+1,1,none⟩ x1).setCell ⟨w.heap.size+1,2,none⟩ x2).setCell ⟨w.heap.size+1,3,none⟩ x3).setCell ⟨w.heap.size+2,0,none⟩ z0).setCell ⟨w.heap.size+2,1,none⟩ z1)):=fun p y x0 x1 x2 x3 z0 z1 hE hf=>by
   refine ⟨(((((hE.setCell (p:=⟨w.heap.size+1,0,none⟩) (by simp) _).setCell (p:=⟨w.heap.size+1,1,none⟩) (by simp) _).setCell (p:=⟨w.heap.size+1,2,none⟩) (by simp) _).setCell (p:=⟨w.heap.size+1,3,none⟩) (by simp) _).setCell (p:=⟨w.heap.size+2,0,none⟩) (by simp) _).setCell (p:=⟨w.heap.size+2,1,none⟩) (by simp) _,Or.inl ?_⟩
   rw [HF.out.fol,hf]
   exact ⟨by simp,rfl⟩
  by_cases hlt:j<ks.length
  ·obtain ⟨k,hk⟩:∃ k,ks[j]?=some k:=⟨_,Qb hlt⟩
   have hdk:ks.drop j=k::ks.drop (j+1):=by rw [List.drop_eq_getElem_cons hlt,(Qa.1 hk).2]
   have hk99:=Hk9.out k (Qh hk)
   obtain ⟨kb,kcap',kcur,hke,hBk,hkb,hkc⟩:=Zao Hk.out (by omega)
   simp only [Value.slice.injEq] at hke
   obtain ⟨rfl,_,rfl⟩:=hke
   have hkbw:=Zab hkb
   have k0:wr.cell? ⟨kb,j,none⟩=some (.int .i64 k):=(HF.out.ext.cell (p:=⟨kb,j,none⟩) hkbw).trans (Zai Hk.out j _ (by simp only [ints,Qj,hk,Option.map_some]))
   have hkbl:kb<wr.heap.size:=by omega
   have Hdk:=Zac hdk
   have hkn:¬ ((k:Int)<0):=by omega
   clear hdk hkb hk
   by_cases hkc2:k<cs.length
   ·have hkc3:¬ ((cs.length:Int)≤(k:Int)):=by omega
    obtain ⟨c,hc⟩:∃ c,cs[k]?=some c:=⟨_,Qb hkc2⟩
    obtain ⟨lb,lcap',lcur,hle,_,hlb,_⟩:=Zao HP.out.owns (by omega)
    simp only [Value.slice.injEq] at hle
    obtain ⟨rfl,_,rfl⟩:=hle
    have hlbw:=Zab hlb
    obtain ⟨cv0,cv1,cv2,e0,e1,e2,hcl2⟩:=HP.out.cell hc
    have l0:=(HF.out.ext.cell (p:=⟨lb,k * 3,none⟩) hlbw).trans e0
    have l1:=(HF.out.ext.cell (p:=⟨lb,k * 3+1,none⟩) hlbw).trans e1
    have l2:=(HF.out.ext.cell (p:=⟨lb,k * 3+2,none⟩) hlbw).trans e2
    obtain ⟨d0,d1,rfl⟩:=Zad hcl2.head
    obtain ⟨d2,d3,rfl⟩:=hcl2.body.shape
    obtain ⟨d4,d5,rfl⟩:=Zad hcl2.names
    have hlbl:lb<wr.heap.size:=by omega
    obtain ⟨hco,hcm⟩:=Hcs.out c (Qh hc)
    have Hcm:=Zac hcm
    have Hcw:Hid (CFew c):=Hcf.out c (Qh hc)
    have HI:Hid (∀ Z u,Ext wr.drew u→(∀ k,Z k→wr.heap.size≤k∧k<u.heap.size)→Calls Tryz.prog 52 #[.agg #[.slice ga n.goals.length gcap,.slice va n.vals.length vcap,.slice ra n.done.length rcap,.int .i64 n.vars],.agg #[.slice d0 c.head.length d1,.slice d2 c.body.length d3,.slice d4 c.names.length d5]] u fun e u'=>∃ r,e = .returned r∧Ext u u'∧TryX n c k Z r u'):=fun Z u hu hZ=>by
     have hwu:Ext wr u:=hu.undrew
     refine (Zqq u _ _ _ _ _ _ n c k HF.out.ok hco (HF.out.node.ext hwu) (hcl2.ext (HF.out.ext.trans (hwu.mono hsr)))).mono ?_
     intro e u' h
     exact h.toX (fun j hj=>(hZ j hj).2)
    have Hc:=Zac hc
    have Hco:=Zac hco
    clear hc hlb e0 e1 e2 hcl2 hco hcm
    go_wp2_with fail
    refine Zga (by kernel_rfl) [.pur (.agg #[.slice ga n.goals.length gcap,.slice va n.vals.length vcap,.slice ra n.done.length rcap,.int .i64 n.vars]),.pur (.slice (some ⟨lb,0,none⟩) cs.length lcap),.pur (.int .i64 k),.pur (.pointer (some ⟨lb,k * 3,none⟩)),.pur (.agg #[.slice d0 c.head.length d1,.slice d2 c.body.length d3,.slice d4 c.names.length d5]),
     .cal,.post (fun v=>v),.post (Zdm 0),.post (Zdm 1),.alo 65 #[.slice none 0 0,.slice none 0 0,.slice none 0 0,.int .i64 0] 10 (fun v=>cellsOf (Zdm 0 v)),.sto 9,.post (Zdm 1)] 5 (by kernel_rfl) (TryX n c k) 52 _ TryX.stable HI.out ?_ rfl (by decide) ?_
    ·refine ⟨fun vc β u hu => ?_,fun vc β u hu => ?_,fun vc β u hu => ?_,fun vc β u hu => ?_,fun vc β u hu => ?_,fun vc β u => ?_,?_,?_,?_,fun vc β u => ?_,?_,?_,trivial⟩
     all_goals try (simp [pa,Kd.val,go_sem,hu.up n0,hu.up n1,hu.up n2,hu.up n3,hu.up l0,hu.up l1,hu.up l2,hkc2]; done)
     all_goals try (simp [pa,Kd.val,go_sem]; done)
     all_goals try (rintro vc β Z u ⟨g1,g2,g3,v1,v2,v3,q1,q2,q3,uu,qq,rfl,_⟩; simp [pa,Kd.val,go_sem,Zdm]; done)
     rintro vc β Z u t z sx cl he ⟨g1,g2,g3,v1,v2,v3,q1,q2,q3,uu,qq,rfl,_⟩ hb
     simp at he
     obtain ⟨rfl,rfl,rfl,rfl⟩:=he
     have z0:=Zaa hb 0 _ rfl
     have z1:=Zaa hb 1 _ rfl
     have z2:=Zaa hb 2 _ rfl
     have z3:=Zaa hb 3 _ rfl
     have zf:=fun i=>Zae hb i
     refine ⟨_,?_,Zaf (Zaf (Zaf (Zaf hb 0 _) 1 _) 2 _) 3 _,((((Qx (only (β 9)) u).put 0 _).put 1 _).put 2 _).put 3 _⟩
     simp [pa,Kd.val,go_sem,z0,z1,z2,z3,zf,Zdm]
    rintro vc β w4 hext4 ⟨g1,g2,g3,v1,v2,v3,q1,q2,q3,uu,qq,rfl,hqq⟩ hbox _
    have hext4:=hext4.undrew
    have hs4:=hext4.size
    obtain ⟨hb0,hbx⟩:=hbox 9 _ _ _ _ rfl
    have hbx':w4.heap[β 9]?=some (.cells #[.slice g1 g2 g3,.slice v1 v2 v3,.slice q1 q2 q3,.int .i64 uu] 65 (0,0)):=hbx
    generalize hbe:β 9=bt at *
    have z0:=Zaa hbx' 0 _ rfl
    have z1:=Zaa hbx' 1 _ rfl
    have z2:=Zaa hbx' 2 _ rfl
    have z3:=Zaa hbx' 3 _ rfl
    have zl:=Zab hbx'
    have hn4:=(hext4.block _ nl).trans HF.out.box
    have hr4:=(hext4.block _ rl).trans HF.out.res
    have hf4:=(hext4.block _ fl).trans HF.out.flt
    have n0:=Zaa hn4 0 _ rfl
    have n1:=Zaa hn4 1 _ rfl
    have n2:=Zaa hn4 2 _ rfl
    have n3:=Zaa hn4 3 _ rfl
    have nf:=fun i=>Zae hn4 i
    have nl4:=Zab hn4
    have r0:=Zaa hr4 0 _ rfl
    have r1:=Zaa hr4 1 _ rfl
    have r2:=Zaa hr4 2 _ rfl
    have r3:=Zaa hr4 3 _ rfl
    have rf:=fun i=>Zae hr4 i
    have rl4:=Zab hr4
    have f0:=Zaa hf4 0 _ rfl
    have f1:=Zaa hf4 1 _ rfl
    have ff:=fun i=>Zae hf4 i
    have fl4:=Zab hf4
    have hEw4:Ext w w4:=HF.out.ext.trans (hext4.mono hsr)
    have Hn4:=Zac hn4
    have Hr4:=Zac hr4
    have Hf4:=Zac hf4
    have HEw4:=Zac hEw4
    have Hqq:=Zac hqq
    clear hbx hbx' hn4 hr4 hf4 hext4 hqq hbox k0 hEw4 HI l0 l1 l2
    simp only [paAll,pa,Kd.val,if_true,Act.put,Zdm]
    rw [hbe]
    by_cases hq1:qq=1
    ·subst hq1
     obtain ⟨ch,q12,h12,hout,huu,hg2,t1,t2,t3⟩:∃ ch qq,(qq=1∨qq=2)∧Out n c k qq ch∧uu=ch.vars∧g2=ch.goals.length∧TermsIn w4 (.slice g1 g2 g3) (ch.goals.map (·.1))∧TermsIn w4 (.slice v1 v2 v3) ch.vals∧TermsIn w4 (.slice q1 q2 q3) (ch.done.map (·.1)):=by
      rcases Hqq.out with ⟨h,_⟩ | ⟨h,_⟩ | ⟨_,ch,q12,h1,h2,h3,h4,⟨a1,h5,_⟩,⟨a2,h6,_⟩,⟨a3,h7,_⟩⟩
      ·omega
      ·omega
      ·exact ⟨ch,q12,h1,h2,h3,h4,⟨a1,h5⟩,⟨a2,h6⟩,⟨a3,h7⟩⟩
     obtain ⟨hq,hch⟩:=Zhi HF.out.ok HF.out.same Hco.out hout
     obtain ⟨hok,hsame⟩:=hch h12
     have hnm:=Ydm hout h12 HF.out.nm Hcm.out
     have hfw:=Zvg hout h12 HF.out.few Hcw.out
     have hmg:m.goals≠[]:=by
      obtain ⟨g,gs,hg,_⟩:=hout
      have:=HF.out.same.gl
      intro e
      rw [hg,e] at this
      simp at this
     have hfo:Zau cs (topN a) ks 0=Zau cs (tryN m c k).1 (ks.drop (j+1)) (j+1):=by
      rw [HF.out.fol,Hdk.out]
      exact Zla Hc.out hmg (by rw [← hq]; exact h12)
     subst huu
     have hK:Kept (fun b=>b=w1.heap.size) w4 ((((w4.setCell ⟨w1.heap.size,0,none⟩ (.slice g1 g2 g3)).setCell ⟨w1.heap.size,1,none⟩ (.slice v1 v2 v3)).setCell ⟨w1.heap.size,2,none⟩ (.slice q1 q2 q3)).setCell ⟨w1.heap.size,3,none⟩ (.int .i64 ch.vars)):=((((Qx (only w1.heap.size) w4).put 0 _).put 1 _).put 2 _).put 3 _
     have hF2:FolAt w w1.heap.size cs a ks (j+1) ch (tryN m c k).1 (.slice g1 g2 g3) (.slice v1 v2 v3) (.slice q1 q2 q3) ((((w4.setCell ⟨w1.heap.size,0,none⟩ (.slice g1 g2 g3)).setCell ⟨w1.heap.size,1,none⟩ (.slice v1 v2 v3)).setCell ⟨w1.heap.size,2,none⟩ (.slice q1 q2 q3)).setCell ⟨w1.heap.size,3,none⟩ (.int .i64 ch.vars)) :=
      ⟨HEw4.out.trans (hK.below HEw4.out.size (fun j hj=>by omega)),(hK.block _ rl4 (by omega)).trans Hr4.out,(hK.block _ fl4 (by omega)).trans Hf4.out,Zaf (Zaf (Zaf (Zaf Hn4.out 0 _) 1 _) 2 _) 3 _,⟨t1.box Hn4.out (by decide) (by decide) hK,t2.box Hn4.out (by decide) (by decide) hK,t3.box Hn4.out (by decide) (by decide) hK⟩,hok,hnm,hfw,hsame,hfo⟩
     have HF2:=Zac hF2
     clear hF2 hK hfo hmg hok hnm hfw hsame hch hq hout t1 t2 t3 hg2 h12
     go_wp2
     go_roundg (ks.length - j)
     case measure=>omega
     case rel=>exact ⟨j+1,ch,_,_,_,_,by go_num,by omega,by omega,HF2.out⟩
    ·have hb1:((qq:Int) != 1)=true:=by rw [bne_iff_ne]; omega
     have Hf:Hid ((Zau cs m (ks.drop j) j).2=(7,j)):=by
      show _=_
      rw [Hdk.out]
      rcases Hqq.out with ⟨_,h⟩ | ⟨_,ch,h⟩ | ⟨h,_⟩
      ·rcases h with h | h
       ·refine Zem (Or.inl ?_)
        have:=HF.out.same.gl
        rw [h] at this
        exact List.eq_nil_of_length_eq_zero (by simpa using this.symm)
       ·refine Zhn Hc.out ?_
        have:=(Zhi HF.out.ok HF.out.same Hco.out h).1
        omega
      ·refine Zhn Hc.out ?_
       have:=(Zhi HF.out.ok HF.out.same Hco.out h).1
       omega
      ·exact absurd h hq1
     clear hq1
     go_wp2
     refine bodyPost_ret (v := .tuple #[.agg #[.slice none 0 0,.slice none 0 0,.slice none 0 0,.int .i64 0],.agg #[.int .i64 7,.int .i64 j]]) (by simp [results,Tryz.results37,go_sem,r0,r1,r2,r3,rf,rl4,f0,f1,ff,fl4]) rfl ?_
     exact Herr.out j w4 _ _ _ _ _ _ HEw4.out Hf.out
   ·have hkc3:(cs.length:Int)≤(k:Int):=by omega
    have Hf:Hid ((Zau cs m (ks.drop j) j).2=(7,j)):=by show _=_; rw [Hdk.out]; exact Zem (Or.inr (by omega))
    go_wp2
    refine bodyPost_ret (v := .tuple #[.agg #[.slice none 0 0,.slice none 0 0,.slice none 0 0,.int .i64 0],.agg #[.int .i64 7,.int .i64 j]]) (by simp [results,Tryz.results37,go_sem,r0,r1,r2,r3,rf,rl,f0,f1,ff,fl]) rfl ?_
    exact Herr.out j wr _ _ _ _ _ _ HF.out.ext Hf.out
  ·have hej:j=ks.length:=by omega
   subst hej
   have hdr:ks.drop ks.length=[]:=List.drop_eq_nil_of_le (Qe _)
   have hgl:=HF.out.same.gl
   by_cases hg0:n.goals=[]
   ·have hm0:m.goals=[]:=by rw [hg0] at hgl; exact List.eq_nil_of_length_eq_zero (by simpa using hgl.symm)
    have hfo:Zau cs (topN a) ks 0=(m,0,0):=by
     rw [HF.out.fol,hdr]
     unfold Zau
     rw [if_pos hm0]
    have hz:¬ (0:Int)<((n.goals.length:Nat):Int):=by rw [hg0]; simp
    have hE:∀ x0 x1 x2 x3 z0 z1,Ext w ((((((wr.setCell ⟨w.heap.size+1,0,none⟩ x0).setCell ⟨w.heap.size+1,1,none⟩ x1).setCell ⟨w.heap.size+1,2,none⟩ x2).setCell ⟨w.heap.size+1,3,none⟩ x3).setCell ⟨w.heap.size+2,0,none⟩ z0).setCell ⟨w.heap.size+2,1,none⟩ z1):=fun x0 x1 x2 x3 z0 z1 =>
     (((((HF.out.ext.setCell (p:=⟨w.heap.size+1,0,none⟩) (by simp) _).setCell (p:=⟨w.heap.size+1,1,none⟩) (by simp) _).setCell (p:=⟨w.heap.size+1,2,none⟩) (by simp) _).setCell (p:=⟨w.heap.size+1,3,none⟩) (by simp) _).setCell (p:=⟨w.heap.size+2,0,none⟩) (by simp) _).setCell (p:=⟨w.heap.size+2,1,none⟩) (by simp) _
    have hK1:∀ x0 x1 x2 x3,Kept (fun b=>b=w.heap.size+1) wr ((((wr.setCell ⟨w.heap.size+1,0,none⟩ x0).setCell ⟨w.heap.size+1,1,none⟩ x1).setCell ⟨w.heap.size+1,2,none⟩ x2).setCell ⟨w.heap.size+1,3,none⟩ x3):=fun x0 x1 x2 x3=>((((Qx (only (w.heap.size+1)) wr).put 0 _).put 1 _).put 2 _).put 3 _
    have hK2:∀ (y:World) z0 z1,Kept (fun b=>b=w.heap.size+2) y ((y.setCell ⟨w.heap.size+2,0,none⟩ z0).setCell ⟨w.heap.size+2,1,none⟩ z1):=fun y z0 z1=>((Qx (only (w.heap.size+2)) y).put 0 _).put 1 _
    have hT:∀ x0 x1 x2 x3 z0 z1 {v:Value} {ls:List (List Sym)},TermsIn wr v ls→TermsIn ((((((wr.setCell ⟨w.heap.size+1,0,none⟩ x0).setCell ⟨w.heap.size+1,1,none⟩ x1).setCell ⟨w.heap.size+1,2,none⟩ x2).setCell ⟨w.heap.size+1,3,none⟩ x3).setCell ⟨w.heap.size+2,0,none⟩ z0).setCell ⟨w.heap.size+2,1,none⟩ z1) v ls:=fun x0 x1 x2 x3 z0 z1 {v ls} h =>
     (h.box HF.out.res (by decide) (by decide) (hK1 x0 x1 x2 x3)).box (((hK1 x0 x1 x2 x3).block _ fl (by simp)).trans HF.out.flt) (by decide) (by decide) (hK2 _ z0 z1)
    have hout:∀ x0 x1 x2 x3 z0 z1,Ziw cs a ks w (.returned (.tuple #[.agg #[.slice ga n.goals.length gcap,.slice va n.vals.length vcap,.slice ra n.done.length rcap,.int .i64 n.vars],.agg #[.int .i64 0,.int .i64 0]])) ((((((wr.setCell ⟨w.heap.size+1,0,none⟩ x0).setCell ⟨w.heap.size+1,1,none⟩ x1).setCell ⟨w.heap.size+1,2,none⟩ x2).setCell ⟨w.heap.size+1,3,none⟩ x3).setCell ⟨w.heap.size+2,0,none⟩ z0).setCell ⟨w.heap.size+2,1,none⟩ z1):=fun x0 x1 x2 x3 z0 z1=>by
     refine ⟨hE _ _ _ _ _ _,Or.inr ?_⟩
     rw [hfo]
     exact ⟨rfl,ga,n.goals.length,gcap,va,n.vals.length,vcap,ra,n.done.length,rcap,n.vars,n,rfl,⟨hT _ _ _ _ _ _ HF.out.node.goals,hT _ _ _ _ _ _ HF.out.node.vals,hT _ _ _ _ _ _ HF.out.node.done⟩,HF.out.ok,HF.out.nm,HF.out.few,HF.out.same⟩
    have Hout:=Zac hout
    clear hout hT hE hK1 hK2 hfo hm0 hg0 hgl hdr
    go_wp2
    refine bodyPost_ret (v := .tuple #[.agg #[.slice ga n.goals.length gcap,.slice va n.vals.length vcap,.slice ra n.done.length rcap,.int .i64 n.vars],.agg #[.int .i64 0,.int .i64 0]]) (by simp [results,Tryz.results37,go_sem,r0,r1,r2,r3,rf,rl,f0,f1,ff,fl]) rfl ?_
    exact Hout.out _ _ _ _ _ _
   ·have hm0:m.goals≠[]:=fun e=>by rw [e] at hgl; exact hg0 (List.eq_nil_of_length_eq_zero (by simpa using hgl))
    have Hf:Hid ((Zau cs m (ks.drop ks.length) ks.length).2=(7,ks.length)):=by
     show _=_
     rw [hdr]
     unfold Zau
     rw [if_neg hm0]
    have hz:(0:Int)<((n.goals.length:Nat):Int):=by
     have:0<n.goals.length:=List.length_pos_iff.2 hg0
     omega
    clear hm0 hg0 hgl hdr
    go_wp2
    refine bodyPost_ret (v := .tuple #[.agg #[.slice none 0 0,.slice none 0 0,.slice none 0 0,.int .i64 0],.agg #[.int .i64 7,.int .i64 ks.length]]) (by simp [results,Tryz.results37,go_sem,r0,r1,r2,r3,rf,rl,f0,f1,ff,fl]) rfl ?_
    exact Herr.out ks.length wr _ _ _ _ _ _ HF.out.ext Hf.out
end Go.Proofs.YtlmjilpjmgjjcabGreatDoor
