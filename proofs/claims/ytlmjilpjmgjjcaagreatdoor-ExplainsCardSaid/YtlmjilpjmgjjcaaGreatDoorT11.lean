/-
  PROVED HERE: plain facts on rows of goals in memory that are appended to each other (the conditions stand in each statement).
-/
import Derived.Test.YtlmjilpjmgjjcaaGreatDoorT10
namespace Go.Proofs.YtlmjilpjmgjjcaaGreatDoor
open Go.RowKit
set_option linter.unusedSimpArgs false
set_option linter.unusedVariables false
set_option maxRecDepth 10000 in
set_option maxHeartbeats 1000000 in
theorem Zsl (s:ByteArray) (w:World) (hl:s.size≤800) :
  Calls Tryz.prog 72 #[.string s] w fun e w'=>Below w.heap.size w w'∧(((runs s false).1≠0∧e = .returned (.tuple #[.slice none 0 0,.agg #[.int .i64 (runs s false).1,.int .i64 (runs s false).2.1]])) ∨
   ((runs s false).1=0∧∃ v B Sa Sb xs,e = .returned (.tuple #[v,.agg #[.int .i64 0,.int .i64 0]])∧CCRow w' B Sa Sb v (runs s false).2.2.clauses xs∧w.heap.size≤B)):=by
 obtain ⟨R,hR⟩:∃ R,R=runs s false:=⟨_,rfl⟩
 have hA:=Zjk ((w.alloc (.cells #[.int .i64 0,.int .i64 0] 91)).alloc (.cells (Zdg (st0 false) nilV) 169)) _ _ (st0 false) s (st0_is (w.alloc (.cells #[.int .i64 0,.int .i64 0] 91)) false) (Ztq false) (by omega)
 rw [show runT s.size (toks s.data.toList 0) (st0 false)=R from hR.symm] at hA
 rw [show (w.alloc (.cells #[.int .i64 0,.int .i64 0] 91)).heap.size=w.heap.size+1 from by simp] at hA
 have HA:=Zaa hA
 rw [← hR]
 clear hR hA
 go_enter Tryz.func72,Tryz.ntmps72
 go_wp2_with fail
 refine HA.out.mono ?_
 rintro e w2 ⟨rfl,hr,hb⟩
 have hF:FaultAt w2 w.heap.size 0 0:=(hb.block w.heap.size (by omega)).trans (Zag (heap_alloc_new w _) _)
 have hB:Below w.heap.size w w2:=((Below.refl _ w).alloc (Nat.le_refl _) _).trans ((((Below.refl _ _).alloc (by simp) _)).trans (hb.mono (by omega)))
 obtain ⟨V,Sa,Sb,vs,xs,h⟩:=hr
 have hrb:=Zac h.blk
 obtain ⟨c0,c1,c2,c3,c4,c5,c6,c7,c8⟩:=h.opens.facts
 have cf:=fun i=>Zae h.blk i
 obtain ⟨ca,ccap,hvc⟩:=Zad h.rest.cls.1
 rw [hvc] at c8
 obtain ⟨hT4,f0,f1,ff⟩:=hF.cells
 have HF:=Zaa hF
 have HB:=Zaa hB
 have HC:=Zaa h.rest.cls
 have Hvc:=Zaa hvc
 clear hF hB h hvc hb c0 c1 c2 c3 c4 c5 c6 c7
 by_cases hc:R.1=0
 ·have b0:((R.1:Int) != 0)=false:=by rw [hc]; rfl
  have Hc:=Zaa hc
  clear hc
  go_wp2
  refine bodyPost_ret (v := .tuple #[.slice ca R.2.2.clauses.length ccap,.agg #[.int .i64 0,.int .i64 0]]) (by simp [results,Tryz.results72,go_sem,f0,f1,ff,hT4]) rfl ?_
  refine ⟨?_,Or.inr ⟨Hc.out,_,w.heap.size+1,Sa,Sb,xs,rfl,?_,by omega⟩⟩
  ·exact ((HB.out.setCell (p:=⟨w.heap.size,0,none⟩) (Nat.le_refl _) _).setCell (p:=⟨w.heap.size,1,none⟩) (Nat.le_refl _) _).alloc (by simp; omega) _
  ·rw [← Hvc.out]
   exact Zvl HC.out ((((Kept.refl (only w.heap.size) w2).put 0 _).put 1 _).alloc _) (fun k cur T fr hk hb=>by
    have hk:k=w.heap.size:=hk
    rw [hk,HF.out] at hb
    simp only [Option.some.injEq,Obj.cells.injEq] at hb
    rw [← hb.2.1]
    decide)
 ·have b0:((R.1:Int) != 0)=true:=by rw [bne_iff_ne]; omega
  have Hc:=Zaa hc
  clear hc
  go_wp2_with fail
  go_region
  all_goals
   go_wp2
   refine bodyPost_ret (v := .tuple #[.slice none 0 0,.agg #[.int .i64 R.1,.int .i64 R.2.1]]) (by simp [results,Tryz.results72,go_sem,f0,f1,ff,hT4]) rfl ?_
   refine ⟨?_,Or.inl ⟨Hc.out,rfl⟩⟩
   exact (((HB.out.setCell (p:=⟨w.heap.size,0,none⟩) (Nat.le_refl _) _).setCell (p:=⟨w.heap.size,1,none⟩) (Nat.le_refl _) _).alloc (by simp; omega) _).drew
def CProgOut (p:ByteArray) (w:World) (e:Ending) (w':World):Prop:=Ext w w'∧((Zds p=none∧∃ er pl:Nat,er≠0∧e = .returned (.tuple #[.slice none 0 0,.agg #[.int .i64 er,.int .i64 pl]])) ∨
 (∃ cs a c xs,Zds p=some cs∧e = .returned (.tuple #[.slice a cs.length c,.agg #[.int .i64 0,.int .i64 0]])∧ProgIn w' (.slice a cs.length c) cs xs∧∀ j,(Value.slice a cs.length c).ownBlock=some j→w.heap.size≤j))
theorem cprog_any (p:ByteArray) (w:World) (hp:p.size≤maxLen):Calls Tryz.prog 72 #[.string p] w (CProgOut p w):=by
 by_cases hb:800<p.size
 ·refine (Zpx p w hp hb).mono ?_
  rintro e w' ⟨rfl,hE⟩
  exact ⟨hE,Or.inl ⟨by unfold Zds; rw [if_pos hb],1,0,by omega,rfl⟩⟩
 ·refine (Zsl p w (by omega)).mono ?_
  rintro e w' ⟨hE,⟨hne,rfl⟩ | ⟨h0,v,B,Sa,Sb,xs,rfl,hrow,hB⟩⟩
  ·obtain ⟨r1,_,_⟩:=Zdp p false
   refine ⟨hE,Or.inl ⟨?_,_,_,hne,rfl⟩⟩
   unfold Zds
   rw [if_neg hb,if_pos (by rw [← r1]; exact hne)]
  ·obtain ⟨r1,_,_⟩:=Zdp p false
   obtain ⟨cs,h1,h2⟩:=Zmt p (by omega) h0
   have hpo:Zds p=some cs:=by
    unfold Zds
    rw [if_neg hb,if_neg (by rw [← r1]; simp [h0]),h1]
   rw [h2] at hrow
   obtain ⟨a,c,rfl⟩:=Zad hrow.1
   exact ⟨hE,Or.inr ⟨cs,a,c,xs,hpo,rfl,hrow.prog,fun j hj=>Nat.le_trans hB (hrow.1.lt j hj).1⟩⟩
def CAskOut (q:ByteArray) (w:World) (e:Ending) (w':World):Prop:=Ext w w'∧((Zgc q=none∧∃ er pl:Nat,er≠0∧e = .returned (.tuple #[.agg #[.slice none 0 0,.slice none 0 0,.slice none 0 0],.agg #[.int .i64 er,.int .i64 pl]])) ∨
 (∃ a h1 h2 h3 b1 bc n1 nc,Zgc q=some a∧e = .returned (.tuple #[.agg #[.slice h1 h2 h3,.slice b1 a.1.length bc,.slice n1 a.2.length nc],.agg #[.int .i64 0,.int .i64 0]])∧TermsIn w' (.slice b1 a.1.length bc) a.1∧w'.ownsRow 0 9 1 (.slice n1 a.2.length nc) a.2.length (strs a.2)))
theorem cask_any (q:ByteArray) (w:World) (hq:q.size≤maxLen):Calls Tryz.prog 73 #[.string q] w (CAskOut q w):=by
 by_cases hb:120<q.size
 ·refine (Ztr q w hq hb).mono ?_
  rintro e w' ⟨rfl,hE⟩
  exact ⟨hE,Or.inl ⟨by unfold Zgc; rw [if_pos hb],1,0,by omega,rfl⟩⟩
 ·refine (Zxi q w (by omega) (fun h0 => ?_)).mono ?_
  ·obtain ⟨x,e1,e2,_⟩:=Zir q (by omega) h0
   exact ⟨_,_,e2⟩
  rintro e w' ⟨hE,⟨hne,rfl⟩ | ⟨h0,hv,bv,vv,B,Sa,vs,c,cs,rfl,hcs,⟨h1,h2,h3,rfl⟩,hn,hbd⟩⟩
  ·obtain ⟨r1,_,_⟩:=Zdp q true
   refine ⟨hE,Or.inl ⟨?_,_,_,hne,rfl⟩⟩
   unfold Zgc
   rw [if_neg hb,if_pos (by rw [← r1]; exact hne)]
  ·obtain ⟨r1,_,_⟩:=Zdp q true
   obtain ⟨x,e1,e2,_⟩:=Zir q (by omega) h0
   have hao:Zgc q=some (x.1,x.2.2):=by
    unfold Zgc
    rw [if_neg hb,if_neg (by rw [← r1]; simp [h0]),e1]
    rfl
   rw [e2] at hcs
   simp only [List.cons.injEq] at hcs
   obtain ⟨rfl,_⟩:=hcs
   obtain ⟨n1,nc,rfl⟩:=Zad hn
   obtain ⟨b1,bc,rfl⟩:=Zad hbd.1
   exact ⟨hE,Or.inr ⟨(x.1,x.2.2),h1,h2,h3,b1,bc,n1,nc,hao,rfl,hbd.terms,Zbe hn (Nat.zero_le _)⟩⟩
def CBothOut (p q:ByteArray) (w:World) (e:Ending) (w':World):Prop:=Ext w w'∧((Zds p=none∧e = .returned (.tuple #[.slice none 0 0,.agg #[.slice none 0 0,.slice none 0 0,.slice none 0 0],.int .i64 4])) ∨
 ((∃ cs,Zds p=some cs)∧Zgc q=none∧e = .returned (.tuple #[.slice none 0 0,.agg #[.slice none 0 0,.slice none 0 0,.slice none 0 0],.int .i64 5])) ∨
 (∃ cs a l1 lc xs h1 h2 h3 b1 bc n1 nc,Zds p=some cs∧Zgc q=some a∧e = .returned (.tuple #[.slice l1 cs.length lc,.agg #[.slice h1 h2 h3,.slice b1 a.1.length bc,.slice n1 a.2.length nc],.int .i64 0])∧ProgIn w' (.slice l1 cs.length lc) cs xs∧TermsIn w' (.slice b1 a.1.length bc) a.1∧w'.ownsRow 0 9 1 (.slice n1 a.2.length nc) a.2.length (strs a.2)))
theorem ProgIn.box {w w':World} {M:Nat} {cs0:Array Value} {t:TypeId} {fr:Nat × Nat} {v:Value} {cs:List Cls} {xs:List (List Value)} (h:ProgIn w v cs xs) (hM:w.heap[M]?=some (.cells cs0 t fr)) (h1:107≠t∨∀ j,v.ownBlock=some j→j≠M) (h2:105≠t) (h3:133≠t) (h4:9≠t) (hk:Kept (fun k=>k=M) w w'):ProgIn w' v cs xs :=
 ⟨hk.owns h.owns (fun j hj hS=>by
  rcases h1 with h1 | h1
  ·have hS:j=M:=hS
   rw [hS] at hj
   exact Zah h.owns h1 hM hj
  ·exact h1 j hj hS),h.len,h.three,fun i c hc=>by
  obtain ⟨hv,bv,vv,e1,e2⟩:=h.all i c hc
  exact ⟨hv,bv,vv,e1,Zce e2.head hM h3 hk,e2.body.box hM h2 h3 hk,Zce e2.names hM h4 hk⟩⟩
set_option maxRecDepth 10000 in
set_option maxHeartbeats 2000000 in
theorem both_code (p q:ByteArray) (w:World) (hp:p.size≤maxLen) (hq:q.size≤maxLen):Calls Tryz.prog 50 #[.string p,.string q] w (CBothOut p q w):=by
 have HP:=Zaa (fun u=>cprog_any p u hp)
 have HQ:=Zaa (fun u=>cask_any q u hq)
 clear hp hq
 go_enter Tryz.func50,Tryz.ntmps50
 go_wp2_with fail
 refine (HP.out _).mono ?_
 rintro e w1 ⟨hE1,hc⟩
 have hs1:=hE1.size
 simp at hs1
 have hb1:w1.heap[w.heap.size]?=some (.cells #[.slice none 0 0,.slice none 0 0,.slice none 0 0] 107 (0,0)):=(hE1.block _ (by simp)).trans (heap_alloc_new w _)
 obtain ⟨b0,b1,b2,bf⟩:w1.cell? ⟨w.heap.size,0,none⟩=some (.slice none 0 0)∧w1.cell? ⟨w.heap.size,1,none⟩=some (.slice none 0 0)∧w1.cell? ⟨w.heap.size,2,none⟩=some (.slice none 0 0)∧∀ i,w1.frozen? ⟨w.heap.size,i,none⟩=false:=⟨Zab hb1 0 _ rfl,Zab hb1 1 _ rfl,Zab hb1 2 _ rfl,fun i=>Zae hb1 i⟩
 have hm1:w.heap.size<w1.heap.size:=by omega
 have HEw1:Hid (Ext w w1):=((Ext.of (by repeat' (first | with_reducible exact Kept.refl _ _ | with_reducible apply Kept.drew | with_reducible apply Kept.drewN | with_reducible apply Kept.alloc | with_reducible refine Kept.setCell ?_ ?_ _ | exact fun h=>absurd h (by simp <;> omega)))):Ext w (w.alloc _)).trans (hE1.mono (by simp))
 have Hb1:=Zaa hb1
 rcases hc with ⟨hno,er,pl,her,rfl⟩ | ⟨cs,la,lcap,xs,hsome,rfl,hrow,hnew⟩
 ·have hb:((er:Int) != 0)=true:=by rw [bne_iff_ne]; omega
  have Hno:=Zaa hno
  clear hno hE1 hb1
  go_wp2
  refine bodyPost_ret (v := .tuple #[.slice none 0 0,.agg #[.slice none 0 0,.slice none 0 0,.slice none 0 0],.int .i64 4]) (by simp [results,Tryz.results50,go_sem,b0,b1,b2,bf,hm1]) rfl ?_
  refine ⟨HEw1.out.trans (Kept.below (S:=fun i=>w.heap.size≤i) (by repeat' (first | with_reducible exact Kept.refl _ _ | with_reducible apply Kept.drew | with_reducible apply Kept.drewN | with_reducible apply Kept.alloc | with_reducible refine Kept.setCell ?_ ?_ _ | (intro _; simp only; omega))) (by omega) (fun i e=>e)),Or.inl ⟨Hno.out,rfl⟩⟩
 ·have Hrow:=Zaa hrow
  have Hsome:=Zaa hsome
  have Hnew:Hid (∀ j,(Value.slice la cs.length lcap).ownBlock=some j→j≠w.heap.size):=fun j hj=>by
   have:=hnew j hj
   simp at this
   omega
  clear hrow hsome hE1 hb1 hnew
  go_wp2_with fail
  refine (HQ.out _).mono ?_
  rintro e w2 ⟨hE2,hc⟩
  have hs2:=hE2.size
  simp at hs2
  have hE12:Ext w1 w2:=(Below.refl _ w1 |>.alloc (Nat.le_refl _) _).trans (hE2.mono (by simp))
  have hb2:=(hE12.block _ hm1).trans Hb1.out
  obtain ⟨b0,b1,b2,bf⟩:w2.cell? ⟨w.heap.size,0,none⟩=some (.slice none 0 0)∧w2.cell? ⟨w.heap.size,1,none⟩=some (.slice none 0 0)∧w2.cell? ⟨w.heap.size,2,none⟩=some (.slice none 0 0)∧∀ i,w2.frozen? ⟨w.heap.size,i,none⟩=false:=⟨Zab hb2 0 _ rfl,Zab hb2 1 _ rfl,Zab hb2 2 _ rfl,fun i=>Zae hb2 i⟩
  have hm2:w.heap.size<w2.heap.size:=by omega
  have HEw2:Hid (Ext w w2):=HEw1.out.trans (hE12.mono (by omega))
  have Hb2:=Zaa hb2
  have HE2:=Zaa hE12
  clear hE12
  rcases hc with ⟨hno,er,pl,her,rfl⟩ | ⟨a,h1,h2,h3,c1,cc,n1,nc,hask,rfl,hA,hN⟩
  ·have hb:((er:Int) != 0)=true:=by rw [bne_iff_ne]; omega
   have Hno:=Zaa hno
   clear hno hE2 hb2
   go_wp2
   refine bodyPost_ret (v := .tuple #[.slice none 0 0,.agg #[.slice none 0 0,.slice none 0 0,.slice none 0 0],.int .i64 5]) (by simp [results,Tryz.results50,go_sem,b0,b1,b2,bf,hm2]) rfl ?_
   refine ⟨HEw2.out.trans (Kept.below (S:=fun i=>w.heap.size≤i) (by repeat' (first | with_reducible exact Kept.refl _ _ | with_reducible apply Kept.drew | with_reducible apply Kept.drewN | with_reducible apply Kept.alloc | with_reducible refine Kept.setCell ?_ ?_ _ | (intro _; simp only; omega))) (by omega) (fun i e=>e)),Or.inr (Or.inl ⟨⟨cs,Hsome.out⟩,Hno.out,rfl⟩)⟩
  ·have HA:=Zaa hA
   have HN:=Zaa hN
   have Hask:=Zaa hask
   clear hA hN hask hE2 hb2
   go_wp2_with fail
   go_region
   all_goals
    go_wp2
    refine bodyPost_ret (v := .tuple #[.slice la cs.length lcap,.agg #[.slice h1 h2 h3,.slice c1 a.1.length cc,.slice n1 a.2.length nc],.int .i64 0]) (by simp [results,Tryz.results50,go_sem,b0,b1,b2,bf,hm2]) rfl ?_
    refine ⟨HEw2.out.trans (Kept.below (S:=fun i=>w.heap.size≤i) (by repeat' (first | with_reducible exact Kept.refl _ _ | with_reducible apply Kept.drew | with_reducible apply Kept.drewN | with_reducible apply Kept.alloc | with_reducible refine Kept.setCell ?_ ?_ _ | (intro _; simp only; omega))) (by omega) (fun i e=>e)),Or.inr (Or.inr ⟨cs,a,la,lcap,xs,h1,h2,h3,c1,cc,n1,nc,Hsome.out,Hask.out,rfl,?_,?_,?_⟩)⟩
    ·exact ((Hrow.out.ext HE2.out).box Hb2.out (Or.inr Hnew.out) (by decide) (by decide) (by decide) ((((Kept.refl (only w.heap.size) w2).put 0 _).put 1 _).put 2 _)).ext (Ext.of (by repeat' (first | with_reducible exact Kept.refl _ _ | with_reducible apply Kept.drew | with_reducible apply Kept.drewN | with_reducible apply Kept.alloc | with_reducible refine Kept.setCell ?_ ?_ _ | exact fun h=>absurd h (by simp <;> omega))))
    ·exact (HA.out.box Hb2.out (by decide) (by decide) ((((Kept.refl (only w.heap.size) w2).put 0 _).put 1 _).put 2 _)).ext (Ext.of (by repeat' (first | with_reducible exact Kept.refl _ _ | with_reducible apply Kept.drew | with_reducible apply Kept.drewN | with_reducible apply Kept.alloc | with_reducible refine Kept.setCell ?_ ?_ _ | exact fun h=>absurd h (by simp <;> omega))))
    ·exact Zan (Zce HN.out Hb2.out (by decide) ((((Kept.refl (only w.heap.size) w2).put 0 (.slice h1 h2 h3)).put 1 (.slice c1 a.1.length cc)).put 2 (.slice n1 a.2.length nc))) (fun j hj=>((Ext.of (by repeat' (first | with_reducible exact Kept.refl _ _ | with_reducible apply Kept.drew | with_reducible apply Kept.drewN | with_reducible apply Kept.alloc | with_reducible refine Kept.setCell ?_ ?_ _ | exact fun h=>absurd h (by simp <;> omega)))):Ext _ _).block j (by simp; have:=(HN.out.lt j hj).2; omega))
structure WBg (w:World) (gv vv rv:Value) (u uu:Nat) (hv bv nv:Value) (gl:List (List Sym)) (g:Value) (xs:List Value) (wr:World):Prop where
 ext:Ext w wr
 nb:NB wr w.heap.size gv vv rv u
 cb:wr.heap[w.heap.size+1]?=some (.cells #[hv,bv,nv] 107 (0,0))
 res:NB wr (w.heap.size+2) (.slice none 0 0) (.slice none 0 0) (.slice none 0 0) 0
 box:NB wr (w.heap.size+3) g vv (.slice none 0 0) uu
 row:TermsAt wr w.heap.size g gl xs
theorem WBg.on {w wr w1:World} {gv vv rv hv bv nv g:Value} {u uu:Nat} {gl:List (List Sym)} {xs:List Value} (h:WBg w gv vv rv u uu hv bv nv gl g xs wr) (e:Ext wr w1):WBg w gv vv rv u uu hv bv nv gl g xs w1:=by
 obtain ⟨h1,h2,h3,h4,h5,h6⟩:=h
 exact ⟨h1.trans (e.mono h1.size),(e.block _ (Zac h2)).trans h2,(e.block _ (Zac h3)).trans h3,(e.block _ (Zac h4)).trans h4,(e.block _ (Zac h5)).trans h5,h6.ext e⟩
theorem WBg.app {w w1 w2:World} {gv vv rv hv bv nv g g2 x:Value} {u uu n:Nat} {gl:List (List Sym)} {l:List Sym} {xs:List Value} (h:WBg w gv vv rv u uu hv bv nv gl g xs w1) (hn:gl.length=n) (hx:WordAt w1 x l) (hap:Appended w1 w.heap.size 105 1 g (n+1) (xs++[x]) g2 w2) :
  WBg w gv vv rv u uu hv bv nv (gl++[l]) g2 (xs++[x]) (w2.setCell ⟨w.heap.size+3,0,none⟩ g2):=by
 obtain ⟨h1,h2,h3,h4,h5,h6⟩:=h
 have b2:=(hap.kept.block _ (Zac h2) (Zah h6.owns (by decide) h2)).trans h2
 have b3:=(hap.kept.block _ (Zac h3) (Zah h6.owns (by decide) h3)).trans h3
 have b4:=(hap.kept.block _ (Zac h4) (Zah h6.owns (by decide) h4)).trans h4
 have b5:=(hap.kept.block _ (Zac h5) (Zah h6.owns (by decide) h5)).trans h5
 have hK:Kept (fun j=>j=w.heap.size+3) w2 (w2.setCell ⟨w.heap.size+3,0,none⟩ g2):=(Kept.refl (only (w.heap.size+3)) w2).put 0 _
 exact ⟨(h1.trans (hap.kept.below h1.size (fun j hj=>(h6.owns.lt j hj).1))).setCell (p:=⟨w.heap.size+3,0,none⟩) (by simp) _,(hK.block _ (Zac b2) (by simp)).trans b2,(hK.block _ (Zac b3) (by simp)).trans b3,(hK.block _ (Zac b4) (by simp)).trans b4,Zai b5 0 _,
  (h6.snoc (by rw [hn]; exact hap) hx).box b5 (by decide) (by decide) hK⟩
structure WBr (w:World) (B:Nat) (gv vv rv:Value) (u uu:Nat) (hv bv nv:Value) (gl:List (List Sym)) (g:Value) (rl:List (List Sym)) (r:Value) (ys:List Value) (wr:World):Prop where
 ext:Ext w wr
 nb:NB wr w.heap.size gv vv rv u
 cb:wr.heap[w.heap.size+1]?=some (.cells #[hv,bv,nv] 107 (0,0))
 res:NB wr (w.heap.size+2) (.slice none 0 0) (.slice none 0 0) (.slice none 0 0) 0
 box:NB wr (w.heap.size+3) g vv r uu
 goals:TermsIn wr g gl
 low:∀ j,g.ownBlock=some j→j<B
 b1:w.heap.size≤B
 b2:B≤wr.heap.size
 row:TermsAt wr B r rl ys
theorem WBr.on {w wr w1:World} {B:Nat} {gv vv rv hv bv nv g r:Value} {u uu:Nat} {gl rl:List (List Sym)} {ys:List Value} (h:WBr w B gv vv rv u uu hv bv nv gl g rl r ys wr) (e:Ext wr w1):WBr w B gv vv rv u uu hv bv nv gl g rl r ys w1:=by
 obtain ⟨h1,h2,h3,h4,h5,h6,h7,h8,h9,h10⟩:=h
 exact ⟨h1.trans (e.mono h1.size),(e.block _ (Zac h2)).trans h2,(e.block _ (Zac h3)).trans h3,(e.block _ (Zac h4)).trans h4,(e.block _ (Zac h5)).trans h5,h6.ext e,h7,h8,Nat.le_trans h9 e.size,h10.ext e⟩
theorem WBr.app {w w1 w2:World} {B n:Nat} {gv vv rv hv bv nv g r r2 x:Value} {u uu:Nat} {gl rl:List (List Sym)} {l:List Sym} {ys:List Value} (h:WBr w B gv vv rv u uu hv bv nv gl g rl r ys w1) (hn:rl.length=n) (hx:WordAt w1 x l) (hap:Appended w1 B 105 1 r (n+1) (ys++[x]) r2 w2) :
  WBr w B gv vv rv u uu hv bv nv gl g (rl++[l]) r2 (ys++[x]) (w2.setCell ⟨w.heap.size+3,2,none⟩ r2):=by
 obtain ⟨h1,h2,h3,h4,h5,h6,h7,h8,h9,h10⟩:=h
 have b2:=(hap.kept.block _ (Zac h2) (Zah h10.owns (by decide) h2)).trans h2
 have b3:=(hap.kept.block _ (Zac h3) (Zah h10.owns (by decide) h3)).trans h3
 have b4:=(hap.kept.block _ (Zac h4) (Zah h10.owns (by decide) h4)).trans h4
 have b5:=(hap.kept.block _ (Zac h5) (Zah h10.owns (by decide) h5)).trans h5
 have hK:Kept (fun j=>j=w.heap.size+3) w2 (w2.setCell ⟨w.heap.size+3,2,none⟩ r2):=(Kept.refl (only (w.heap.size+3)) w2).put 2 _
 have hsz:=hap.kept.size
 exact ⟨(h1.trans (hap.kept.below h1.size (fun j hj=>Nat.le_trans h8 (h10.owns.lt j hj).1))).setCell (p:=⟨w.heap.size+3,2,none⟩) (by simp) _,(hK.block _ (Zac b2) (by simp)).trans b2,(hK.block _ (Zac b3) (by simp)).trans b3,(hK.block _ (Zac b4) (by simp)).trans b4,Zai b5 2 _,
  (h6.aside h7 h10.owns hap.kept).box b5 (by decide) (by decide) hK,h7,h8,by simp; omega,(h10.snoc (by rw [hn]; exact hap) hx).box b5 (by decide) (by decide) hK⟩
def LayApp (w0:World) (B:Nat) (x gv:Value) (n:Nat) (xs:List Value) (F:Value→World→Prop):List Value→World→Prop
 | [],u=>u=w0
 | [y],u=>y = .slice (some ⟨w0.heap.size,0,none⟩) 1 1∧u=w0.alloc (.cells #[x] 105)
 | [_,z],u=>Appended w0 B 105 1 gv (n+1) (xs++[x]) z u
 | [_,z,_],u=>F z u
 | _,_=>False
theorem LayApp.ext {w0:World} {B:Nat} {x gv:Value} {n:Nat} {xs:List Value} {F:Value→World→Prop}:∀ {vs:List Value} {u:World},LayApp w0 B x gv n xs F vs u→vs.length≤1→Ext w0 u
 | [],u,h,_=>by obtain rfl:u=w0:=h; exact Below.refl _ _
 | [y],u,h,_=>by
  obtain ⟨_,rfl⟩:=h
  exact (Below.refl _ _).alloc (Nat.le_refl _) _
 | _::_::_,_,_,h=>by simp at h
def BodyOut (gl vl rl:List (List Sym)) (vv:Value) (uu:Nat) (w:World) (e:Ending) (w':World):Prop:=Ext w w'∧∃ g1 gc r1 rc,e = .returned (.agg #[.slice g1 gl.length gc,vv,.slice r1 rl.length rc,.int .i64 uu])∧TermsIn w' (.slice g1 gl.length gc) gl∧TermsIn w' (.slice r1 rl.length rc) rl
set_option maxRecDepth 10000 in
set_option maxHeartbeats 4000000 in
theorem Zsm (w:World) (gv vv rv hv bv nv:Value) (g0:List Sym) (gs vl rl body:List (List Sym)) (ns:Names) (u:Nat) (h1:TermsIn w gv (g0::gs)) (h2:TermsIn w vv vl) (h3:TermsIn w rv rl) (hh:∃ a n x,hv = .slice a n x) (hb:TermsIn w bv body) (hns:w.ownsRow 0 9 1 nv ns.length (strs ns))
  (hgl:(g0::gs).length≤1000) (hrl:rl.length≤1000) (hbl:body.length≤1000) (hnl:ns.length≤4000) (hu:u≤190000) (hbo:∀ l ∈ body,TmOk l) :
  Calls Tryz.prog 128 #[.agg #[gv,vv,rv,.int .i64 u],.agg #[hv,bv,nv]] w (BodyOut (body.map (fun l=>l.map (rn u))++gs) vl (rl++[g0]) vv (u+ns.length) w):=by
 obtain ⟨ha,hn1,hc1,rfl⟩:=hh
 obtain ⟨gus,h1⟩:=h1
 obtain ⟨rus,h3⟩:=h3
 obtain ⟨bus,hb⟩:=hb
 obtain ⟨va,vcap,rfl⟩:=h2.shape
 obtain ⟨ga,gcap,rfl⟩:=Zad h1.owns
 obtain ⟨ra,rcap,rfl⟩:=Zad h3.owns
 obtain ⟨ba,bcap,rfl⟩:=Zad hb.owns
 obtain ⟨na,ncap,rfl⟩:=Zad hns
 obtain ⟨GL,hGL⟩:∃ G,G=g0::gs:=⟨_,rfl⟩
 rw [← hGL] at h1 hgl ⊢
 have hGpos:0<GL.length:=by rw [hGL]; simp
 have H1:=Zaa h1
 have H3:=Zaa h3
 have Hb:=Zaa hb
 have Hbo:=Zaa hbo
 have HGL:=Zaa hGL
 clear h1 h2 h3 hb hns hbo hGL
 obtain ⟨uu,huu⟩:∃ n,n=u+ns.length:=⟨_,rfl⟩
 have HI:Hid ((u:Int)+(ns.length:Int)=(uu:Int)):=by show _=_; omega
 have huu2:uu≤200000:=by omega
 obtain ⟨bl',hbl'⟩:∃ L,L=body.map (fun l=>l.map (rn u)):=⟨_,rfl⟩
 rw [← huu,← hbl']
 have hbn:bl'.length=body.length:=by rw [hbl']; simp
 have Hbl:=Zaa hbl'
 clear huu hbl'
 go_enter Tryz.func128,Tryz.ntmps128
 go_wp2
 rw [HI.out]
 go_loopg [24] (body.length+1) (fun gk iv wr=>∃ (k:Nat) (g:Value) (xs:List Value),iv = .int .i64 k∧k≤body.length∧body.length - k<gk∧WBg w (.slice ga GL.length gcap) (.slice va vl.length vcap) (.slice ra rl.length rcap) u uu (.slice ha hn1 hc1) (.slice ba body.length bcap) (.slice na ns.length ncap) ((body.take k).map (fun l=>l.map (rn u))) g xs wr)
 case atStart=>exact ⟨0,.slice none 0 0,[],by go_num,Nat.zero_le _,by omega,(Ext.of (by repeat' (first | with_reducible exact Kept.refl _ _ | with_reducible apply Kept.drew | with_reducible apply Kept.drewN | with_reducible apply Kept.alloc | with_reducible refine Kept.setCell ?_ ?_ _ | exact fun h=>absurd h (by simp <;> omega)))),Zag (Zag (Zag (heap_alloc_new w _) _) _) _,Zag (Zag (Zet (by simp) _) _) _,Zag (Zet (by simp) _) _,Zet (by simp) _,TermsAt.nil _ _⟩
 case round =>
  obtain ⟨k,g,xs,rfl,hk,hgk,hA⟩:=hrel
  have hlk:((body.take k).map (fun l=>l.map (rn u))).length=k:=by simp; omega
  have hrow:=hA.row.owns
  rw [hlk] at hrow
  obtain ⟨ra1,rcap1,rfl⟩:=Zad hrow
  have hsr:=hA.ext.size
  have m3:wr.cell? ⟨w.heap.size,3,none⟩=some (.int .i64 u):=Zab hA.nb 3 _ rfl
  have m0:wr.cell? ⟨w.heap.size,0,none⟩=some (.slice ga GL.length gcap):=Zab hA.nb 0 _ rfl
  have m2:wr.cell? ⟨w.heap.size,2,none⟩=some (.slice ra rl.length rcap):=Zab hA.nb 2 _ rfl
  have n0:wr.cell? ⟨w.heap.size+3,0,none⟩=some (.slice ra1 k rcap1):=Zab hA.box 0 _ rfl
  have ml:=Zac hA.nb
  have nl:=Zac hA.box
  have HA:=Zaa hA
  clear hA hrow hlk
  by_cases hlt:k<body.length
  ·obtain ⟨l,hs⟩:∃ l,body[k]?=some l:=⟨_,List.getElem?_eq_getElem hlt⟩
   obtain ⟨x,hx,hxo⟩:=Hb.out.all _ l hs
   obtain ⟨xa,xcap,rfl⟩:=Zad hxo
   obtain ⟨bb,cap',cur,he,_,hgb,_⟩:=Zal Hb.out.owns (by omega)
   simp only [Value.slice.injEq] at he
   obtain ⟨rfl,_,rfl⟩:=he
   have hgw:=Zac hgb
   have hgr:bb<wr.heap.size:=by omega
   have x0:wr.cell? ⟨bb,k,none⟩=some (.slice xa l.length xcap):=(HA.out.ext.cell (p:=⟨bb,k,none⟩) hgw).trans (Zaf Hb.out.owns _ _ hx)
   obtain ⟨_,o2,o3⟩:=Hbo.out l (List.mem_of_getElem? hs)
   have HR:=Zaa (Zih wr.drew (.slice xa l.length xcap) l u (WordAt.ext hxo (HA.out.ext.trans ⟨rfl,rfl,rfl,Nat.le_refl _,fun _ _=>rfl⟩)) o2 o3 (by omega))
   have hnx:(body.take (k+1)).map (fun l=>l.map (rn u))=(body.take k).map (fun l=>l.map (rn u))++[l.map (rn u)]:=by rw [List.take_add_one,hs]; simp
   have Hnx:=Zaa hnx
   clear hs hx hxo hgb o2 o3 hnx
   go_wp2_with fail
   have HA':=HA.out.on (w1:=wr.drew) ⟨rfl,rfl,rfl,Nat.le_refl _,fun _ _=>rfl⟩
   have hlk:((body.take k).map (fun l=>l.map (rn u))).length=k:=by simp; omega
   refine Zkn (by kernel_rfl) [.rd 0 3 (fun _ => .pointer (some ⟨w.heap.size+3,0,none⟩)),.rd 0 2 (fun _ => .slice ra1 k rcap1),.rd 0 3 (fun _ => .slice xa l.length xcap),.rd 0 3 (fun _ => .pointer (some ⟨w.heap.size,3,none⟩)),.rd 0 2 (fun _ => .int .i64 u),.st 0,.st 1,.st 2,.rd 0 3 (fun _ => .pointer (some ⟨w.heap.size+3,0,none⟩)),.st 3] 4 7 (by kernel_rfl)
    (CallApp wr.drew w.heap.size (l.map (rn u)) (.slice ra1 k rcap1) k xs (fun z y=>∃ xs',WBg w (.slice ga GL.length gcap) (.slice va vl.length vcap) (.slice ra rl.length rcap) u uu (.slice ha hn1 hc1) (.slice (some ⟨bb,0,none⟩) body.length bcap) (.slice na ns.length ncap) ((body.take (k+1)).map (fun l=>l.map (rn u))) z xs' y)) rfl ?_ ?_
   ·refine ⟨⟨trivial,fun vs y _ hl hS => ?_⟩,⟨trivial,fun vs y _ hl hS => ?_⟩,⟨trivial,fun vs y _ hl hS => ?_⟩,⟨trivial,fun vs y _ hl hS => ?_⟩,⟨trivial,fun vs y _ hl hS => ?_⟩,⟨trivial,fun vs y hl hS => ?_⟩,⟨trivial,fun vs y hl hS => ?_⟩,⟨trivial,fun vs y hl hS => ?_⟩,⟨trivial,fun vs y _ hl hS => ?_⟩,⟨trivial,fun vs y hl hS => ?_⟩,trivial⟩
    ·simp [phAll,phA,pa,Ph.kd,Ph.val,Kd.val,go_sem]
    ·have t1:y.cell? ⟨w.heap.size+3,0,none⟩=some (.slice ra1 k rcap1):=((hS.ext hl).cell (p:=⟨w.heap.size+3,0,none⟩) nl).trans n0
     simp [phAll,phA,pa,Ph.kd,Ph.val,Kd.val,go_sem,t1]
    ·simp [phAll,phA,pa,Ph.kd,Ph.val,Kd.val,go_sem]
    ·simp [phAll,phA,pa,Ph.kd,Ph.val,Kd.val,go_sem]
    ·have t1:y.cell? ⟨w.heap.size,3,none⟩=some (.int .i64 u):=((hS.ext hl).cell (p:=⟨w.heap.size,3,none⟩) ml).trans m3
     simp [phAll,phA,pa,Ph.kd,Ph.val,Kd.val,go_sem,t1]
    ·obtain rfl:=List.length_eq_zero_iff.1 hl
     have hy:y=wr.drew:=hS
     subst hy
     refine .call 74 #[.slice xa l.length xcap,.int .i64 u] _ (by simp [phAll,phA,pa,Ph.kd,Ph.val,Kd.val,go_sem]) (HR.out.mono ?_)
     rintro e y ⟨v,B,rfl,h⟩
     exact ⟨v,rfl,v,B,rfl,h⟩
    ·obtain ⟨x,rfl⟩:=List.length_eq_one_iff.1 hl
     have hS1:=hS
     obtain ⟨x',B',he,hB,hr,hE⟩:=hS1
     simp only [Ending.returned.injEq] at he
     subst he
     obtain ⟨xa1,xc1,rfl⟩:=Zad hr
     exact .value (.slice (some ⟨y.heap.size,0,none⟩) 1 1) (y.alloc (.cells #[.slice xa1 (l.map (rn u)).length xc1] 105)) (by simp [phAll,phA,pa,Ph.kd,Ph.val,Kd.val,go_sem]) ⟨y,hS,rfl,rfl⟩
    ·obtain ⟨x,x2,rfl⟩:∃ x y,vs=[x,y]:=by
      match vs,hl with
      | [x,y],_=>exact ⟨x,y,rfl⟩
     obtain ⟨u1,hW,rfl,rfl⟩:=hS
     have hW1:=hW
     obtain ⟨x',B',he,hB,hr,hE⟩:=hW1
     simp only [Ending.returned.injEq] at he
     subst he
     obtain ⟨xa1,xc1,rfl⟩:=Zad hr
     have hrow:u1.ownsRow w.heap.size 105 1 (.slice ra1 k rcap1) k xs:=by
      have:=(HA'.on hE).row.owns
      rw [hlk] at this
      exact this
     have hsz:=hE.size
     obtain ⟨z,w',hrun,hap⟩:=Zew (P:=Tryz.prog) u1 85 85 w.heap.size 105 Tryz.infoSyms Tryz.underlying85 rfl (by decide) (.slice ra1 k rcap1) k xs hrow #[.slice xa1 (l.map (rn u)).length xc1] rfl (Zef _ _ _) (by omega) (Nat.le_trans hsr hsz)
     refine .value z w' (Zfk (.tmp 29) (.tmp 34) 85 rfl (by simp [phAll,phA,pa,Ph.kd,Ph.val,Kd.val,go_sem]) (by simp [phAll,phA,pa,Ph.kd,Ph.val,Kd.val,go_sem]) hrun) ⟨u1,hW,by simpa using hap⟩
    ·simp [phAll,phA,pa,Ph.kd,Ph.val,Kd.val,go_sem]
    ·obtain ⟨x,x2,z,rfl⟩:∃ x y z,vs=[x,y,z]:=by
      match vs,hl with
      | [x,y,z],_=>exact ⟨x,y,z,rfl⟩
     obtain ⟨u1,hW,hap⟩:=hS
     obtain ⟨x',B',he,hB,hr,hE⟩:=hW
     simp only [Ending.returned.injEq] at he
     subst he
     obtain ⟨za,zc,rfl⟩:=Zad hap.owns
     have hA2:=(HA'.on hE).app hlk (Zbe hr (Nat.zero_le _)) hap
     rw [← Hnx.out] at hA2
     have h4:=(HA'.on hE).box
     have b4:=(hap.kept.block _ (Zac h4) (Zah (HA'.on hE).row.owns (by decide) h4)).trans h4
     have c4:=Zab b4 0 _ rfl
     have f4:=Zae b4 0
     exact .skip _ (by simp [phAll,phA,pa,Ph.kd,Ph.val,Kd.val,go_sem,c4,f4]) ⟨_,hA2⟩
   ·rintro vs y hl hS
    obtain ⟨x,x2,z,x3,rfl⟩:∃ x y z y',vs=[x,y,z,y']:=by
     match vs,hl with
     | [x,y,z,y'],_=>exact ⟨x,y,z,y',rfl⟩
    obtain ⟨xs',hA2⟩:=hS
    simp only [phAll,phA,paAll,pa,Ph.kd,Ph.val,Kd.val,List.map_cons,List.map_nil,if_true,Act.put,List.setIfInBounds_toArray,List.set_cons_succ,List.set_cons_zero]
    have HA2:=Zaa hA2
    clear hA2
    go_wp2
    go_roundg (body.length - k)
    case measure=>omega
    case rel=>exact ⟨k+1,_,xs',by go_num,by omega,by omega,HA2.out⟩
  ·have hek:k=body.length:=by omega
   subst hek
   have HA1:Hid (WBg w (.slice ga GL.length gcap) (.slice va vl.length vcap) (.slice ra rl.length rcap) u uu (.slice ha hn1 hc1) (.slice ba body.length bcap) (.slice na ns.length ncap) (bl'++(GL.take 0).drop 1) (.slice ra1 body.length rcap1) xs wr):=by
    have:=HA.out
    rw [List.take_length,← Hbl.out] at this
    show WBg _ _ _ _ _ _ _ _ _ _ _ _ _
    simpa using this
   obtain ⟨wo,hwo⟩:∃ x,x=wr:=⟨_,rfl⟩
   subst hwo
   clear HA
   go_wp2
   go_loopg [41] (GL.length+1) (fun gk iv wr=>∃ (k:Nat) (g:Value) (xs:List Value),iv = .int .i64 k∧k≤GL.length∧GL.length - k<gk∧WBg w (.slice ga GL.length gcap) (.slice va vl.length vcap) (.slice ra rl.length rcap) u uu (.slice ha hn1 hc1) (.slice ba body.length bcap) (.slice na ns.length ncap) (bl'++(GL.take k).drop 1) g xs wr)
   case atStart=>exact ⟨0,_,xs,by go_num,Nat.zero_le _,by omega,HA1.out⟩
   case round =>
    clear m0 m2 m3 n0 ml nl HA1
    obtain ⟨k,g,xs,rfl,hk,hgk,hA⟩:=hrel
    obtain ⟨N,hN⟩:∃ N,N=(bl'++(GL.take k).drop 1).length:=⟨_,rfl⟩
    have hN2:N≤4000:=by rw [hN]; simp; omega
    have hrow:=hA.row.owns
    rw [← hN] at hrow
    obtain ⟨ra1,rcap1,rfl⟩:=Zad hrow
    have hsr:=hA.ext.size
    have m0:wr.cell? ⟨w.heap.size,0,none⟩=some (.slice ga GL.length gcap):=Zab hA.nb 0 _ rfl
    have m2:wr.cell? ⟨w.heap.size,2,none⟩=some (.slice ra rl.length rcap):=Zab hA.nb 2 _ rfl
    have n0:wr.cell? ⟨w.heap.size+3,0,none⟩=some (.slice ra1 N rcap1):=Zab hA.box 0 _ rfl
    have nf:=fun i=>Zae hA.box i
    have ml:=Zac hA.nb
    have nl:=Zac hA.box
    have HA:=Zaa hA
    have Hrow:=Zaa hrow
    have HN:=Zaa hN
    clear hA hrow hN
    by_cases hlt:k<GL.length
    ·obtain ⟨l,hs⟩:∃ l,GL[k]?=some l:=⟨_,List.getElem?_eq_getElem hlt⟩
     obtain ⟨x,hx,hxo⟩:=H1.out.all _ l hs
     obtain ⟨xa,xcap,rfl⟩:=Zad hxo
     obtain ⟨gg,cap',cur,he,_,hgb,_⟩:=Zal H1.out.owns (by omega)
     simp only [Value.slice.injEq] at he
     obtain ⟨rfl,_,rfl⟩:=he
     have hgw:=Zac hgb
     have hgr:gg<wr.heap.size:=by omega
     have x0:wr.cell? ⟨gg,k,none⟩=some (.slice xa l.length xcap):=(HA.out.ext.cell (p:=⟨gg,k,none⟩) hgw).trans (Zaf H1.out.owns _ _ hx)
     have Hxo:Hid (WordAt wr (.slice xa l.length xcap) l):=WordAt.ext hxo HA.out.ext
     have Hs:=Zaa hs
     clear hs hx hxo hgb
     by_cases hk0:k=0
     ·subst hk0
      go_wp2
      go_roundg (GL.length - 0)
      case measure=>omega
      case rel =>
       refine ⟨1,.slice ra1 N rcap1,xs,by go_num,by omega,by omega,?_⟩
       have:=HA.out
       simpa using this
     ·have hk1:(0:Int)<(k:Int):=by omega
      go_wp2_with (at_builtin; go_loud (refine Zaj wr rfl (.tmp 49) (.tmp 51) 85 rfl w.heap.size 105 Tryz.infoSyms Tryz.underlying85 rfl (by decide) (.slice ra1 N rcap1) N xs rfl Hrow.out #[.slice xa l.length xcap] (N:=wr.heap.size) rfl (by simp) rfl (Zef _ _ _) ?_ ?_ ?_))
      ·omega
      ·omega
      intro v3 w2 hap
      obtain ⟨a3,c3,rfl⟩:=Zad hap.owns
      have hA2:=HA.out.app HN.out.symm Hxo.out hap
      have hnx:(bl'++(GL.take k).drop 1)++[l]=bl'++(GL.take (k+1)).drop 1:=by
       rw [List.take_add_one,Hs.out,List.append_assoc]
       congr 1
       rw [List.drop_append_of_le_length (by simp; omega)]
       rfl
      rw [hnx] at hA2
      have b4:=(hap.kept.block _ (Zac HA.out.box) (Zah Hrow.out (by decide) HA.out.box)).trans HA.out.box
      have m1:=Zab b4 0 _ rfl
      have mf:=fun i=>Zae b4 i
      have mll:=Zac b4
      have HA2:=Zaa hA2
      clear hap hA2 b4 hnx
      go_wp2
      go_roundg (GL.length - k)
      case measure=>omega
      case rel=>exact ⟨k+1,_,_,by go_num,by omega,by omega,HA2.out⟩
    ·have hek:k=GL.length:=by omega
     subst hek
     obtain ⟨FL,hFL⟩:∃ L,L=bl'++GL.drop 1:=⟨_,rfl⟩
     have hFN:FL.length=N:=by rw [hFL,HN.out,List.take_length]
     have hWr:WBr w wr.heap.size (.slice ga GL.length gcap) (.slice va vl.length vcap) (.slice ra rl.length rcap) u uu (.slice ha hn1 hc1) (.slice ba body.length bcap) (.slice na ns.length ncap) FL (.slice ra1 N rcap1) (rl.take 0) (.slice none 0 0) [] wr:=by
      obtain ⟨h1,h2,h3,h4,h5,h6⟩:=HA.out
      rw [List.take_length,← hFL] at h6
      exact ⟨h1,h2,h3,h4,h5,h6.inn,fun j hj=>(h6.owns.lt j hj).2,h1.size,Nat.le_refl _,TermsAt.nil _ _⟩
     have HW:=Zaa hWr
     have HFL:=Zaa hFL
     have HFN:=Zaa hFN
     obtain ⟨wp,hwp⟩:∃ x,x=wr:=⟨_,rfl⟩
     subst hwp
     clear HA hWr hFL hFN Hrow HN
     go_wp2
     go_loopg [58] (rl.length+1) (fun gk iv wr=>∃ (k:Nat) (r:Value) (ys:List Value),iv = .int .i64 k∧k≤rl.length∧rl.length - k<gk∧WBr w wp.heap.size (.slice ga GL.length gcap) (.slice va vl.length vcap) (.slice ra rl.length rcap) u uu (.slice ha hn1 hc1) (.slice ba body.length bcap) (.slice na ns.length ncap) FL (.slice ra1 N rcap1) (rl.take k) r ys wr)
     case atStart=>exact ⟨0,_,[],by go_num,Nat.zero_le _,by omega,HW.out⟩
     case round =>
      clear m0 m2 n0 nf ml nl HW
      obtain ⟨k,r,ys,rfl,hk,hgk,hA⟩:=hrel
      have hlk:(rl.take k).length=k:=by simp; omega
      have hrow:=hA.row.owns
      rw [hlk] at hrow
      obtain ⟨sa,scap,rfl⟩:=Zad hrow
      have hsr:=hA.ext.size
      have hb2:=hA.b2
      have m0:wr.cell? ⟨w.heap.size,0,none⟩=some (.slice ga GL.length gcap):=Zab hA.nb 0 _ rfl
      have m2:wr.cell? ⟨w.heap.size,2,none⟩=some (.slice ra rl.length rcap):=Zab hA.nb 2 _ rfl
      have n2:wr.cell? ⟨w.heap.size+3,2,none⟩=some (.slice sa k scap):=Zab hA.box 2 _ rfl
      have nf:=fun i=>Zae hA.box i
      have ml:=Zac hA.nb
      have nl:=Zac hA.box
      have HA:=Zaa hA
      have Hrow:=Zaa hrow
      clear hA hrow hlk
      by_cases hlt:k<rl.length
      ·obtain ⟨l,hs⟩:∃ l,rl[k]?=some l:=⟨_,List.getElem?_eq_getElem hlt⟩
       obtain ⟨x,hx,hxo⟩:=H3.out.all _ l hs
       obtain ⟨xa,xcap,rfl⟩:=Zad hxo
       obtain ⟨rr,cap',cur,he,_,hgb,_⟩:=Zal H3.out.owns (by omega)
       simp only [Value.slice.injEq] at he
       obtain ⟨rfl,_,rfl⟩:=he
       have hgw:=Zac hgb
       have hgr:rr<wr.heap.size:=by omega
       have x0:wr.cell? ⟨rr,k,none⟩=some (.slice xa l.length xcap):=(HA.out.ext.cell (p:=⟨rr,k,none⟩) hgw).trans (Zaf H3.out.owns _ _ hx)
       have Hxo:Hid (WordAt wr (.slice xa l.length xcap) l):=WordAt.ext hxo HA.out.ext
       have Hs:=Zaa hs
       clear hs hx hxo hgb
       go_wp2_with (at_builtin; go_loud (refine Zaj wr rfl (.tmp 63) (.tmp 65) 85 rfl wp.heap.size 105 Tryz.infoSyms Tryz.underlying85 rfl (by decide) (.slice sa k scap) k ys rfl Hrow.out #[.slice xa l.length xcap] (N:=wr.heap.size) rfl (by simp) rfl (Zef _ _ _) ?_ ?_ ?_))
       ·omega
       ·omega
       intro v3 w2 hap
       obtain ⟨a3,c3,rfl⟩:=Zad hap.owns
       have hA2:=HA.out.app (by simp; omega) Hxo.out hap
       have hnx:rl.take k++[l]=rl.take (k+1):=by rw [List.take_add_one,Hs.out]; rfl
       rw [hnx] at hA2
       have b4:=(hap.kept.block _ (Zac HA.out.box) (Zah Hrow.out (by decide) HA.out.box)).trans HA.out.box
       have m1:=Zab b4 2 _ rfl
       have mf:=fun i=>Zae b4 i
       have mll:=Zac b4
       have HA2:=Zaa hA2
       clear hap hA2 b4 hnx
       go_wp2
       go_roundg (rl.length - k)
       case measure=>omega
       case rel=>exact ⟨k+1,_,_,by go_num,by omega,by omega,HA2.out⟩
      ·have hek:k=rl.length:=by omega
       subst hek
       obtain ⟨x,hx,hxo⟩:=H1.out.all 0 g0 (by rw [HGL.out]; rfl)
       obtain ⟨xa,xcap,rfl⟩:=Zad hxo
       obtain ⟨gg,cap',cur,he,_,hgb,_⟩:=Zal H1.out.owns (by omega)
       simp only [Value.slice.injEq] at he
       obtain ⟨rfl,_,rfl⟩:=he
       have hgw:=Zac hgb
       have hgr:gg<wr.heap.size:=by omega
       have x0:wr.cell? ⟨gg,0,none⟩=some (.slice xa g0.length xcap):=(HA.out.ext.cell (p:=⟨gg,0,none⟩) hgw).trans (Zaf H1.out.owns _ _ hx)
       have Hxo:Hid (WordAt wr.drew (.slice xa g0.length xcap) g0):=WordAt.ext hxo (HA.out.ext.trans ⟨rfl,rfl,rfl,Nat.le_refl _,fun _ _=>rfl⟩)
       have hGi:(0:Int)<(GL.length:Int):=by omega
       clear hx hxo hgb
       have HA':=Zaa (HA.out.on (w1:=wr.drew) ⟨rfl,rfl,rfl,Nat.le_refl _,fun _ _=>rfl⟩)
       rw [List.take_length] at HA'
       go_wp2_with fail
       refine Zkn (by kernel_rfl) [.rd 0 2 (fun _ => .pointer (some ⟨w.heap.size+3,2,none⟩)),.rd 0 1 (fun _ => .slice sa rl.length scap),.rd 0 0 (fun _ => .pointer (some ⟨w.heap.size,0,none⟩)),.rd 0 0 (fun _ => .slice (some ⟨gg,0,none⟩) GL.length gcap),.rd 0 0 (fun _ => .pointer (some ⟨gg,0,none⟩)),.rd 0 0 (fun _ => .slice xa g0.length xcap),.st 0,.st 1,.rd 0 2 (fun _ => .pointer (some ⟨w.heap.size+3,2,none⟩)),.st 2] 3 7 (by kernel_rfl)
        (LayApp wr.drew wp.heap.size (.slice xa g0.length xcap) (.slice sa rl.length scap) rl.length ys (fun z y=>∃ ys',WBr w wp.heap.size (.slice (some ⟨gg,0,none⟩) GL.length gcap) (.slice va vl.length vcap) (.slice ra rl.length rcap) u uu (.slice ha hn1 hc1) (.slice ba body.length bcap) (.slice na ns.length ncap) FL (.slice ra1 N rcap1) (rl++[g0]) z ys' y)) rfl ?_ ?_
       ·refine ⟨⟨trivial,fun vs y _ hl hS => ?_⟩,⟨trivial,fun vs y _ hl hS => ?_⟩,⟨trivial,fun vs y _ hl hS => ?_⟩,⟨trivial,fun vs y _ hl hS => ?_⟩,⟨trivial,fun vs y _ hl hS => ?_⟩,⟨trivial,fun vs y _ hl hS => ?_⟩,⟨trivial,fun vs y hl hS => ?_⟩,⟨trivial,fun vs y hl hS => ?_⟩,⟨trivial,fun vs y _ hl hS => ?_⟩,⟨trivial,fun vs y hl hS => ?_⟩,trivial⟩
        ·simp [phAll,phA,pa,Ph.kd,Ph.val,Kd.val,go_sem]
        ·have t1:y.cell? ⟨w.heap.size+3,2,none⟩=some (.slice sa rl.length scap):=((hS.ext hl).cell (p:=⟨w.heap.size+3,2,none⟩) nl).trans n2
         simp [phAll,phA,pa,Ph.kd,Ph.val,Kd.val,go_sem,t1]
        ·simp [phAll,phA,pa,Ph.kd,Ph.val,Kd.val,go_sem]
        ·have t1:y.cell? ⟨w.heap.size,0,none⟩=some (.slice (some ⟨gg,0,none⟩) GL.length gcap):=((hS.ext (by omega)).cell (p:=⟨w.heap.size,0,none⟩) ml).trans m0
         simp [phAll,phA,pa,Ph.kd,Ph.val,Kd.val,go_sem,t1]
        ·simp [phAll,phA,pa,Ph.kd,Ph.val,Kd.val,go_sem,hGpos]
        ·have t1:y.cell? ⟨gg,0,none⟩=some (.slice xa g0.length xcap):=((hS.ext (by omega)).cell (p:=⟨gg,0,none⟩) hgr).trans x0
         simp [phAll,phA,pa,Ph.kd,Ph.val,Kd.val,go_sem,t1]
        ·obtain rfl:=List.length_eq_zero_iff.1 hl
         have hy:y=wr.drew:=hS
         subst hy
         exact .value (.slice (some ⟨wr.drew.heap.size,0,none⟩) 1 1) (wr.drew.alloc (.cells #[.slice xa g0.length xcap] 105)) (by simp [phAll,phA,pa,Ph.kd,Ph.val,Kd.val,go_sem]) ⟨rfl,rfl⟩
        ·obtain ⟨x,rfl⟩:=List.length_eq_one_iff.1 hl
         obtain ⟨rfl,rfl⟩:=hS
         have hrow:wr.drew.ownsRow wp.heap.size 105 1 (.slice sa rl.length scap) rl.length ys:=HA'.out.row.owns
         obtain ⟨z,w',hrun,hap⟩:=Zew (P:=Tryz.prog) wr.drew 85 85 wp.heap.size 105 Tryz.infoSyms Tryz.underlying85 rfl (by decide) (.slice sa rl.length scap) rl.length ys hrow #[.slice xa g0.length xcap] rfl (Zef _ _ _) (by omega) HA'.out.b2
         exact .value z w' (Zfk (.tmp 74) (.tmp 79) 85 rfl (by simp [phAll,phA,pa,Ph.kd,Ph.val,Kd.val,go_sem]) (by simp [phAll,phA,pa,Ph.kd,Ph.val,Kd.val,go_sem]) hrun) (by simpa [LayApp] using hap)
        ·simp [phAll,phA,pa,Ph.kd,Ph.val,Kd.val,go_sem]
        ·obtain ⟨x,z,rfl⟩:∃ x y,vs=[x,y]:=by
          match vs,hl with
          | [x,y],_=>exact ⟨x,y,rfl⟩
         have hap:Appended _ _ _ _ _ _ _ z y:=hS
         obtain ⟨za,zc,rfl⟩:=Zad hap.owns
         have hA2:=HA'.out.app rfl Hxo.out hap
         have h4:=HA'.out.box
         have b4:=(hap.kept.block _ (Zac h4) (Zah HA'.out.row.owns (by decide) h4)).trans h4
         have c4:=Zab b4 2 _ rfl
         have f4:=Zae b4 2
         exact .skip _ (by simp [phAll,phA,pa,Ph.kd,Ph.val,Kd.val,go_sem,c4,f4]) ⟨_,hA2⟩
       ·rintro vs y hl hS
        obtain ⟨x,z,x3,rfl⟩:∃ x y z,vs=[x,y,z]:=by
         match vs,hl with
         | [x,y,z],_=>exact ⟨x,y,z,rfl⟩
        obtain ⟨ys',hA2⟩:=hS
        have hrow:=hA2.row.owns
        obtain ⟨ta,tcap,rfl⟩:=Zad hrow
        simp only [phAll,phA,paAll,pa,Ph.kd,Ph.val,Kd.val,List.map_cons,List.map_nil,if_true,Act.put,List.setIfInBounds_toArray,List.set_cons_succ,List.set_cons_zero]
        have q0:=Zab hA2.box 0 _ rfl
        have q1:=Zab hA2.box 1 _ rfl
        have q2:=Zab hA2.box 2 _ rfl
        have q3:=Zab hA2.box 3 _ rfl
        have ql:=Zac hA2.box
        have r0:=Zab hA2.res 0 _ rfl
        have r1:=Zab hA2.res 1 _ rfl
        have r2:=Zab hA2.res 2 _ rfl
        have r3:=Zab hA2.res 3 _ rfl
        have rf:=fun i=>Zae hA2.res i
        have rll:=Zac hA2.res
        have HA2:=Zaa hA2
        clear hA2 hrow HA' HA
        go_wp2
        refine bodyPost_ret (v := .agg #[.slice ra1 N rcap1,.slice va vl.length vcap,.slice ta (rl++[g0]).length tcap,.int .i64 uu]) (by simp [results,Tryz.results128,go_sem,r0,r1,r2,r3,rf,rll]) rfl ?_
        have hK2:∀ x0 x1 x2 x3,Kept (fun j=>j=w.heap.size+2) y ((((y.setCell ⟨w.heap.size+2,0,none⟩ x0).setCell ⟨w.heap.size+2,1,none⟩ x1).setCell ⟨w.heap.size+2,2,none⟩ x2).setCell ⟨w.heap.size+2,3,none⟩ x3):=fun x0 x1 x2 x3=>((((Kept.refl (only (w.heap.size+2)) y).put 0 _).put 1 _).put 2 _).put 3 _
        have hE:=(((HA2.out.ext.setCell (p:=⟨w.heap.size+2,0,none⟩) (by simp) (.slice ra1 N rcap1)).setCell (p:=⟨w.heap.size+2,1,none⟩) (by simp) (.slice va vl.length vcap)).setCell (p:=⟨w.heap.size+2,2,none⟩) (by simp) (.slice ta (rl++[g0]).length tcap)).setCell (p:=⟨w.heap.size+2,3,none⟩) (by simp) (.int .i64 uu)
        have hFL:FL=bl'++gs:=by rw [HFL.out,HGL.out]; rfl
        have hg:=HA2.out.goals.box HA2.out.res (by decide) (by decide) (hK2 (.slice ra1 N rcap1) (.slice va vl.length vcap) (.slice ta (rl++[g0]).length tcap) (.int .i64 uu))
        have hr:=HA2.out.row.inn.box HA2.out.res (by decide) (by decide) (hK2 (.slice ra1 N rcap1) (.slice va vl.length vcap) (.slice ta (rl++[g0]).length tcap) (.int .i64 uu))
        rw [← HFN.out] at hg hE hr ⊢
        rw [hFL] at hg hE hr ⊢
        rw [show rl.length+1=(rl++[g0]).length by simp]
        exact ⟨hE,_,_,_,_,rfl,hg,hr⟩
theorem Znu {k V:Nat} {l:List Sym} (hw:Wf k l) (hl:l.length≤1000) (ho:∀ v,Occ v l→v<V) (hV:V≤200000):TmOk l :=
 ⟨⟨k,hw⟩,hl,fun s hs=>by
  obtain ⟨i,hi⟩:=List.mem_iff_getElem?.1 hs
  by_cases hn:s.name=[]
  ·have:=ho s.num ⟨s,hs,hn,rfl⟩
   omega
  ·rw [(Zjq hw hi).2 hn]; omega⟩
theorem TmOk.rn {l:List Sym} {v:Nat} {k:Nat} (hw:Wf k l) (hl:l.length≤1000) {V:Nat} (ho:∀ u,Occ u l→u<V) (hV:V+v≤200000):TmOk (l.map (YtlmjilpjmgjjcaaGreatDoor.rn v)):=by
 rw [← Zlz hw]
 have hlen:(ap (Zbu v) l).length=l.length:=by rw [Zlz hw]; simp
 exact Znu (Znp (Zps v) hw) (by omega) (V:=V+v) (fun u hu=>by
  obtain ⟨x,hx,rfl⟩:=Zgv hu
  have:=ho x hx
  omega) hV
def TryOut (n:ND) (c:Cls) (k:Nat) (w:World) (e:Ending) (w':World):Prop:=Ext w w'∧∃ g1 g2 g3 v1 v2 v3 r1 r2 r3,∃ uu q:Nat,e = .returned (.tuple #[.agg #[.slice g1 g2 g3,.slice v1 v2 v3,.slice r1 r2 r3,.int .i64 uu],.int .i64 q]) ∧
 ((q=0∧(n.goals=[]∨Out n c k 0 n))∨(q=2∧∃ ch,Out n c k 3 ch)∨(q=1∧∃ ch qq,(qq=1∨qq=2)∧Out n c k qq ch∧NodeNew w.heap.size w' (.slice g1 g2 g3) (.slice v1 v2 v3) (.slice r1 r2 r3) ch∧uu=ch.vars∧g2=ch.goals.length))
theorem Zhi (σ:Nat→List Sym) (n:ND) (c:Cls) (hc:COk c) (k:Nat) (g:List Sym × Nat) (gs:List (List Sym × Nat)):(Zao σ n c k g gs).goals.map (·.1)=((c.body.map (fun l=>l.map (rn n.vars))++gs.map (·.1))).map (ap σ):=by
 unfold Zao
 simp only
 rw [Zpt,List.map_append,List.map_map]
 congr 2
 refine List.map_congr_left (fun l hl => ?_)
 exact Zlz (hc.wfb l hl)
theorem Zkz (σ:Nat→List Sym) (n:ND) (c:Cls) (k:Nat) (g:List Sym × Nat) (gs:List (List Sym × Nat)):(Zao σ n c k g gs).done.map (·.1)=(n.done.map (·.1)++[g.1]).map (ap σ):=by
 unfold Zao
 simp only
 rw [Zpt,List.map_append]
 rfl
theorem child_big {n:ND} (hn:NOk n) {c:Cls} (hc:COk c) (k:Nat) {g:List Sym × Nat} {gs:List (List Sym × Nat)} (hg:n.goals=g::gs) {σ:Nat→List Sym} (h1:Mgu σ g.1 (ap (Zbu n.vars) c.head)) {l:List Sym} (hl:l ∈ (c.body.map (fun l=>l.map (rn n.vars))++gs.map (·.1))++(n.vals++(n.done.map (·.1)++[g.1]))) (hb:30<(ap σ l).length):Zde (Zao σ n c k g gs)=3:=by
 refine Classical.byContradiction (fun hne => ?_)
 have hok:=Zpu hn hc k hg h1 hne
 have hle:(ap σ l).length≤30:=by
  rcases List.mem_append.1 hl with hl | hl
  ·have:ap σ l ∈ (Zao σ n c k g gs).goals.map (·.1):=by rw [Zhi σ n c hc]; exact List.mem_map.2 ⟨l,hl,rfl⟩
   obtain ⟨x,hx,e⟩:=List.mem_map.1 this
   rw [← e]; exact (hok.gs x hx).1
  ·rcases List.mem_append.1 hl with hl | hl
   ·exact hok.vsize (t:=ap σ l) (List.mem_map.2 ⟨l,hl,rfl⟩)
   ·have:ap σ l ∈ (Zao σ n c k g gs).done.map (·.1):=by rw [Zkz]; exact List.mem_map.2 ⟨l,hl,rfl⟩
    obtain ⟨x,hx,e⟩:=List.mem_map.1 this
    rw [← e]; exact (hok.ds x hx).1
 omega
theorem Zyj {n:ND} {c:Cls} (k:Nat) {g:List Sym × Nat} {gs:List (List Sym × Nat)} {σ:Nat→List Sym} (h:40<c.body.length+gs.length∨100<n.used.length+1):Zde (Zao σ n c k g gs)=3:=by
 have:Zjf (Zao σ n c k g gs)=true:=by
  unfold Zjf Zao carr
  simp only [Bool.or_eq_true,decide_eq_true_eq,List.length_map,List.length_append,List.length_cons,List.length_nil]
  omega
 unfold Zde
 rw [if_pos this]
theorem Zul {n:ND} {c:Cls} (hc:COk c) (k:Nat) {g:List Sym × Nat} {gs:List (List Sym × Nat)} {σ:Nat→List Sym} (h1:¬ 40<c.body.length+gs.length) (h2:¬ 100<n.used.length+1) (h:∀ l ∈ (c.body.map (fun l=>l.map (rn n.vars))++gs.map (·.1))++(n.vals++(n.done.map (·.1)++[g.1])),(ap σ l).length≤30):Zde (Zao σ n c k g gs)=1∨Zde (Zao σ n c k g gs)=2:=by
 have:Zjf (Zao σ n c k g gs)=false:=by
  have hg:∀ x ∈ (Zao σ n c k g gs).goals,¬ bigG x=true:=fun x hx=>by
   have:x.1 ∈ (Zao σ n c k g gs).goals.map (·.1):=List.mem_map.2 ⟨x,hx,rfl⟩
   rw [Zhi σ n c hc] at this
   obtain ⟨l,hl,e⟩:=List.mem_map.1 this
   have:=h l (List.mem_append_left _ hl)
   unfold bigG
   rw [← e]
   simpa using this
  have hd:∀ x ∈ (Zao σ n c k g gs).done,¬ bigG x=true:=fun x hx=>by
   have:x.1 ∈ (Zao σ n c k g gs).done.map (·.1):=List.mem_map.2 ⟨x,hx,rfl⟩
   rw [Zkz] at this
   obtain ⟨l,hl,e⟩:=List.mem_map.1 this
   have:=h l (List.mem_append_right _ (List.mem_append_right _ hl))
   unfold bigG
   rw [← e]
   simpa using this
  unfold Zjf
  simp only [Bool.or_eq_false_iff,decide_eq_false_iff_not]
  refine ⟨⟨⟨?_,?_⟩,List.any_eq_false.2 hg⟩,List.any_eq_false.2 hd⟩
  ·unfold Zao carr; simp; omega
  ·unfold Zao carr; simp; omega
 unfold Zde
 rw [this]
 simp only [Bool.false_eq_true,if_false]
 split
 ·exact Or.inr rfl
 ·exact Or.inl rfl
set_option maxRecDepth 10000 in
set_option maxHeartbeats 4000000 in
theorem try_code (w:World) (gv vv rv hv bv nv:Value) (n:ND) (c:Cls) (k:Nat) (hn:NOk n) (hc:COk c) (h:NodeIn w gv vv rv n) (hcl:ClsIn w hv bv nv c) :
  Calls Tryz.prog 97 #[.agg #[gv,vv,rv,.int .i64 n.vars],.agg #[hv,bv,nv]] w (TryOut n c k w):=by
 obtain ⟨ga,gcap,rfl⟩:=h.goals.shape
 obtain ⟨va,vcap,rfl⟩:=h.vals.shape
 obtain ⟨ra,rcap,rfl⟩:=h.done.shape
 obtain ⟨ha,hcap,rfl⟩:=Zad hcl.head
 obtain ⟨ba,bcap,rfl⟩:=hcl.body.shape
 obtain ⟨na,ncap,rfl⟩:=Zad hcl.names
 have hgl:(n.goals.map (·.1)).length=n.goals.length:=by simp
 have hdl:(n.done.map (·.1)).length=n.done.length:=by simp
 rw [hgl,hdl] at h ⊢
 have hV:n.vars≤101000:=by have:=hn.vars; have:=hn.ul; omega
 have hcn:c.names.length≤1000:=hc.n
 have hg40:=hn.gl
 have hd100:n.done.length≤100:=by rw [hn.dl]; exact hn.ul
 have hb6:=hc.bn
 obtain ⟨W,hW⟩:∃ W,W=((w.alloc (.cells #[.slice ga n.goals.length gcap,.slice va n.vals.length vcap,.slice ra n.done.length rcap,.int .i64 n.vars] 87)).alloc (.cells #[.slice ha c.head.length hcap,.slice ba c.body.length bcap,.slice na c.names.length ncap] 107)).alloc (.cells #[.slice none 0 0,.slice none 0 0,.slice none 0 0,.int .i64 0] 87):=⟨_,rfl⟩
 have hE0:Ext w W:=by rw [hW]; exact (Ext.of (by repeat' (first | with_reducible exact Kept.refl _ _ | with_reducible apply Kept.drew | with_reducible apply Kept.drewN | with_reducible apply Kept.alloc | with_reducible refine Kept.setCell ?_ ?_ _ | exact fun h=>absurd h (by simp <;> omega))))
 have hWs:W.heap.size=w.heap.size+3:=by rw [hW]; simp
 have hb0:NB W w.heap.size (.slice ga n.goals.length gcap) (.slice va n.vals.length vcap) (.slice ra n.done.length rcap) n.vars:=by rw [hW]; exact Zag (Zag (heap_alloc_new w _) _) _
 have hb1:W.heap[w.heap.size+1]?=some (.cells #[.slice ha c.head.length hcap,.slice ba c.body.length bcap,.slice na c.names.length ncap] 107 (0,0)):=by rw [hW]; exact Zag (Zet (by simp) _) _
 have hb2:NB W (w.heap.size+2) (.slice none 0 0) (.slice none 0 0) (.slice none 0 0) 0:=by rw [hW]; exact Zet (by simp) _
 have HB:Hid (∀ y,Ext W y→y.cell? ⟨w.heap.size,0,none⟩=some (.slice ga n.goals.length gcap)∧y.cell? ⟨w.heap.size,1,none⟩=some (.slice va n.vals.length vcap)∧y.cell? ⟨w.heap.size,2,none⟩=some (.slice ra n.done.length rcap)∧y.cell? ⟨w.heap.size,3,none⟩=some (.int .i64 n.vars) ∧
   y.cell? ⟨w.heap.size+1,0,none⟩=some (.slice ha c.head.length hcap)∧y.cell? ⟨w.heap.size+1,1,none⟩=some (.slice ba c.body.length bcap)∧y.cell? ⟨w.heap.size+1,2,none⟩=some (.slice na c.names.length ncap)∧NB y (w.heap.size+2) (.slice none 0 0) (.slice none 0 0) (.slice none 0 0) 0∧w.heap.size+2<y.heap.size):=fun y hE=>by
  have e0:=(hE.block _ (Zac hb0)).trans hb0
  have e1:=(hE.block _ (Zac hb1)).trans hb1
  have e2:=(hE.block _ (Zac hb2)).trans hb2
  exact ⟨Zab e0 0 _ rfl,Zab e0 1 _ rfl,Zab e0 2 _ rfl,Zab e0 3 _ rfl,Zab e1 0 _ rfl,Zab e1 1 _ rfl,Zab e1 2 _ rfl,e2,Zac e2⟩
 have hset:Hid (∀ y x0 x1 x2 x3,Ext w y→Ext w ((((y.setCell ⟨w.heap.size+2,0,none⟩ x0).setCell ⟨w.heap.size+2,1,none⟩ x1).setCell ⟨w.heap.size+2,2,none⟩ x2).setCell ⟨w.heap.size+2,3,none⟩ x3)):=fun y x0 x1 x2 x3 hE =>
  (((hE.setCell (p:=⟨w.heap.size+2,0,none⟩) (by simp) _).setCell (p:=⟨w.heap.size+2,1,none⟩) (by simp) _).setCell (p:=⟨w.heap.size+2,2,none⟩) (by simp) _).setCell (p:=⟨w.heap.size+2,3,none⟩) (by simp) _
 have hhead:TmOk (c.head.map (rn n.vars)):=TmOk.rn hc.wfh (by have:=hc.hl; omega) hc.och (by have:=hc.n; omega)
 have hheadl:(c.head.map (rn n.vars)).length=c.head.length:=by simp
 have hhl:=hc.hl
 have HR:=Zaa (Zih W (.slice ha c.head.length hcap) c.head n.vars (WordAt.ext hcl.head hE0) (by omega) (fun s hs=>(Znu hc.wfh (by omega) hc.och (by have:=hc.n; omega)).num s hs) (by omega))
 obtain ⟨HD,hHD⟩:∃ l,l=c.head.map (rn n.vars):=⟨_,rfl⟩
 have HHD:Hid (HD=ap (Zbu n.vars) c.head):=by show _=_; rw [hHD]; exact (Zlz hc.wfh).symm
 rw [← hHD] at HR hheadl hhead
 have H:=Zaa h
 have Hcl:=Zaa hcl
 have Hn:=Zaa hn
 have Hc:=Zaa hc
 have HE0:=Zaa hE0
 have Hhead:=Zaa hhead
 have Hhl:=Zaa hheadl
 have HW:=Zaa hW
 clear h hcl hE0 hb0 hb1 hb2 hhead hHD hgl hdl hn hc hheadl
 cases hgo:n.goals with
 | nil =>
  have Hgo:=Zaa hgo
  rw [hgo] at HB
  obtain ⟨c0,c1,c2,c3,c4,c5,c6,c7,c8⟩:=HB.out W (Below.refl _ _)
  have r0:=Zab c7 0 _ rfl
  have r1:=Zab c7 1 _ rfl
  have r2:=Zab c7 2 _ rfl
  have r3:=Zab c7 3 _ rfl
  have rf:=fun i=>Zae c7 i
  rw [hgo] at hW
  clear hgo c7 hg40
  go_enter Tryz.func97,Tryz.ntmps97
  go_wp2_with fail
  rw [List.length_nil] at hW
  rw [← hW]
  refine bodyPost_ret (v := .tuple #[.agg #[.slice none 0 0,.slice none 0 0,.slice none 0 0,.int .i64 0],.int .i64 0]) (by simp [results,Tryz.results97,go_sem,r0,r1,r2,r3,rf,c8]) rfl ?_
  exact ⟨HE0.out,none,0,0,none,0,0,none,0,0,0,0,rfl,Or.inl ⟨rfl,Or.inl Hgo.out⟩⟩
 | cons g gs =>
  have hgn:n.goals.length=gs.length+1:=by rw [hgo]; simp
  have z1:((n.goals.length:Int) == 0)=false:=by rw [beq_eq_false_iff_ne]; omega
  obtain ⟨us,hT⟩:=H.out.goals
  obtain ⟨x,hx,hxo⟩:=hT.all 0 g.1 (by rw [hgo]; rfl)
  obtain ⟨xa,xcap,rfl⟩:=Zad hxo
  obtain ⟨gb,cap',cur,he,_,hgb,_⟩:=Zal hT.owns (by simp; omega)
  simp only [Value.slice.injEq] at he
  obtain ⟨rfl,_,rfl⟩:=he
  have hgw:=Zac hgb
  have x0:w.cell? ⟨gb,0,none⟩=some (.slice xa g.1.length xcap):=Zaf (by have:=hT.owns; rw [List.length_map] at this; exact this) _ _ hx
  have hgt:g.1 ∈ n.terms:=by unfold ND.terms; rw [hgo]; simp
  have hgW:=Hn.out.wf g.1 hgt
  have hg30:=(Hn.out.gs g (by rw [hgo]; simp)).1
  have hgO:=(Znu hgW (by omega) (Hn.out.occ g.1 hgt) (by omega)).num
  have hHW:Wf 1 HD:=by rw [HHD.out]; exact Znp (Zps _) Hc.out.wfh
  have hHl:=Hhl.out
  have HWd:Hid (∀ y hx hc,Ext w y→WordAt y (.slice hx HD.length hc) HD→Calls Tryz.prog 127 #[.slice xa g.1.length xcap,.slice hx HD.length hc] y (Zuj g.1 HD y)):=fun y hx hc hE hr =>
   Zyh y _ _ g.1 HD (WordAt.ext hxo hE) hr hgW hHW (by omega) (by omega) (fun s hs=>by
    rcases List.mem_append.1 hs with hs | hs
    ·exact hgO s hs
    ·exact Hhead.out.num s hs)
  have Hgo:=Zaa hgo
  have Hgn:=Zaa hgn
  have Hg30:=Zaa hg30
  clear hT hx hxo hgb hgt hgW hgO hHW hHl hgo hgn hg30
  obtain ⟨gl,hgl⟩:∃ m,m=n.goals.length:=⟨_,rfl⟩
  rw [← hgl] at HB hW z1 hg40
  rw [show (g::gs).length=gl from by rw [hgl,Hgn.out]; rfl]
  have hgp:0<gl:=by rw [hgl,Hgn.out]; omega
  have Hgl:=Zaa hgl
  clear hgl
  go_enter Tryz.func97,Tryz.ntmps97
  go_wp2_with fail
  rw [← hW]
  refine HR.out.mono ?_
  rintro e w1 ⟨hv1,B1,rfl,hB1,hr1,hE1⟩
  obtain ⟨h1a,h1c,rfl⟩:=Zad hr1
  obtain ⟨c0,c1,c2,c3,c4,c5,c6,c7,c8⟩:=HB.out w1 hE1
  have hEw1:Ext w w1:=HE0.out.trans (hE1.mono (by omega))
  have hz1:=hE1.size
  have x1:w1.cell? ⟨gb,0,none⟩=some (.slice xa g.1.length xcap):=(hEw1.cell (p:=⟨gb,0,none⟩) hgw).trans x0
  have hgw1:gb<w1.heap.size:=by omega
  have HWd1:=Zaa (HWd.out w1 h1a h1c hEw1 (Zbe hr1 (Nat.zero_le _)))
  have HE1:=Zaa hE1
  have HEw1:=Zaa hEw1
  clear hr1 hE1 hEw1 HR x0 HWd hW
  go_wp2_with fail
  refine HWd1.out.mono ?_
  rintro e w2 ⟨hE2,sx,sn,sc,q,rfl,hout⟩
  obtain ⟨c0,c1,c2,c3,c4,c5,c6,c7,c8⟩:=HB.out w2 (HE1.out.trans (hE2.mono hz1))
  have hz2:=hE2.size
  have r0:=Zab c7 0 _ rfl
  have r1:=Zab c7 1 _ rfl
  have r2:=Zab c7 2 _ rfl
  have r3:=Zab c7 3 _ rfl
  have rf:=fun i=>Zae c7 i
  have hEw2:Ext w w2:=HEw1.out.trans (hE2.mono (by omega))
  have k0:w.heap.size<w2.heap.size:=by omega
  have k1:w.heap.size+1<w2.heap.size:=by omega
  have HE2:=Zaa hE2
  have HEw2:=Zaa hEw2
  have Hc7:=Zaa c7
  clear hE2 hEw2 x1 HWd1 c7
  rcases hout with ⟨rfl,hno⟩ | ⟨rfl,hva⟩ | ⟨rfl,ts,tvs,hts,hmg,hsm,htl,ht30⟩
  ·have Hno:Hid (Out n c k 0 n):=⟨g,gs,Hgo.out,Or.inl ⟨rfl,by rw [← HHD.out]; exact hno⟩⟩
   clear hno
   go_wp2
   refine bodyPost_ret (v := .tuple #[.agg #[.slice none 0 0,.slice none 0 0,.slice none 0 0,.int .i64 0],.int .i64 0]) (by simp [results,Tryz.results97,go_sem,r0,r1,r2,r3,rf,c8]) rfl ?_
   refine ⟨(hset.out w2 (.slice none 0 0) (.slice none 0 0) (.slice none 0 0) (.int .i64 0) HEw2.out).alloc (by simp; omega) _,none,0,0,none,0,0,none,0,0,0,0,rfl,Or.inl ⟨rfl,Or.inr Hno.out⟩⟩
  ·have Hva:Hid (∃ ch,Out n c k 3 ch):=⟨n,g,gs,Hgo.out,Or.inr (Or.inl ⟨rfl,by rw [← HHD.out]; exact hva⟩)⟩
   clear hva
   go_wp2
   refine bodyPost_ret (v := .tuple #[.agg #[.slice none 0 0,.slice none 0 0,.slice none 0 0,.int .i64 0],.int .i64 2]) (by simp [results,Tryz.results97,go_sem,r0,r1,r2,r3,rf,c8]) rfl ?_
   refine ⟨(hset.out w2 (.slice none 0 0) (.slice none 0 0) (.slice none 0 0) (.int .i64 0) HEw2.out).alloc (by simp; omega) _,none,0,0,none,0,0,none,0,0,0,2,rfl,Or.inr (Or.inl ⟨rfl,Hva.out⟩)⟩
  ·rw [HHD.out] at hmg
   have Hmg:=Zaa hmg
   have Hts:=Zaa hts
   have Ht30:=Zaa ht30
   have Hsm:=Zaa hsm
   clear hmg hts ht30 hsm
   by_cases hmany:40<c.body.length+gs.length∨100<n.used.length+1
   ·have Hk:Hid (∃ ch,Out n c k 3 ch):=⟨_,g,gs,Hgo.out,Or.inr (Or.inr ⟨sbOf ts,Hmg.out,Hsm.out,(Zyj k hmany).symm,rfl⟩)⟩
    have hgl':gl=gs.length+1:=by rw [Hgl.out,Hgn.out]
    have hdu:=Hn.out.dl
    by_cases h40:40<c.body.length+gs.length
    ·have hi:(40:Int)<(c.body.length:Int)+(gl:Int) - 1:=by omega
     clear hmany h40 hgl' hdu
     go_wp2
     refine bodyPost_ret (v := .tuple #[.agg #[.slice none 0 0,.slice none 0 0,.slice none 0 0,.int .i64 0],.int .i64 2]) (by simp [results,Tryz.results97,go_sem,r0,r1,r2,r3,rf,c8]) rfl ?_
     exact ⟨(hset.out w2 (.slice none 0 0) (.slice none 0 0) (.slice none 0 0) (.int .i64 0) HEw2.out).alloc (by simp; omega) _,none,0,0,none,0,0,none,0,0,0,2,rfl,Or.inr (Or.inl ⟨rfl,Hk.out⟩)⟩
    ·have hi:¬ ((40:Int)<(c.body.length:Int)+(gl:Int) - 1):=by omega
     have hi2:(100:Int)<(n.done.length:Int)+1:=by omega
     clear hmany h40 hgl' hdu
     go_wp2
     refine bodyPost_ret (v := .tuple #[.agg #[.slice none 0 0,.slice none 0 0,.slice none 0 0,.int .i64 0],.int .i64 2]) (by simp [results,Tryz.results97,go_sem,r0,r1,r2,r3,rf,c8]) rfl ?_
     exact ⟨(hset.out w2 (.slice none 0 0) (.slice none 0 0) (.slice none 0 0) (.int .i64 0) HEw2.out).alloc (by simp; omega) _,none,0,0,none,0,0,none,0,0,0,2,rfl,Or.inr (Or.inl ⟨rfl,Hk.out⟩)⟩
   ·have hgl':gl=gs.length+1:=by rw [Hgl.out,Hgn.out]
    have hdu:=Hn.out.dl
    have hi:¬ ((40:Int)<(c.body.length:Int)+(gl:Int) - 1):=by omega
    have hi2:¬ ((100:Int)<(n.done.length:Int)+1):=by omega
    have hm1:¬ 40<c.body.length+gs.length:=fun h=>hmany (Or.inl h)
    have hm2:¬ 100<n.used.length+1:=fun h=>hmany (Or.inr h)
    obtain ⟨sl,hsl⟩:∃ m,m=sn:=⟨_,rfl⟩
    have hN:NodeIn w (.slice (some ⟨gb,0,none⟩) gl gcap) (.slice va n.vals.length vcap) (.slice ra n.done.length rcap) n:=by rw [Hgl.out]; exact H.out
    have hE3:Ext w (w2.alloc (.cells #[.slice sx sn sc] 216)):=HEw2.out.alloc (by omega) _
    have hg3:=(hN.ext hE3).goals
    rw [Hgo.out,List.map_cons] at hg3
    have HBd:=Zaa (Zsm (w2.alloc (.cells #[.slice sx sn sc] 216)) (.slice (some ⟨gb,0,none⟩) gl gcap) (.slice va n.vals.length vcap) (.slice ra n.done.length rcap) (.slice ha c.head.length hcap) (.slice ba c.body.length bcap) (.slice na c.names.length ncap) g.1 (gs.map (·.1)) n.vals (n.done.map (·.1)) c.body c.names n.vars
     hg3 (hN.ext hE3).vals (hN.ext hE3).done ⟨_,_,_,rfl⟩ (Hcl.out.ext hE3).body (Hcl.out.ext hE3).names (by simp; omega) (by simp; omega) (by omega) (by omega) (by omega) (fun l hl=>Znu (Hc.out.wfb l hl) (by have:=Hc.out.bl l hl; omega) (Hc.out.ocb l hl) (by have:=Hc.out.n; omega)))
    have HN:=Zaa hN
    have HE3:=Zaa hE3
    clear hgl' hdu hmany hsl hN hE3 hg3
    go_wp2_with fail
    refine HBd.out.mono ?_
    rintro e w4 ⟨hE4,b1,b2,d1,d2,rfl,hbg,hbr⟩
    obtain ⟨G2,hG2⟩:∃ l,l=c.body.map (fun l=>l.map (rn n.vars))++gs.map (·.1):=⟨_,rfl⟩
    obtain ⟨R2,hR2⟩:∃ l,l=n.done.map (·.1)++[g.1]:=⟨_,rfl⟩
    rw [← hG2] at hbg ⊢
    rw [← hR2] at hbr ⊢
    have hG2l:G2.length≤1000:=by rw [hG2]; simp; omega
    have hR2l:R2.length≤1000:=by rw [hR2]; simp; omega
    have hok:∀ l ∈ G2++(n.vals++R2),TmOk l:=fun l hl=>by
     rcases List.mem_append.1 hl with hl | hl
     ·rw [hG2] at hl
      rcases List.mem_append.1 hl with hl | hl
      ·obtain ⟨m,hm,rfl⟩:=List.mem_map.1 hl
       exact TmOk.rn (Hc.out.wfb m hm) (by have:=Hc.out.bl m hm; omega) (Hc.out.ocb m hm) (by have:=Hc.out.n; omega)
      ·obtain ⟨m,hm,rfl⟩:=List.mem_map.1 hl
       have hmt:m.1 ∈ n.terms:=by unfold ND.terms; rw [Hgo.out]; exact List.mem_append_left _ (List.mem_map.2 ⟨m,by simp [hm],rfl⟩)
       exact Znu (Hn.out.wf _ hmt) (by have:=(Hn.out.gs m (by rw [Hgo.out]; simp [hm])).1; omega) (Hn.out.occ _ hmt) (by omega)
     ·rcases List.mem_append.1 hl with hl | hl
      ·have hmt:l ∈ n.terms:=by unfold ND.terms; simp [hl]
       exact Znu (Hn.out.wf _ hmt) (by have:=Hn.out.vsize hl; omega) (Hn.out.occ _ hmt) (by omega)
      ·rw [hR2] at hl
       rcases List.mem_append.1 hl with hl | hl
       ·obtain ⟨m,hm,rfl⟩:=List.mem_map.1 hl
        have hmt:m.1 ∈ n.terms:=by unfold ND.terms; exact List.mem_append_right _ (List.mem_append_right _ (List.mem_map.2 ⟨m,hm,rfl⟩))
        exact Znu (Hn.out.wf _ hmt) (by have:=(Hn.out.ds m hm).1; omega) (Hn.out.occ _ hmt) (by omega)
       ·simp at hl
        subst hl
        have hmt:g.1 ∈ n.terms:=by unfold ND.terms; rw [Hgo.out]; simp
        exact Znu (Hn.out.wf _ hmt) (by have:=Hg30.out; omega) (Hn.out.occ _ hmt) (by omega)
    have hz4:=hE4.size
    have hz4:w2.heap.size+1≤w4.heap.size:=by simpa using hz4
    have hsb:w4.heap[w2.heap.size]?=some (.cells #[.slice sx sn sc] 216 (0,0)):=(hE4.block _ (by simp)).trans (heap_alloc_new w2 _)
    have sb0:=Zab hsb 0 _ rfl
    have hE24:Ext w2 w4:=(show Ext w2 (w2.alloc (.cells #[.slice sx sn sc] 216)) from (Ext.of (by repeat' (first | with_reducible exact Kept.refl _ _ | with_reducible apply Kept.drew | with_reducible apply Kept.drewN | with_reducible apply Kept.alloc | with_reducible refine Kept.setCell ?_ ?_ _ | exact fun h=>absurd h (by simp <;> omega))))).trans (hE4.mono (by simp))
    have hEw4:Ext w w4:=HEw2.out.trans (hE24.mono (by omega))
    have c74:NB w4 (w.heap.size+2) (.slice none 0 0) (.slice none 0 0) (.slice none 0 0) 0:=(hE24.block _ c8).trans Hc7.out
    have hE45:∀ o,Ext w4 (w4.alloc o):=fun o=>(Ext.of (by repeat' (first | with_reducible exact Kept.refl _ _ | with_reducible apply Kept.drew | with_reducible apply Kept.drewN | with_reducible apply Kept.alloc | with_reducible refine Kept.setCell ?_ ?_ _ | exact fun h=>absurd h (by simp <;> omega))))
    have HWt:Hid (∀ o,Calls Tryz.prog 129 #[.agg #[.slice b1 G2.length b2,.slice va n.vals.length vcap,.slice d1 R2.length d2,.int .i64 ((n.vars+c.names.length:Nat):Int)],.agg #[.slice sx sn sc]] (w4.alloc o) (WithOut ts G2 n.vals R2 (n.vars+c.names.length) (w4.alloc o))):=fun o =>
     Zqm (w4.alloc o) (.slice sx sn sc) _ _ _ ts G2 n.vals R2 tvs (n.vars+c.names.length) ((Hts.out.ext hE24).ext (hE45 o)) (hbg.ext (hE45 o)) ((HN.out.vals.ext hEw4).ext (hE45 o)) (hbr.ext (hE45 o)) htl Ht30.out (by omega) (by have:=Hn.out.vl; omega) (by omega) hok (by omega)
    have HEw4:=Zaa hEw4
    have Hc74:=Zaa c74
    have HG2:=Zaa hG2
    have HR2:=Zaa hR2
    have k4:w.heap.size+2<w4.heap.size:=by omega
    have k5:w2.heap.size<w4.heap.size:=by omega
    clear hE4 hbg hbr hok hsb hE24 hEw4 c74 hE45 hG2 hR2 HBd
    go_wp2_with fail
    refine (HWt.out _).mono ?_
    rintro e w6 ⟨hE6,hout⟩
    have hz6:=hE6.size
    have hz6:w4.heap.size+1≤w6.heap.size:=by simpa using hz6
    have hE46:Ext w4 w6:=(Below.refl _ w4 |>.alloc (Nat.le_refl _) _).trans (hE6.mono (by simp))
    have hEw6:Ext w w6:=HEw4.out.trans (hE46.mono (by omega))
    have c76:NB w6 (w.heap.size+2) (.slice none 0 0) (.slice none 0 0) (.slice none 0 0) 0:=(hE46.block _ k4).trans Hc74.out
    have r0:=Zab c76 0 _ rfl
    have r1:=Zab c76 1 _ rfl
    have r2:=Zab c76 2 _ rfl
    have r3:=Zab c76 3 _ rfl
    have rf:=fun i=>Zae c76 i
    have k6:w.heap.size+2<w6.heap.size:=by omega
    have HEw6:=Zaa hEw6
    have Hc76:=Zaa c76
    clear hE6 hE46 hEw6 c76 HWt
    rcases hout with ⟨hsmall,g1,g2,g3,v1,v2,v3,q1,q2,q3,rfl,t1,t2,t3⟩ | ⟨⟨l,hl,hbig⟩,rfl⟩
    ·have hkind:=Zul (k:=k) (g:=g) (gs:=gs) Hc.out (σ:=sbOf ts) hm1 hm2 (by rw [← HG2.out,← HR2.out]; exact hsmall)
     have hK2:∀ x0 x1 x2 x3,Kept (fun j=>j=w.heap.size+2) w6 ((((w6.setCell ⟨w.heap.size+2,0,none⟩ x0).setCell ⟨w.heap.size+2,1,none⟩ x1).setCell ⟨w.heap.size+2,2,none⟩ x2).setCell ⟨w.heap.size+2,3,none⟩ x3):=fun x0 x1 x2 x3=>((((Kept.refl (only (w.heap.size+2)) w6).put 0 _).put 1 _).put 2 _).put 3 _
     have hout:TryOut n c k w (.returned (.tuple #[.agg #[.slice g1 g2 g3,.slice v1 v2 v3,.slice q1 q2 q3,.int .i64 ((n.vars+c.names.length:Nat):Int)],.int .i64 1])) ((((w6.setCell ⟨w.heap.size+2,0,none⟩ (.slice g1 g2 g3)).setCell ⟨w.heap.size+2,1,none⟩ (.slice v1 v2 v3)).setCell ⟨w.heap.size+2,2,none⟩ (.slice q1 q2 q3)).setCell ⟨w.heap.size+2,3,none⟩ (.int .i64 ((n.vars+c.names.length:Nat):Int))):=by
      refine ⟨hset.out w6 _ _ _ _ HEw6.out,g1,g2,g3,v1,v2,v3,q1,q2,q3,n.vars+c.names.length,1,rfl,Or.inr (Or.inr ⟨rfl,Zao (sbOf ts) n c k g gs,Zde (Zao (sbOf ts) n c k g gs),hkind,⟨g,gs,Hgo.out,Or.inr (Or.inr ⟨sbOf ts,Hmg.out,Hsm.out,rfl,rfl⟩)⟩,⟨?_,?_,?_⟩,rfl,?_⟩)⟩
      ·rw [Zhi _ _ _ Hc.out,← HG2.out]; exact (t1.box Hc76.out (by decide) (by decide) (hK2 _ _ _ _)).mono (by simp; omega)
      ·exact (t2.box Hc76.out (by decide) (by decide) (hK2 _ _ _ _)).mono (by simp; omega)
      ·rw [Zkz,← HR2.out]; exact (t3.box Hc76.out (by decide) (by decide) (hK2 _ _ _ _)).mono (by simp; omega)
      ·obtain ⟨za,zc,ze⟩:=t1.inn.shape
       simp only [Value.slice.injEq] at ze
       rw [ze.2.1,HG2.out,← Zhi (sbOf ts) n c Hc.out k g gs,List.length_map]
     have Hout:=Zaa hout
     clear hout hsmall hkind hK2 t1 t2 t3
     go_wp2
     refine bodyPost_ret (v := .tuple #[.agg #[.slice g1 g2 g3,.slice v1 v2 v3,.slice q1 q2 q3,.int .i64 ((n.vars+c.names.length:Nat):Int)],.int .i64 1]) (by simp [results,Tryz.results97,go_sem,r0,r1,r2,r3,rf,k6]) rfl ?_
     exact Hout.out
    ·have Hk:Hid (∃ ch,Out n c k 3 ch):=⟨_,g,gs,Hgo.out,Or.inr (Or.inr ⟨sbOf ts,Hmg.out,Hsm.out,(child_big Hn.out Hc.out k Hgo.out Hmg.out (by rw [← HG2.out,← HR2.out]; exact hl) hbig).symm,rfl⟩)⟩
     clear hl hbig
     go_wp2
     refine bodyPost_ret (v := .tuple #[.agg #[.slice none 0 0,.slice none 0 0,.slice none 0 0,.int .i64 0],.int .i64 2]) (by simp [results,Tryz.results97,go_sem,r0,r1,r2,r3,rf,k6]) rfl ?_
     exact ⟨hset.out w6 _ _ _ _ HEw6.out,none,0,0,none,0,0,none,0,0,0,2,rfl,Or.inr (Or.inl ⟨rfl,Hk.out⟩)⟩
def Zla:ByteArray:=⟨#[48,49,50,51,52,53,54,55,56,57]⟩
theorem Ziu (c:UInt8):inB c Zla=figB c:=by
 have:=Zei (p:=fun c=>inB c Zla == figB c) (by decide +kernel) c
 simpa using this
theorem Zfb {c:UInt8} (h:figB c=true):48≤c.toNat∧c.toNat≤57:=by simpa [figB] using h
theorem Zlk (s:ByteArray) (p:Nat) (h:¬ p<s.size):Zbi (s.data.toList.drop p)=(0,0):=by rw [Zen s p h]; rfl
theorem Znc (s:ByteArray) (p:Nat) (h:p<s.size) (hf:figB s[p]=false):Zbi (s.data.toList.drop p)=(0,0):=by
 rw [Zcr s p h]; simp [Zbi,hf]
theorem Zll (s:ByteArray) (p:Nat) (h:p<s.size) (hf:figB s[p]=true) (h0:s[p].toNat - 48=0):Zbi (s.data.toList.drop p)=(s[p].toNat - 48,1):=by
 have:=Zfb hf
 rw [Zcr s p h]; simp [Zbi,hf,show s[p].toNat=48 by omega]
theorem Znd (s:ByteArray) (p:Nat) (h:p<s.size) (hf:figB s[p]=true) (h1:¬ p+1<s.size):Zbi (s.data.toList.drop p)=(s[p].toNat - 48,1):=by
 rw [Zcr s p h,Zen s (p+1) h1]
 simp only [Zbi,hf,if_true]
 split
 ·rename_i h0; rw [h0]
 ·rfl
theorem Zlm (s:ByteArray) (p:Nat) (h:p<s.size) (hf:figB s[p]=true) (h1:p+1<s.size) (hf1:figB s[p+1]=false):Zbi (s.data.toList.drop p)=(s[p].toNat - 48,1):=by
 rw [Zcr s p h,Zcr s (p+1) h1]
 simp only [Zbi,hf,hf1,if_true]
 split
 ·rename_i h0; rw [h0]
 ·simp
theorem Zne (s:ByteArray) (p:Nat) (h:p<s.size) (hf:figB s[p]=true) (h0:¬ s[p].toNat - 48=0) (h1:p+1<s.size) (hf1:figB s[p+1]=true):Zbi (s.data.toList.drop p)=(10 * (s[p].toNat - 48)+(s[p+1].toNat - 48),2):=by
 rw [Zcr s p h,Zcr s (p+1) h1]
 simp only [Zbi,hf,hf1,if_true]
 rw [if_neg (by omega)]
set_option maxRecDepth 10000 in
set_option maxHeartbeats 2000000 in
theorem Zum (s:ByteArray) (p:Nat) (w:World) (hs:s.size≤100000) (hp:p≤100001) :
  Calls Tryz.prog 151 #[.string s,.int .i64 p] w fun e w'=>e = .returned (.tuple #[.int .i64 (Zbi (s.data.toList.drop p)).1,.int .i64 (Zbi (s.data.toList.drop p)).2])∧w'=w:=by
 obtain ⟨r,hr⟩:∃ r,r=Zbi (s.data.toList.drop p):=⟨_,rfl⟩
 rw [← hr]
 have Hr:=Zaa hr
 clear hr
 go_enter Tryz.func151,Tryz.ntmps151
 go_wp2
 go_loopg [6,7] 4 (fun gk nv zv wr=>∃ (m c:Nat),nv = .int .i64 m∧zv = .int .i64 c∧c≤2∧2 - c<gk∧wr=w ∧
  ((c=0∧m=0)∨(c=1∧∃ h:p<s.size,figB s[p]=true∧m=s[p].toNat - 48)∨(c=2∧r=(m,2))))
 case atStart=>exact ⟨0,0,by go_num,by go_num,by omega,by omega,rfl,Or.inl ⟨rfl,rfl⟩⟩
 case round =>
  obtain ⟨m,c,rfl,rfl,hc,hgk,rfl,h⟩:=hrel
  rcases h with ⟨rfl,rfl⟩ | ⟨rfl,hlt,hf,hm⟩ | ⟨rfl,hr⟩
  ·by_cases hlt:p<s.size
   ·cases hf:figB s[p] with
    | false =>
     have HI:Hid _:=Zaa (Zcz s[p] Zla wr (by decide))
     have hv:=HI.out
     rw [Ziu,hf] at hv
     have HV:=Zaa hv
     have Hrr:Hid (r=(0,0)):=Hr.out.trans (Znc s p hlt hf)
     clear hv HI hf
     go_wp2_with (go_at_call 175; refine HV.out.mono ?_; rintro e w' ⟨rfl,rfl⟩)
     go_ret2
     rw [Hrr.out]
     exact ⟨rfl,rfl⟩
    | true =>
     have hv:=Zcz s[p] Zla wr (by decide)
     rw [Ziu,hf] at hv
     have HV:=Zaa hv
     obtain ⟨f1,f2⟩:=Zfb hf
     have Hf:=Zaa hf
     clear hv hf
     go_wp2_with (go_at_call 175; refine HV.out.mono ?_; rintro e w' ⟨rfl,rfl⟩)
     go_roundg 2
     case measure=>omega
     case rel=>exact ⟨s[p].toNat - 48,1,by simp; omega,by go_num,by omega,by omega,rfl,Or.inr (Or.inl ⟨rfl,hlt,Hf.out,rfl⟩)⟩
   ·have Hrr:Hid (r=(0,0)):=Hr.out.trans (Zlk s p hlt)
    go_wp2
    go_ret2
    rw [Hrr.out]
    exact ⟨rfl,rfl⟩
  ·obtain ⟨f1,f2⟩:=Zfb hf
   by_cases hlt1:p+1<s.size
   ·cases hf1:figB s[p+1] with
    | false =>
     have hv:=Zcz s[p+1] Zla wr (by decide)
     rw [Ziu,hf1] at hv
     have HV:=Zaa hv
     have Hrr:Hid (r=(m,1)):=by show _=_; rw [Hr.out,Zlm s p hlt hf hlt1 hf1,hm]
     clear hv hf1 hm hf
     go_wp2_with (go_at_call 175; refine HV.out.mono ?_; rintro e w' ⟨rfl,rfl⟩)
     go_ret2
     rw [Hrr.out]
     exact ⟨rfl,rfl⟩
    | true =>
     have hv:=Zcz s[p+1] Zla wr (by decide)
     rw [Ziu,hf1] at hv
     have HV:=Zaa hv
     obtain ⟨f3,f4⟩:=Zfb hf1
     by_cases h0:m=0
     ·have Hrr:Hid (r=(m,1)):=by show _=_; rw [Hr.out,Zll s p hlt hf (by omega),hm]
      subst h0
      clear hv hf1 hm hf
      go_wp2_with (go_at_call 175; refine HV.out.mono ?_; rintro e w' ⟨rfl,rfl⟩)
      go_ret2
      rw [Hrr.out]
      exact ⟨rfl,rfl⟩
     ·have Hrr:Hid (r=(10 * m+(s[p+1].toNat - 48),2)):=by show _=_; rw [Hr.out,Zne s p hlt hf (by omega) hlt1 hf1,hm]
      have hmi:((m:Int) == 0)=false:=by rw [beq_eq_false_iff_ne]; omega
      have hm9:m≤9:=by omega
      clear hv hf1 hm hf
      go_wp2_with (go_at_call 175; refine HV.out.mono ?_; rintro e w' ⟨rfl,rfl⟩)
      go_roundg 1
      case measure=>omega
      case rel=>exact ⟨10 * m+(s[p+1].toNat - 48),2,by simp; omega,by go_num,by omega,by omega,rfl,Or.inr (Or.inr ⟨rfl,Hrr.out⟩)⟩
   ·have Hrr:Hid (r=(m,1)):=by show _=_; rw [Hr.out,Znd s p hlt hf hlt1,hm]
    clear hf hm
    go_wp2
    go_ret2
    rw [Hrr.out]
    exact ⟨rfl,rfl⟩
  ·have Hrr:=Zaa hr
   clear hr
   by_cases hlt2:p+2<s.size
   ·go_wp2
    go_ret2
    rw [Hrr.out]
    exact ⟨rfl,rfl⟩
   ·go_wp2
    go_ret2
    rw [Hrr.out]
    exact ⟨rfl,rfl⟩
theorem owns_one (w:World) (v:Value) (e:TypeId):(w.alloc (.cells #[v] e)).ownsRow w.heap.size e 1 (.slice (some ⟨w.heap.size,0,none⟩) 1 1) 1 [v] :=
 ⟨rfl,Or.inr ⟨_,1,#[v],rfl,Nat.le_refl _,heap_alloc_new w _,Nat.le_refl _,by unfold maxLen; omega,rfl,rfl⟩⟩
def Zeu (f:Nat) (l:List UInt8) (p:Nat) (acc:List Nat):Option (List Nat) × Nat :=
 match l with
 | []=>(some acc,0)
 | c::r=>if c=46 then Zff f r (p+1) acc else (none,p)
theorem Zhj (f:Nat) (l:List UInt8) (p:Nat) (acc:List Nat) (h:(Zbi l).2≠0):Zff (f+1) l p acc=Zeu f (l.drop (Zbi l).2) (p+(Zbi l).2) (acc++[(Zbi l).1]):=by
 rw [Zff,if_neg h]; rfl
theorem Zhk (f:Nat) (l:List UInt8) (p:Nat) (acc:List Nat) (h:(Zbi l).2=0):Zff (f+1) l p acc=(none,p):=by
 rw [Zff,if_pos h]
def Zyk (s:ByteArray) (e:Ending) (w':World):Prop :=
 (∃ ks lv,Zby s=(some ks,0)∧e = .returned (.tuple #[lv,.int .i64 (-1)])∧w'.ownsRow 0 3 1 lv ks.length (ints ks)∧ks.length≤400∧∀ k ∈ ks,k≤99)∨(∃ pl:Nat,Zby s=(none,pl)∧e = .returned (.tuple #[.slice none 0 0,.int .i64 pl]))
set_option maxRecDepth 10000 in
set_option maxHeartbeats 2000000 in
theorem Zun (s:ByteArray) (w:World) (hs:s.size≤400):Calls Tryz.prog 150 #[.string s] w fun e w'=>Ext w w'∧Zyk s e w':=by
 have hsl:s.data.toList.length=s.size:=by simp
 have HN:=Zaa (fun p u (hp:p≤401)=>Zum s p u (by omega) (by omega))
 obtain ⟨m,z,hmz⟩:∃ m z,Zbi s.data.toList=(m,z):=⟨_,_,rfl⟩
 have hsz:=Zhf s.data.toList
 rw [hmz] at hsz
 simp only at hsz
 have h0:=HN.out 0 w (by omega)
 rw [List.drop_zero,hmz] at h0
 have H0:=Zaa h0
 have Hmz:=Zaa hmz
 clear h0 hmz
 by_cases hz:z=0
 ·have Hnum:Hid (Zby s=(none,0)):=by
   show _=_
   rw [Zby,Zhk _ _ _ _ (by rw [Hmz.out]; exact hz)]
  subst hz
  go_enter Tryz.func150,Tryz.ntmps150
  go_wp2_with fail
  refine H0.out.mono ?_
  rintro e w' ⟨rfl,rfl⟩
  go_wp2
  go_ret2
  exact ⟨Below.refl _ _,Or.inr ⟨0,Hnum.out,rfl⟩⟩
 ·have Hnum:Hid (Zby s=Zeu s.size (s.data.toList.drop z) z [m]):=by
   show _=_
   rw [Zby,Zhj _ _ _ _ (by rw [Hmz.out]; exact hz),Hmz.out]
   simp
  have hz':(((z:Nat):Int) == 0)=false:=by rw [beq_eq_false_iff_ne]; omega
  go_enter Tryz.func150,Tryz.ntmps150
  go_wp2_with fail
  refine H0.out.mono ?_
  rintro e w' ⟨rfl,rfl⟩
  go_wp2
  go_loopg [6,7] (s.size+1) (fun gk lv av wr=>∃ (p f:Nat) (acc:List Nat),av = .int .i64 p∧p≤s.size∧s.size - p<gk∧s.size - p≤f∧Zby s=Zeu f (s.data.toList.drop p) p acc∧acc.length≤p∧(∀ k ∈ acc,k≤99)∧Ext w' wr∧wr.ownsRow w'.heap.size 3 1 lv acc.length (ints acc))
  case atStart=>exact ⟨z,s.size,[m],by go_num,by omega,by omega,by omega,Hnum.out,by simp; omega,by simp; omega,(Ext.of (by repeat' (first | with_reducible exact Kept.refl _ _ | with_reducible apply Kept.drew | with_reducible apply Kept.drewN | with_reducible apply Kept.alloc | with_reducible refine Kept.setCell ?_ ?_ _ | exact fun h=>absurd h (by simp <;> omega)))),owns_one w' _ _⟩
  case round =>
   obtain ⟨p,f,acc,rfl,hp,hgk,hf,hnum,hal,ha9,hext,hown⟩:=hrel
   obtain ⟨la,lcap,rfl⟩:=Zad hown
   have hsr:=hext.size
   have Hnm:=Zaa hnum
   have Hext:=Zaa hext
   have Hown:=Zaa hown
   have Ha9:=Zaa ha9
   clear hnum hext hown ha9
   by_cases hlt:p<s.size
   ·have hd:=Zcr s p hlt
    by_cases hc:s[p]=46
    ·have hcb:((s[p].toNat:Int) != 46)=false:=by rw [hc]; rfl
     obtain ⟨f',rfl⟩:∃ f',f=f'+1:=⟨f - 1,by omega⟩
     obtain ⟨m2,z2,hmz2⟩:∃ m z,Zbi (s.data.toList.drop (p+1))=(m,z):=⟨_,_,rfl⟩
     have hsz2:=Zhf (s.data.toList.drop (p+1))
     rw [hmz2] at hsz2
     simp only [List.length_drop] at hsz2
     have h1:=HN.out (p+1) wr (by omega)
     rw [hmz2] at h1
     have H1:=Zaa h1
     have Hnm2:Hid (Zby s=Zff (f'+1) (s.data.toList.drop (p+1)) (p+1) acc):=by
      show _=_
      rw [Hnm.out,hd]
      simp [Zeu,hc]
     have Hmz2:=Zaa hmz2
     have Hc:=Zaa hc
     clear h1 hmz2 hd hc
     by_cases hz2:z2=0
     ·have Hr:Hid (Zby s=(none,p+1)):=by
       show _=_
       rw [Hnm2.out,Zhk _ _ _ _ (by rw [Hmz2.out]; exact hz2)]
      subst hz2
      go_wp2_with fail
      refine H1.out.mono ?_
      rintro e w2 ⟨rfl,rfl⟩
      go_wp2
      go_ret2
      exact ⟨Hext.out,Or.inr ⟨p+1,Hr.out,by simp⟩⟩
     ·have Hr:Hid (Zby s=Zeu f' (s.data.toList.drop (p+1+z2)) (p+1+z2) (acc++[m2])):=by
       show _=_
       rw [Hnm2.out,Zhj _ _ _ _ (by rw [Hmz2.out]; exact hz2),Hmz2.out,List.drop_drop]
      have hz2':(((z2:Nat):Int) == 0)=false:=by rw [beq_eq_false_iff_ne]; omega
      go_wp2_with fail
      refine H1.out.mono ?_
      rintro e w2 ⟨rfl,rfl⟩
      go_wp2_with (at_builtin; refine Zaj _ rfl (.tmp 38) (.tmp 40) 25 rfl w'.heap.size 3 Tryz.infoInt Tryz.underlying25 rfl (by decide) _ acc.length (ints acc) rfl Hown.out _ rfl rfl rfl (Zfm _) ?_ ?_ ?_)
      ·omega
      ·omega
      intro v' w3 hap
      obtain ⟨v1a,v1cap,rfl⟩:=Zad hap.owns
      have Hap:=Zaa hap
      clear hap
      go_wp2
      go_roundg (s.size - p)
      case measure=>omega
      case rel =>
       refine ⟨p+1+z2,f',acc++[m2],by go_num,by omega,by omega,by omega,Hr.out,by simp; omega,fun k hk => ?_,?_,?_⟩
       ·rcases List.mem_append.1 hk with hk | hk
        ·exact Ha9.out k hk
        ·simp at hk; subst hk; omega
       ·exact Hext.out.trans (Hap.out.kept.below hsr (fun i e=>(Hown.out.lt i e).1))
       ·have:=Hap.out.owns
        simpa [ints] using this
    ·have hcb:((s[p].toNat:Int) != 46)=true:=by
      rw [bne_iff_ne]
      intro e
      apply hc
      apply UInt8.toNat_inj.1
      have:s[p].toNat=46:=by omega
      rw [this]; rfl
     have Hr:Hid (Zby s=(none,p)):=by
      show _=_
      rw [Hnm.out,hd]
      simp [Zeu,hc]
     clear hd hc
     go_wp2
     go_ret2
     exact ⟨Hext.out,Or.inr ⟨p,Hr.out,by simp⟩⟩
   ·have hd:=Zen s p hlt
    have Hr:Hid (Zby s=(some acc,0)):=by
     show _=_
     rw [Hnm.out,hd]
     simp [Zeu]
    clear hd
    go_wp2
    go_ret2
    exact ⟨Hext.out,Or.inl ⟨acc,_,Hr.out,rfl,Zbe Hown.out (Nat.zero_le _),by omega,Ha9.out⟩⟩
def Zlb (s:ByteArray) (p:Nat):Bool:=if h:p<s.size then figB s[p] else false
theorem Zvx {s:ByteArray} {p:Nat} (h:Zlb s p=true):∃ h:p<s.size,figB s[p]=true:=by
 unfold Zlb at h
 split at h
 ·rename_i h1; exact ⟨h1,h⟩
 ·simp at h
set_option maxRecDepth 10000 in
set_option maxHeartbeats 2000000 in
theorem digit_any (s:ByteArray) (p:Nat) (w:World) (hs:s.size≤100000) (hp:p≤100001) :
  Calls Tryz.prog 126 #[.string s,.int .i64 p] w fun e w'=>e = .returned (.bool (Zlb s p))∧w'=w:=by
 have h0:(0:Int)≤(p:Int):=by omega
 by_cases hlt:p<s.size
 ·have hlt':(p:Int)<(s.size:Int):=by omega
  cases hf:figB s[p] with
  | true =>
   obtain ⟨f1,f2⟩:=Zfb hf
   have Hd:Hid (Zlb s p=true):=by show _=_; unfold Zlb; rw [dif_pos hlt]; exact hf
   clear hf
   go_enter Tryz.func126,Tryz.ntmps126
   go_wp2
   go_ret
   rw [Hd.out]
   exact ⟨by simp; omega,rfl⟩
  | false =>
   have Hd:Hid (Zlb s p=false):=by show _=_; unfold Zlb; rw [dif_pos hlt]; exact hf
   have hb:s[p].toNat<48∨57<s[p].toNat:=by
    simp only [figB,decide_eq_false_iff_not] at hf
    omega
   clear hf
   rcases hb with hb | hb
   ·have f1:¬ 48≤s[p].toNat:=by omega
    go_enter Tryz.func126,Tryz.ntmps126
    go_wp2
    go_ret
    rw [Hd.out]
    exact ⟨rfl,rfl⟩
   ·have f1:48≤s[p].toNat:=by omega
    have f2:¬ s[p].toNat≤57:=by omega
    go_enter Tryz.func126,Tryz.ntmps126
    go_wp2
    go_ret
    rw [Hd.out]
    exact ⟨by simp; omega,rfl⟩
 ·have hlt':¬ (p:Int)<(s.size:Int):=by omega
  have Hd:Hid (Zlb s p=false):=by show _=_; unfold Zlb; rw [dif_neg hlt]
  go_enter Tryz.func126,Tryz.ntmps126
  go_wp2
  go_ret
  rw [Hd.out]
  exact ⟨rfl,rfl⟩
set_option maxRecDepth 10000 in
set_option maxHeartbeats 2000000 in
theorem at_any (s:ByteArray) (p:Nat) (w:World) (hs:s.size≤100000) (hp:p≤100000) :
  Calls Tryz.prog 96 #[.string s,.int .i64 p] w fun e w'=>e = .returned (.tuple #[.int .i64 (Zbi (s.data.toList.drop p)).1,.int .i64 ((p+(Zbi (s.data.toList.drop p)).2:Nat):Int)])∧w'=w:=by
 have HD:=Zaa (fun q u (hq:q≤100001)=>digit_any s q u hs hq)
 obtain ⟨r,hr⟩:∃ r,r=Zbi (s.data.toList.drop p):=⟨_,rfl⟩
 rw [← hr]
 have Hr:=Zaa hr
 clear hr
 cases hd:Zlb s p with
 | false =>
  have Hrr:Hid (r=(0,0)):=by
   show _=_
   rw [Hr.out]
   by_cases hlt:p<s.size
   ·refine Znc s p hlt ?_
    unfold Zlb at hd
    rw [dif_pos hlt] at hd
    exact hd
   ·exact Zlk s p hlt
  have H0:=HD.out p w (by omega)
  rw [hd] at H0
  have H0:=Zaa H0
  clear hd
  go_enter Tryz.func96,Tryz.ntmps96
  go_wp2_with fail
  refine H0.out.mono ?_
  rintro e w' ⟨rfl,rfl⟩
  go_wp2
  go_ret2
  rw [Hrr.out]
  exact ⟨by simp,rfl⟩
 | true =>
  obtain ⟨hlt,hf⟩:=Zvx hd
  obtain ⟨f1,f2⟩:=Zfb hf
  have H0:=HD.out p w (by omega)
  rw [hd] at H0
  have H0:=Zaa H0
  have H1:=HD.out (p+1) w (by omega)
  clear hd
  by_cases h0:s[p].toNat - 48=0
  ·have Hrr:Hid (r=(0,1)):=by show _=_; rw [Hr.out,Zll s p hlt hf h0,h0]
   have h48:s[p].toNat=48:=by omega
   clear hf H1
   go_enter Tryz.func96,Tryz.ntmps96
   go_wp2_with fail
   refine H0.out.mono ?_
   rintro e w' ⟨rfl,rfl⟩
   go_wp2
   go_ret2
   rw [Hrr.out]
   exact ⟨by simp [h48],rfl⟩
  ·cases hd1:Zlb s (p+1) with
   | false =>
    have Hrr:Hid (r=(s[p].toNat - 48,1)):=by
     show _=_
     rw [Hr.out]
     by_cases hlt1:p+1<s.size
     ·refine Zlm s p hlt hf hlt1 ?_
      unfold Zlb at hd1
      rw [dif_pos hlt1] at hd1
      exact hd1
     ·exact Znd s p hlt hf hlt1
    rw [hd1] at H1
    have H1:=Zaa H1
    clear hf hd1
    go_enter Tryz.func96,Tryz.ntmps96
    go_wp2_with fail
    refine H0.out.mono ?_
    rintro e w' ⟨rfl,rfl⟩
    go_wp2_with fail
    refine H1.out.mono ?_
    rintro e w' ⟨rfl,rfl⟩
    go_wp2
    go_ret2
    rw [Hrr.out]
    exact ⟨by simp; omega,rfl⟩
   | true =>
    obtain ⟨hlt1,hf1⟩:=Zvx hd1
    obtain ⟨f3,f4⟩:=Zfb hf1
    have Hrr:Hid (r=(10 * (s[p].toNat - 48)+(s[p+1].toNat - 48),2)):=by
     show _=_
     rw [Hr.out]
     exact Zne s p hlt hf h0 hlt1 hf1
    rw [hd1] at H1
    have H1:=Zaa H1
    clear hf hd1 hf1
    go_enter Tryz.func96,Tryz.ntmps96
    go_wp2_with fail
    refine H0.out.mono ?_
    rintro e w' ⟨rfl,rfl⟩
    go_wp2_with fail
    refine H1.out.mono ?_
    rintro e w' ⟨rfl,rfl⟩
    go_wp2
    go_ret2
    rw [Hrr.out]
    exact ⟨by simp; omega,rfl⟩
def CNumsOut (s:ByteArray) (w:World) (e:Ending) (w':World):Prop:=Ext w w' ∧
 ((400<s.size∧e = .returned (.tuple #[.slice none 0 0,.agg #[.int .i64 1,.int .i64 0]]))∨(s.size≤400 ∧
  ((∃ ks a c,Zby s=(some ks,0)∧e = .returned (.tuple #[.slice a ks.length c,.agg #[.int .i64 0,.int .i64 0]])∧w'.ownsRow 0 3 1 (.slice a ks.length c) ks.length (ints ks)∧ks.length≤400∧∀ k ∈ ks,k≤99) ∨
   (∃ pl:Nat,Zby s=(none,pl)∧e = .returned (.tuple #[.slice none 0 0,.agg #[.int .i64 6,.int .i64 pl]])))))
set_option maxRecDepth 10000 in
set_option maxHeartbeats 2000000 in
theorem nums_any (s:ByteArray) (w:World) (hm:s.size≤maxLen):Calls Tryz.prog 67 #[.string s] w (CNumsOut s w):=by
 unfold maxLen at hm
 have hset:Hid (∀ y x0 x1,Ext w y→Ext w ((y.setCell ⟨w.heap.size,0,none⟩ x0).setCell ⟨w.heap.size,1,none⟩ x1)):=fun y x0 x1 hE=>(hE.setCell (p:=⟨w.heap.size,0,none⟩) (Nat.le_refl _) _).setCell (p:=⟨w.heap.size,1,none⟩) (Nat.le_refl _) _
 by_cases hbig:400<s.size
 ·have hb':(400:Int)<(s.size:Int):=by omega
  go_enter Tryz.func67,Tryz.ntmps67
  go_wp2
  refine bodyPost_ret (v := .tuple #[.slice none 0 0,.agg #[.int .i64 1,.int .i64 0]]) (by simp [results,Tryz.results67,go_sem]) rfl ?_
  exact ⟨(Ext.of (by repeat' (first | with_reducible exact Kept.refl _ _ | with_reducible apply Kept.drew | with_reducible apply Kept.drewN | with_reducible apply Kept.alloc | with_reducible refine Kept.setCell ?_ ?_ _ | exact fun h=>absurd h (by simp <;> omega)))),Or.inl ⟨hbig,rfl⟩⟩
 ·have hs:s.size≤400:=by omega
  have hb':¬ ((400:Int)<(s.size:Int)):=by omega
  have hsl:s.data.toList.length=s.size:=by simp
  have HN:=Zaa (fun p u (hp:p≤401)=>at_any s p u (by omega) (by omega))
  go_enter Tryz.func67,Tryz.ntmps67
  go_wp2
  go_loopg [4,5] (s.size+2) (fun gk lv av wr=>∃ (p f:Nat) (acc:List Nat),av = .int .i64 p∧p≤s.size∧s.size+1 - p<gk∧s.size+1 - p≤f∧Zby s=Zff f (s.data.toList.drop p) p acc∧acc.length≤p∧(∀ k ∈ acc,k≤99)∧Ext w wr∧wr.heap[w.heap.size]?=some (.cells #[.int .i64 0,.int .i64 0] 91 (0,0))∧wr.ownsRow w.heap.size 3 1 lv acc.length (ints acc))
  case atStart=>exact ⟨0,s.size+1,[],by go_num,by omega,by omega,by omega,by rw [Zby]; rfl,by simp,by simp,(Ext.of (by repeat' (first | with_reducible exact Kept.refl _ _ | with_reducible apply Kept.drew | with_reducible apply Kept.drewN | with_reducible apply Kept.alloc | with_reducible refine Kept.setCell ?_ ?_ _ | exact fun h=>absurd h (by simp <;> omega)))),heap_alloc_new w _,World.ownsRow_nil _ _ _ _⟩
  case round =>
   obtain ⟨p,f,acc,rfl,hp,hgk,hf,hnum,hal,ha9,hext,hblk,hown⟩:=hrel
   obtain ⟨la,lcap,rfl⟩:=Zad hown
   have hsr:=hext.size
   obtain ⟨hT4,f0,f1,ff⟩:=FaultAt.cells (e:=0) (p:=0) hblk
   obtain ⟨m,z,hmz⟩:∃ m z,Zbi (s.data.toList.drop p)=(m,z):=⟨_,_,rfl⟩
   have hsz:=Zhf (s.data.toList.drop p)
   rw [hmz] at hsz
   simp only [List.length_drop] at hsz
   have h1:=HN.out p wr (by omega)
   rw [hmz] at h1
   have H1:=Zaa h1
   have Hmz:=Zaa hmz
   have Hnm:=Zaa hnum
   have Hext:=Zaa hext
   have Hown:=Zaa hown
   have Hblk:=Zaa hblk
   have Ha9:=Zaa ha9
   clear h1 hmz hnum hext hown hblk ha9
   by_cases hz:z=0
   ·have Hr:Hid (Zby s=(none,p)):=by
     show _=_
     cases f with
     | zero =>
      exfalso; omega
     | succ f=>rw [Hnm.out,Zhk _ _ _ _ (by rw [Hmz.out]; exact hz)]
    subst hz
    go_wp2_with fail
    refine H1.out.mono ?_
    rintro e w2 ⟨rfl,rfl⟩
    go_wp2
    refine bodyPost_ret (v := .tuple #[.slice none 0 0,.agg #[.int .i64 6,.int .i64 p]]) (by simp [results,Tryz.results67,go_sem,f0,f1,ff,hT4]) rfl ?_
    exact ⟨hset.out _ _ _ Hext.out,Or.inr ⟨hs,Or.inr ⟨p,Hr.out,rfl⟩⟩⟩
   ·have hple:p<s.size:=by omega
    obtain ⟨f',rfl⟩:∃ f',f=f'+1:=⟨f - 1,by omega⟩
    have Hr:Hid (Zby s=Zeu f' (s.data.toList.drop (p+z)) (p+z) (acc++[m])):=by
     show _=_
     rw [Hnm.out,Zhj _ _ _ _ (by rw [Hmz.out]; exact hz),Hmz.out,List.drop_drop]
    have hz':(((p+z:Nat):Int) == (p:Int))=false:=by rw [beq_eq_false_iff_ne]; omega
    go_wp2_with fail
    refine H1.out.mono ?_
    rintro e w2 ⟨rfl,rfl⟩
    go_wp2_with (at_builtin; go_loud (refine Zaj _ rfl (.tmp 23) (.tmp 25) 25 rfl w.heap.size 3 Tryz.infoInt Tryz.underlying25 rfl (by decide) (.slice la acc.length lcap) acc.length (ints acc) rfl Hown.out _ rfl rfl rfl (Zfm _) ?_ ?_ ?_))
    ·omega
    ·omega
    intro v' w3 hap
    obtain ⟨v1a,v1cap,rfl⟩:=Zad hap.owns
    have hE3:Ext w w3:=Hext.out.trans (hap.kept.below hsr (fun i e=>(Hown.out.lt i e).1))
    have hb3:=(hap.kept.block _ (Zac Hblk.out) (Zah Hown.out (by decide) Hblk.out)).trans Hblk.out
    obtain ⟨hT5,g0,g1,gf⟩:=FaultAt.cells (e:=0) (p:=0) hb3
    have hrow3:w3.ownsRow w.heap.size 3 1 (.slice v1a (acc.length+1) v1cap) (acc++[m]).length (ints (acc++[m])):=by
     have:=hap.owns
     simpa [ints] using this
    have HE3:=Zaa hE3
    have Hb3:=Zaa hb3
    have Hrow3:=Zaa hrow3
    clear hap hE3 hb3 hrow3 f0 f1 ff hT4
    have h9:Hid (∀ k ∈ acc++[m],k≤99):=fun k hk=>by
     rcases List.mem_append.1 hk with hk | hk
     ·exact Ha9.out k hk
     ·simp at hk; subst hk; omega
    by_cases hlt:p+z<s.size
    ·have hd:=Zcr s (p+z) hlt
     have hlt':¬ ((s.size:Int)≤((p+z:Nat):Int)):=by omega
     by_cases hc:s[p+z]=46
     ·have hcb:((s[p+z].toNat:Int) != 46)=false:=by rw [hc]; rfl
      have Hr2:Hid (Zby s=Zff f' (s.data.toList.drop (p+z+1)) (p+z+1) (acc++[m])):=by
       show _=_
       rw [Hr.out,hd]
       simp [Zeu,hc]
      clear hd hc
      go_wp2
      go_roundg (s.size+1 - p)
      case measure=>omega
      case rel=>exact ⟨p+z+1,f',acc++[m],by go_num,by omega,by omega,by omega,Hr2.out,by simp; omega,h9.out,HE3.out,Hb3.out,by have:=Hrow3.out; simpa using this⟩
     ·have hcb:((s[p+z].toNat:Int) != 46)=true:=by
       rw [bne_iff_ne]
       intro e
       apply hc
       apply UInt8.toNat_inj.1
       have:s[p+z].toNat=46:=by omega
       rw [this]; rfl
      have Hr2:Hid (Zby s=(none,p+z)):=by
       show _=_
       rw [Hr.out,hd]
       simp [Zeu,hc]
      clear hd hc
      go_wp2
      refine bodyPost_ret (v := .tuple #[.slice none 0 0,.agg #[.int .i64 6,.int .i64 ((p+z:Nat):Int)]]) (by simp [results,Tryz.results67,go_sem,g0,g1,gf,hT5]) rfl ?_
      exact ⟨hset.out _ _ _ HE3.out,Or.inr ⟨hs,Or.inr ⟨p+z,Hr2.out,rfl⟩⟩⟩
    ·have hd:=Zen s (p+z) hlt
     have hlt':(s.size:Int)≤((p+z:Nat):Int):=by omega
     have Hr2:Hid (Zby s=(some (acc++[m]),0)):=by
      show _=_
      rw [Hr.out,hd]
      simp [Zeu]
     clear hd
     go_wp2
     refine bodyPost_ret (v := .tuple #[.slice v1a (acc.length+1) v1cap,.agg #[.int .i64 0,.int .i64 0]]) (by simp [results,Tryz.results67,go_sem,g0,g1,gf,hT5]) rfl ?_
     have hK:∀ x0 x1,Kept (fun j=>j=w.heap.size) w3 ((w3.setCell ⟨w.heap.size,0,none⟩ x0).setCell ⟨w.heap.size,1,none⟩ x1):=fun x0 x1=>((Kept.refl (only w.heap.size) w3).put 0 _).put 1 _
     have hrow:=Hrow3.out
     refine ⟨hset.out _ _ _ HE3.out,Or.inr ⟨hs,Or.inl ⟨acc++[m],v1a,v1cap,Hr2.out,by simp,?_,by simp; omega,h9.out⟩⟩⟩
     have hlen:(acc++[m]).length=acc.length+1:=by simp
     rw [hlen] at hrow ⊢
     exact Zbe (Zce hrow Hb3.out (by decide) (hK (.int .i64 0) (.int .i64 0))) (Nat.zero_le _)
def Znf (n:Nat):Prop:=∀ (w:World) (X:Nat→Prop) (a b c:Value) (l:List Sym) (v:Nat),l.length≤n→l.length≤4000→Rep X w a b c l→(∀ k,X k→k<w.heap.size)→v≤1000000→(∀ s ∈ l,s.num≤1000000) →
 Calls Tryz.prog 180 #[.agg #[a,b,c],.int .i64 v] w fun e w'=>∃ a' b' c',e = .returned (.agg #[a',b',c'])∧Ext w w'∧Rep X w' a' b' c' (ap (Zbu v) l)
set_option maxRecDepth 10000 in
set_option maxHeartbeats 1000000 in
theorem Zuo (w:World) (X:Nat→Prop) (n v:Nat) (hn:n≤1000000) (hv:v≤1000000) :
  Calls Tryz.prog 180 #[.agg #[.string ⟨#[]⟩,.int .i64 n,.slice none 0 0],.int .i64 v] w fun e w'=>∃ a' b' c',e = .returned (.agg #[a',b',c'])∧Ext w w'∧Rep X w' a' b' c' (vr (n+v)):=by
 go_enter Tryz.func180,Tryz.ntmps180
 go_wp2
 refine bodyPost_ret (v := .agg #[.string ⟨#[]⟩,.int .i64 ((n+v:Nat):Int),.slice none 0 0]) (by simp [results,Tryz.results180,go_sem]) rfl ?_
 exact ⟨_,_,_,rfl,(Ext.of (by repeat' (first | with_reducible exact Kept.refl _ _ | with_reducible apply Kept.drew | with_reducible apply Kept.drewN | with_reducible apply Kept.alloc | with_reducible refine Kept.setCell ?_ ?_ _ | exact fun h=>absurd h (by simp <;> omega)))),Rep.var _ _ _⟩
set_option maxRecDepth 10000 in
set_option maxHeartbeats 1000000 in
theorem Zsn (n:Nat) (IH:Znf n) (w:World) (X:Nat→Prop) (nm:List UInt8) (hnm:nm≠[]) (c:Value) (ls:List (List Sym)) (xs:List Value) (v:Nat)
  (hrow:RowT X w c ls xs) (hX:∀ k,X k→k<w.heap.size) (hn:ls.flatten.length≤n) (hbig:ls.flatten.length≤3999) (hv:v≤1000000) (hv2:∀ s ∈ ls.flatten,s.num≤1000000) :
  Calls Tryz.prog 180 #[.agg #[.string ⟨nm.toArray⟩,.int .i64 0,c],.int .i64 v] w fun e w'=>∃ a' b' c',e = .returned (.agg #[a',b',c'])∧Ext w w'∧Rep X w' a' b' c' (⟨nm,0,ls.length⟩::ap (Zbu v) ls.flatten):=by
 obtain ⟨ca,ccap,rfl⟩:=Zad hrow.1
 have hwf:=hrow.wf
 have hll:ls.length≤ls.flatten.length:=Zcw (Zdf hwf)
 have he:nm.isEmpty=false:=by simpa using hnm
 have Hrow:=Zaa hrow
 have Hih:=Zaa IH
 have HX:=Zaa hX
 clear hrow IH hX
 go_enter Tryz.func180,Tryz.ntmps180
 go_wp2
 go_loopg [6] (ls.length+1) (fun gk i wr=>∃ (k:Nat) (cv:Value) (ys:List Value),i = .int .i64 k∧k≤ls.length∧ls.length - k<gk∧Ext w wr ∧
   wr.heap[w.heap.size]?=some (.cells #[.string ⟨nm.toArray⟩,.int .i64 0,.slice ca ls.length ccap] 183 (0,0)) ∧
   wr.heap[w.heap.size+1]?=some (.cells #[.string ⟨#[]⟩,.int .i64 0,.slice none 0 0] 183 (0,0)) ∧
   wr.heap[w.heap.size+1+1]?=some (.cells #[.string ⟨nm.toArray⟩,.int .i64 0,cv] 183 (0,0)) ∧
   Acc (boxed X w.heap.size 3) wr (w.heap.size+3) cv k ((ls.take k).map (ap (Zbu v))) ys)
 case atStart =>
  refine ⟨0,.slice none 0 0,[],by go_num,Nat.zero_le _,by omega,(Ext.of (by repeat' (first | with_reducible exact Kept.refl _ _ | with_reducible apply Kept.drew | with_reducible apply Kept.drewN | with_reducible apply Kept.alloc | with_reducible refine Kept.setCell ?_ ?_ _ | exact fun h=>absurd h (by simp <;> omega)))),?_,?_,?_,by simpa using Acc.nil _ _ _⟩
  ·exact Zag (Zag (heap_alloc_new w _) _) _
  ·simpa using Zag (heap_alloc_new (w.alloc _) _) _
  ·simpa using heap_alloc_new ((w.alloc _).alloc _) _
 case round =>
  obtain ⟨k,cv,ys,rfl,hk,hg,hext,h0,h2,h3,hacc⟩:=hrel
  obtain ⟨cva,cvcap,rfl⟩:=Zad hacc.owns
  have hsz:=Zac h3
  obtain ⟨c0,c1,c2,cf⟩:=box3 h0
  have Hext:=Zaa hext
  have H0:=Zaa h0
  have H2:=Zaa h2
  have H3:=Zaa h3
  have Hacc:=Zaa hacc
  clear hext h0 h2 h3 hacc
  by_cases hlt:k<ls.length
  ·obtain ⟨l',hl'⟩:∃ l',ls[k]?=some l':=⟨_,List.getElem?_eq_getElem hlt⟩
   obtain ⟨_,_,hlf,_⟩:=Zjn hl' hwf
   obtain ⟨a',b',c',x0,x1,x2,hrep⟩:=Hrow.out.2.2 k l' hl'
   obtain ⟨s1,n1,c1a,c1l,c1c,rfl,rfl,rfl⟩:=hrep.shape
   have hrow':=Hrow.out.ext (Y:=X) Hext.out (fun _ _ h=>h)
   obtain ⟨g,cap',cur,hge,hBg,hgb,hcp⟩:=Zal hrow'.1 (by omega)
   simp only [Value.slice.injEq] at hge
   obtain ⟨rfl,_,rfl⟩:=hge
   have y0:wr.cell? ⟨g,k * 3,none⟩=some (.string s1):=Zaf hrow'.1 _ _ x0
   have y1:wr.cell? ⟨g,k * 3+1,none⟩=some (.int .i64 n1):=Zaf hrow'.1 _ _ x1
   have y2:wr.cell? ⟨g,k * 3+2,none⟩=some (.slice c1a c1l c1c):=Zaf hrow'.1 _ _ x2
   have hbl:∀ s ∈ l',s.num≤1000000:=fun s hs=>hv2 s (List.mem_flatten.2 ⟨l',List.mem_of_getElem? hl',hs⟩)
   have HI:Hid (∀ Z u,Ext wr u→(∀ k,Z k→wr.heap.size≤k∧k<u.heap.size)→Calls Tryz.prog 180 #[.agg #[.string s1,.int .i64 n1,.slice c1a c1l c1c],.int .i64 v] u fun e u' =>
     ∃ r,e = .returned r∧Ext u u'∧RT (fun j=>boxed X w.heap.size 3 j∨Zbd (.slice cva k cvcap) j) (ap (Zbu v) l') Z r u'):=fun Z u hu hZ=>by
    have hwu:Ext w u:=Hext.out.trans (hu.mono Hext.out.size)
    have hz:=Zrz (X:=X) Hacc.out (fun k h=>(hZ k h).1) Hext.out.size
    refine (Hih.out u _ _ _ _ l' v (by omega) (by omega) (hrep.ext hwu hz) ?_ hv hbl).mono ?_
    ·rintro j (h | h)
     ·exact Nat.lt_of_lt_of_le (Zos Hacc.out HX.out (by omega) j h) hu.size
     ·exact (hZ j h).2
    ·rintro e u' ⟨a,b,c,rfl,he,hr⟩
     exact ⟨_,rfl,he,RT.of hr⟩
   have Htk:Hid ((ls.take (k+1)).map (ap (Zbu v))=(ls.take k).map (ap (Zbu v))++[ap (Zbu v) l']):=by
    show _=_
    rw [List.take_add_one,hl']; simp
   clear hgb hrow' hrep x0 x1 x2 hl'
   go_wp2_with fail
   refine (HI.out (fun _=>False) wr (Ext.of (by repeat' (first | with_reducible exact Kept.refl _ _ | with_reducible apply Kept.drew | with_reducible apply Kept.drewN | with_reducible apply Kept.alloc | with_reducible refine Kept.setCell ?_ ?_ _ | exact fun h=>absurd h (by simp <;> omega)))) (fun _ h=>h.elim)).mono ?_
   rintro e w1 ⟨vc,rfl,hext1,s2,n2,c2a,c2l,c2c,rfl,hrep1⟩
   have h3':=(hext1.block _ hsz).trans H3.out
   have hown1:=(Kept.of_below hext1).owns Hacc.out.owns (fun k hk e=>by have:=(Hacc.out.owns.lt k hk).2; omega)
   have e2:w1.cell? ⟨w.heap.size+1+1,2,none⟩=some (.slice cva k cvcap):=Zab h3' 2 _ rfl
   have hs1:=hext1.size
   have hm1:w.heap.size+1+1<w1.heap.size:=by omega
   have Hown1:=Zaa hown1
   have Hext1:=Zaa hext1
   have Hrep1:=Zaa hrep1
   have H3':=Zaa h3'
   clear hown1 hext1 hrep1 h3'
   go_wp2_with (at_builtin; refine Zaj _ rfl (.tmp 34) (.tmp 36) 146 rfl (w.heap.size+3) 183 Tryz.infoTerm Tryz.underlying146 rfl (by decide) _ k ys rfl (Hown1.out.alloc _) _ rfl (by simp) rfl Zil ?_ ?_ ?_)
   ·omega
   ·simp; omega
   intro cv' w3 hap3
   obtain ⟨c3a,c3cap,rfl⟩:=Zad hap3.owns
   have hnot:¬ Zbd (.slice cva k cvcap) (w.heap.size+1+1):=fun e=>by have:=(Hown1.out.lt _ e).1; omega
   have hblk3:=(hap3.kept.block _ (by simp; omega) hnot).trans (Zag H3'.out _)
   have p2:w3.cell? ⟨w.heap.size+1+1,2,none⟩=some (.slice cva k cvcap):=Zab hblk3 2 _ rfl
   have pf:∀ i,w3.frozen? ⟨w.heap.size+1+1,i,none⟩=false:=fun i=>Zae hblk3 i
   have Hblk3:=Zaa hblk3
   have Hap3:=Zaa hap3
   clear hblk3 hap3 e2
   go_wp2
   go_roundg (ls.length - k)
   case measure=>omega
   case rel =>
    obtain ⟨hacc',hk14⟩:=Hacc.out.step (w4:=w3.setCell ⟨w.heap.size+1+1,2,none⟩ (.slice c3a (k+1) c3cap)) (Hext1.out.alloc Hext1.out.size _) ((Hrep1.out.on (fun j hj hn _=>⟨rfl,fun h=>hn (Or.inl h)⟩)).ext (Ext.of (by repeat' (first | with_reducible exact Kept.refl _ _ | with_reducible apply Kept.drew | with_reducible apply Kept.drewN | with_reducible apply Kept.alloc | with_reducible refine Kept.setCell ?_ ?_ _ | exact fun h=>absurd h (by simp <;> omega)))) (fun _ _ h=>h)) Hap3.out
     (Kept.setCell (Kept.refl _ w3) (p:=⟨w.heap.size+1+1,2,none⟩) (fun _=>Or.inr (by simp only; omega)) _) (Zdy HX.out)
    rw [← Htk.out] at hacc'
    have hkb:=Hap3.out.under (N:=w.heap.size+1+1) (Hext1.out.alloc Hext1.out.size _) (fun j e=>by have:=(Hown1.out.lt j e).1; omega) (by omega) 2 (.slice c3a (k+1) c3cap)
    exact ⟨k+1,_,_,by go_num,by omega,by omega,Hext.out.trans (hkb.mono (by omega)),(hkb.block _ (by omega)).trans H0.out,(hkb.block _ (by omega)).trans H2.out,Zai Hblk3.out 2 _,hacc'⟩
  ·have f0:wr.cell? ⟨w.heap.size+1+1,0,none⟩=some (.string ⟨nm.toArray⟩):=Zab H3.out 0 _ rfl
   have f1:wr.cell? ⟨w.heap.size+1+1,1,none⟩=some (.int .i64 0):=Zab H3.out 1 _ rfl
   have f2:wr.cell? ⟨w.heap.size+1+1,2,none⟩=some (.slice cva k cvcap):=Zab H3.out 2 _ rfl
   obtain ⟨r0,r1,r2,rf⟩:=box3 H2.out
   go_wp2
   refine bodyPost_ret (v := .agg #[.string ⟨nm.toArray⟩,.int .i64 0,.slice cva k cvcap]) (by simp [results,Tryz.results180,go_sem,r0,r1,r2,rf]) rfl ?_
   have hek:k=ls.length:=by omega
   subst hek
   have hkp:=(((Kept.refl (only (w.heap.size+1)) wr).put 0 (.string ⟨nm.toArray⟩)).put 1 (.int .i64 0)).put 2 (.slice cva ls.length cvcap)
   refine ⟨_,_,_,rfl,Hext.out.trans (hkp.below Hext.out.size (fun j e=>by have e:j=w.heap.size+1:=e; omega)),?_⟩
   have hr:=Hacc.out.row (X:=X) (hkp.mono (fun j _ e=>Or.inr (by have e:j=w.heap.size+1:=e; omega))) (fun j h=>Or.inl h) (Zdy HX.out)
   rw [List.take_length] at hr
   have:=Rep.name hnm hr
   rw [← Zfr] at this
   simpa using this
theorem Zng:∀ n,Znf n:=by
 intro n
 induction n with
 | zero =>
  intro w X a b c l v hl _ h
  have:=Zcw (h.wf _ (Nat.le_refl _))
  omega
 | succ n ih =>
  intro w X a b c l v hl hl4 h hX hv hb
  rcases h.out with ⟨k,rfl,rfl,rfl,rfl⟩ | ⟨nm,ls,xs,h1,rfl,rfl,rfl,h5⟩
  ·have e:ap (Zbu v) [⟨[],k,0⟩]=vr (k+v):=Zpp _ _
   rw [e]
   exact Zuo w X k v (hb ⟨[],k,0⟩ (by simp)) hv
  ·have e:ap (Zbu v) (⟨nm,0,ls.length⟩::ls.flatten)=⟨nm,0,ls.length⟩::ap (Zbu v) ls.flatten:=by rw [Zch]; simp [ap1,h1]
   rw [e]
   simp only [List.length_cons] at hl hl4
   exact Zsn n ih w X nm h1 c ls xs v h5 hX (by omega) (by omega) hv (fun s hs=>hb s (by simp [hs]))
structure GoalsIn (X:Nat→Prop) (w:World) (gs:List (List Sym × Nat)) (ys:List Value):Prop where
 len:ys.length=gs.length * 4
 all:∀ (i:Nat) (g:List Sym × Nat),gs[i]?=some g→∃ a b c,ys[i * 4]?=some a∧ys[i * 4+1]?=some b∧ys[i * 4+2]?=some c∧ys[i * 4+3]?=some (.int .i64 g.2)∧Rep X w a b c g.1
theorem GoalsIn.one {X:Nat→Prop} {w:World} {gs:List (List Sym × Nat)} {ys:List Value} (h:GoalsIn X w gs ys):∀ u ∈ ys,u.oneCell'=true:=by
 intro u hu
 obtain ⟨i,hi,rfl⟩:=List.getElem_of_mem hu
 have hl:=h.len
 have hq:i / 4<gs.length:=by omega
 obtain ⟨a,b,c,x0,x1,x2,x3,hr⟩:=h.all (i / 4) _ (List.getElem?_eq_getElem hq)
 obtain ⟨s,n,ca,cl,cc,rfl,rfl,rfl⟩:=hr.shape
 have hs:∀ (j:Nat) (v:Value),ys[j]?=some v→i=j→ys[i]=v:=fun j v hv e=>by subst e; exact (List.getElem?_eq_some_iff.1 hv).2
 have hm:i % 4=0∨i % 4=1∨i % 4=2∨i % 4=3:=by omega
 rcases hm with hm | hm | hm | hm
 ·rw [hs _ _ x0 (by omega)]; rfl
 ·rw [hs _ _ x1 (by omega)]; rfl
 ·rw [hs _ _ x2 (by omega)]; rfl
 ·rw [hs _ _ x3 (by omega)]; rfl
theorem RowG.ins {X:Nat→Prop} {w:World} {B n:Nat} {cv:Value} {gs:List (List Sym × Nat)} {xs:List Value} (h:RowG X w B cv n gs xs):GoalsIn X w gs xs:=⟨by rw [h.owns.1,h.len],h.all⟩
theorem GoalsIn.tail {X:Nat→Prop} {w:World} {g:List Sym × Nat} {gs:List (List Sym × Nat)} {ys:List Value} (h:GoalsIn X w (g::gs) ys):GoalsIn X w gs (ys.drop 4):=by
 have hl:=h.len
 simp only [List.length_cons] at hl
 refine ⟨by simp; omega,fun i g' hg => ?_⟩
 obtain ⟨a,b,c,x0,x1,x2,x3,hr⟩:=h.all (i+1) g' (by simpa using hg)
 have e:∀ j,(ys.drop 4)[i * 4+j]?=ys[(i+1) * 4+j]?:=fun j=>by
  rw [List.getElem?_drop]; congr 1; omega
 refine ⟨a,b,c,?_,?_,?_,?_,hr⟩
 ·have:=e 0; simp only [Nat.add_zero] at this; rw [this]; exact x0
 ·rw [e 1]; exact x1
 ·rw [e 2]; exact x2
 ·rw [e 3]; exact x3
theorem RowG.more {X:Nat→Prop} {w w':World} {B n m:Nat} {cv cv':Value} {gs hs:List (List Sym × Nat)} {xs ys:List Value} (h:RowG X w B cv n gs xs) (hi:GoalsIn X w hs ys) (ha:Appended w B 200 4 cv (n+m) (xs++ys) cv' w') (hm:hs.length=m) :
  RowG X w' B cv' (n+m) (gs++hs) (xs++ys):=by
 have hon:∀ {a b c:Value} {l:List Sym},Rep X w a b c l→Rep X w' a b c l:=fun hr=>hr.on (fun k hk hx ht=>by
  obtain ⟨cur,hc⟩:=ht
  exact ⟨ha.kept.block k hk (Zah h.owns (by decide) hc),hx⟩)
 have hxl:=h.owns.1
 have hL:=h.len
 refine ⟨ha.owns,by simp [hL,hm],fun i s hs' => ?_⟩
 rcases Nat.lt_or_ge i gs.length with hi' | hi'
 ·rw [List.getElem?_append_left hi'] at hs'
  obtain ⟨a',b',c',x0,x1,x2,x3,g⟩:=h.all i s hs'
  refine ⟨a',b',c',?_,?_,?_,?_,hon g⟩
  ·rw [List.getElem?_append_left (by omega)]; exact x0
  ·rw [List.getElem?_append_left (by omega)]; exact x1
  ·rw [List.getElem?_append_left (by omega)]; exact x2
  ·rw [List.getElem?_append_left (by omega)]; exact x3
 ·rw [List.getElem?_append_right hi'] at hs'
  obtain ⟨a',b',c',x0,x1,x2,x3,g⟩:=hi.all (i - gs.length) s hs'
  have e:∀ j,(xs++ys)[i * 4+j]?=ys[(i - gs.length) * 4+j]?:=fun j=>by
   rw [List.getElem?_append_right (by omega)]; congr 1; omega
  refine ⟨a',b',c',?_,?_,?_,?_,hon g⟩
  ·have:=e 0; simp only [Nat.add_zero] at this; rw [this]; exact x0
  ·rw [e 1]; exact x1
  ·rw [e 2]; exact x2
  ·rw [e 3]; exact x3
theorem Zyl {X:Nat→Prop} {w:World} {B ga gcap:Nat} {g:List Sym × Nat} {gs:List (List Sym × Nat)} {xs:List Value} (h:RowG X w B (.slice (some ⟨ga,0,none⟩) (gs.length+1) gcap) (gs.length+1) (g::gs) xs) (c:Nat) :
  Zsj w 4 (.slice (some ⟨ga,4,none⟩) gs.length c) gs.length (xs.drop 4):=by
 have ht:=h.ins.tail
 refine ⟨ht.len,ht.one,Or.inr ⟨⟨ga,4,none⟩,c,rfl,fun j u hu => ?_⟩⟩
 rw [List.getElem?_drop] at hu
 have:=Zaf h.owns (4+j) u hu
 have hadd:(⟨ga,4,none⟩:Addr).add j=⟨ga,4+j,none⟩:=by unfold Addr.add; split <;> simp_all
 rw [hadd]; exact this
end Go.Proofs.YtlmjilpjmgjjcaaGreatDoor
