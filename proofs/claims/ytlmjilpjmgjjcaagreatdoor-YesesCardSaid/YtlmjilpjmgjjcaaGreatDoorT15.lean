/-
  PROVED HERE: the program's own Yes answers as the document does; so the given card of the law 'Yeses' holds.
-/
import Derived.Test.YtlmjilpjmgjjcaaGreatDoorT14
import Derived.Test.YtlmjilpjmgjjcaaGreatDoorCards
import Derived.Test.YtlmjilpjmgjjcaaGreatDoorTie
import Derived.ProofKit
import Derived.LaidMore
import Derived.OpenShut
import Derived.Stop.Joined
import Derived.SevenTiedAt
import Derived.Deep.Slices
import Derived.Carry
namespace Go.Proofs.YtlmjilpjmgjjcaaGreatDoor
open Go.RowKit
set_option linter.unusedSimpArgs false
set_option linter.unusedVariables false
structure HeldC (p q x:ByteArray) (a:List (List Sym) × Names) (ks:List Nat) (n m:ND):Prop where
 ask:askOf q=some a
 held:heldN p q x=(a.2,m,0,0)
 ok:NOk n
 nm:NNm n
 few:NFew n
 same:Same n m
 fol:∃ cs,progOf p=some cs∧followN cs (topN a) ks 0=(m,0,0)
def zeroProof:Value := .agg #[.slice none 0 0,.slice none 0 0,.slice none 0 0,.slice none 0 0,.int .i64 0,.slice none 0 0,.slice none 0 0]
def CheckOut (p q x:ByteArray) (w:World) (e:Ending) (w':World):Prop:=Ext w w' ∧
 (((heldN p q x).2.2.1≠0∧e = .returned (.tuple #[zeroProof,.agg #[.int .i64 (heldN p q x).2.2.1,.int .i64 (heldN p q x).2.2.2]])) ∨
  (∃ a ks n m,HeldC p q x a ks n m∧∃ n1 nc g1 g2 g3 v1 v2 v3 r1 r2 r3,∃ uu:Nat,∃ k1 kc d1 dc,e = .returned (.tuple #[.agg #[.slice n1 a.2.length nc,.slice g1 g2 g3,.slice v1 v2 v3,.slice r1 r2 r3,.int .i64 uu,.slice k1 ks.length kc,.slice d1 (m.done.map (·.2)).length dc],.agg #[.int .i64 0,.int .i64 0]]) ∧
   NodeIn w' (.slice g1 g2 g3) (.slice v1 v2 v3) (.slice r1 r2 r3) n∧w'.ownsRow 0 9 1 (.slice n1 a.2.length nc) a.2.length (strs a.2)∧w'.ownsRow 0 3 1 (.slice k1 ks.length kc) ks.length (ints ks)∧w'.ownsRow 0 3 1 (.slice d1 (m.done.map (·.2)).length dc) (m.done.map (·.2)).length (ints (m.done.map (·.2)))))
set_option maxRecDepth 10000 in
set_option maxHeartbeats 4000000 in
theorem check_code (p q x:ByteArray) (w:World) (hp:p.size≤maxLen) (hq:q.size≤maxLen) (hx:x.size≤maxLen):Calls Tryz.prog 42 #[.string p,.string q,.string x] w (CheckOut p q x w):=by
 have HBo:=hide' (fun u=>both_code p q u hp hq)
 have HNu:=hide' (fun u=>nums_any x u hx)
 clear hp hq hx
 obtain ⟨W,hW⟩:∃ W,W=(w.alloc (.cells #[.slice none 0 0,.slice none 0 0,.slice none 0 0,.slice none 0 0,.int .i64 0,.slice none 0 0,.slice none 0 0] 89)).alloc (.cells #[.int .i64 0,.int .i64 0] 91):=⟨_,rfl⟩
 have hE0:Ext w W:=by rw [hW]; exact (Ext.of (by repeat' (first | with_reducible exact Kept.refl _ _ | with_reducible apply Kept.drew | with_reducible apply Kept.drewN | with_reducible apply Kept.alloc | with_reducible refine Kept.setCell ?_ ?_ _ | exact fun h=>absurd h (by simp <;> omega))))
 have hWs:W.heap.size=w.heap.size+2:=by rw [hW]; simp
 have hb0:W.heap[w.heap.size]?=some (.cells #[.slice none 0 0,.slice none 0 0,.slice none 0 0,.slice none 0 0,.int .i64 0,.slice none 0 0,.slice none 0 0] 89 (0,0)):=by rw [hW]; exact block_alloc (heap_alloc_new w _) _
 have hb1:W.heap[w.heap.size+1]?=some (.cells #[.int .i64 0,.int .i64 0] 91 (0,0)):=by rw [hW]; exact block_at (by simp) _
 have HB:Hid (∀ y,Ext W y→y.cell? ⟨w.heap.size,0,none⟩=some (.slice none 0 0)∧y.cell? ⟨w.heap.size,1,none⟩=some (.slice none 0 0)∧y.cell? ⟨w.heap.size,2,none⟩=some (.slice none 0 0)∧y.cell? ⟨w.heap.size,3,none⟩=some (.slice none 0 0)∧y.cell? ⟨w.heap.size,4,none⟩=some (.int .i64 0)∧y.cell? ⟨w.heap.size,5,none⟩=some (.slice none 0 0)∧y.cell? ⟨w.heap.size,6,none⟩=some (.slice none 0 0)∧(∀ i,y.frozen? ⟨w.heap.size,i,none⟩=false) ∧
   y.cell? ⟨w.heap.size+1,0,none⟩=some (.int .i64 0)∧y.cell? ⟨w.heap.size+1,1,none⟩=some (.int .i64 0)∧(∀ i,y.frozen? ⟨w.heap.size+1,i,none⟩=false)∧w.heap.size<y.heap.size∧w.heap.size+1<y.heap.size):=fun y hE=>by
  have e0:=(hE.block _ (lt_of_block hb0)).trans hb0
  have e1:=(hE.block _ (lt_of_block hb1)).trans hb1
  exact ⟨cell_of_block e0 0 _ rfl,cell_of_block e0 1 _ rfl,cell_of_block e0 2 _ rfl,cell_of_block e0 3 _ rfl,cell_of_block e0 4 _ rfl,cell_of_block e0 5 _ rfl,cell_of_block e0 6 _ rfl,fun i=>thawed_of_block e0 i,cell_of_block e1 0 _ rfl,cell_of_block e1 1 _ rfl,fun i=>thawed_of_block e1 i,lt_of_block e0,lt_of_block e1⟩
 have Hb0:=hide' hb0
 have Hb1:=hide' hb1
 have HE0:=hide' hE0
 clear hb0 hb1 hE0
 go_enter Tryz.func42,Tryz.ntmps42
 go_wp2_with fail
 rw [← hW]
 have HW:=hide' hW
 clear hW
 refine (HBo.out W).mono ?_
 rintro e w1 ⟨hE1,hout⟩
 obtain ⟨p0,p1,p2,p3,p4,p5,p6,pf,f0,f1,ff,pl,fl⟩:=HB.out w1 hE1
 have hz1:=hE1.size
 have hEw1:Ext w w1:=HE0.out.trans (hE1.mono (by omega))
 have HE1:=hide' hE1
 have HEw1:=hide' hEw1
 clear hE1 hEw1
 rcases hout with ⟨hno,rfl⟩ | ⟨⟨cs,hcs⟩,hno,rfl⟩ | ⟨cs,a,l1,lc,xs,h1,h2,h3,b1,bc,n1,nc,hcs,hask,rfl,hP,hA,hN⟩
 ·have Hh:Hid ((heldN p q x).2.2=(4,0)):=by show _=_; simp [heldN,hno]
  clear hno
  go_wp2
  refine bodyPost_ret (v := .tuple #[zeroProof,.agg #[.int .i64 4,.int .i64 0]]) (by simp [results,Tryz.results42,go_sem,zeroProof,p0,p1,p2,p3,p4,p5,p6,pf,f0,f1,ff,pl,fl]) rfl ?_
  exact ⟨HEw1.out.trans (Kept.below (S:=fun i=>w.heap.size≤i) (by repeat' (first | with_reducible exact Kept.refl _ _ | with_reducible apply Kept.drew | with_reducible apply Kept.drewN | with_reducible apply Kept.alloc | with_reducible refine Kept.setCell ?_ ?_ _ | (intro _; simp only; omega))) (by omega) (fun i e=>e)),Or.inl (by rw [Hh.out]; exact ⟨by simp,rfl⟩)⟩
 ·have Hh:Hid ((heldN p q x).2.2=(5,0)):=by show _=_; simp [heldN,hcs,hno]
  clear hno hcs
  go_wp2
  refine bodyPost_ret (v := .tuple #[zeroProof,.agg #[.int .i64 5,.int .i64 0]]) (by simp [results,Tryz.results42,go_sem,zeroProof,p0,p1,p2,p3,p4,p5,p6,pf,f0,f1,ff,pl,fl]) rfl ?_
  exact ⟨HEw1.out.trans (Kept.below (S:=fun i=>w.heap.size≤i) (by repeat' (first | with_reducible exact Kept.refl _ _ | with_reducible apply Kept.drew | with_reducible apply Kept.drewN | with_reducible apply Kept.alloc | with_reducible refine Kept.setCell ?_ ?_ _ | (intro _; simp only; omega))) (by omega) (fun i e=>e)),Or.inl (by rw [Hh.out]; exact ⟨by simp,rfl⟩)⟩
 ·obtain ⟨_,_,_,hNO,hNN,hal,_,han,_⟩:=ask_parsed hask
  obtain ⟨_,_,_,hCO,hcl⟩:=prog_parsed hcs
  have Hhe:Hid (heldN p q x=if 400<x.size then ([],⟨[],[],[],[],0⟩,1,0) else match numbersL x with
   | (none,at')=>([],⟨[],[],[],[],0⟩,6,at')
   | (some ks,_)=>(a.2,followN cs (topN a) ks 0)):=by show _=_; unfold heldN; rw [hcs,hask]; rfl
  have HP:=hide' hP
  have HA:=hide' hA
  have HN:=hide' hN
  have HNO:=hide' hNO
  have HNN:=hide' hNN
  have HNF:=hide' (ask_few hask)
  have HCF:=hide' (prog_few hcs)
  have HCO:Hid (∀ c ∈ cs,COk c∧CNm c):=hCO
  have Hask:=hide' hask
  have Hcs:=hide' hcs
  clear hP hA hN hNO hNN hCO hask hcs
  go_wp2_with fail
  refine (HNu.out _).mono ?_
  rintro e w2 ⟨hE2,hout⟩
  have hz2:=hE2.size
  have hz2:w1.heap.size+1≤w2.heap.size:=by simpa using hz2
  have hE12:Ext w1 w2:=(Below.refl _ w1 |>.alloc (Nat.le_refl _) _).trans (hE2.mono (by simp))
  have hcb:w2.heap[w1.heap.size]?=some (.cells #[.slice h1 h2 h3,.slice b1 a.1.length bc,.slice n1 a.2.length nc] 107 (0,0)):=(hE2.block _ (by simp)).trans (heap_alloc_new w1 _)
  have hEw2:Ext w w2:=HEw1.out.trans (hE12.mono (by omega))
  obtain ⟨p0,p1,p2,p3,p4,p5,p6,pf,f0,f1,ff,pl,fl⟩:=HB.out w2 (HE1.out.trans (hE12.mono (by omega)))
  have q0:=cell_of_block hcb 0 _ rfl
  have q1:=cell_of_block hcb 1 _ rfl
  have q2:=cell_of_block hcb 2 _ rfl
  have ql:=lt_of_block hcb
  have HE12:=hide' hE12
  have HEw2:=hide' hEw2
  clear hE2 hE12 hEw2 hcb
  rcases hout with ⟨hbig,rfl⟩ | ⟨hsm,⟨ks,ka,kc,hnum,rfl,hks,hkl,hk9⟩ | ⟨pp,hnum,rfl⟩⟩
  ·have Hh:Hid ((heldN p q x).2.2=(1,0)):=by show _=_; rw [Hhe.out,if_pos hbig]
   clear hbig
   go_wp2_with fail
   go_region
   all_goals
    go_wp2
    refine bodyPost_ret (v := .tuple #[zeroProof,.agg #[.int .i64 1,.int .i64 0]]) (by simp [results,Tryz.results42,go_sem,zeroProof,p0,p1,p2,p3,p4,p5,p6,pf,f0,f1,ff,pl,fl]) rfl ?_
    exact ⟨HEw2.out.trans (Kept.below (S:=fun i=>w.heap.size≤i) (by repeat' (first | with_reducible exact Kept.refl _ _ | with_reducible apply Kept.drew | with_reducible apply Kept.drewN | with_reducible apply Kept.alloc | with_reducible refine Kept.setCell ?_ ?_ _ | (intro _; simp only; omega))) (by omega) (fun i e=>e)),Or.inl (by rw [Hh.out]; exact ⟨by simp,rfl⟩)⟩
  ·have Hh0:Hid (heldN p q x=(a.2,followN cs (topN a) ks 0)):=by show _=_; rw [Hhe.out,if_neg (by omega),hnum]
   have hP2:=HP.out.ext HE12.out
   have hA2:=HA.out.ext HE12.out
   have hN2:=owns_same HN.out (fun j hj=>HE12.out.block j (HN.out.lt j hj).2)
   have HFo:Hid (∀ o,Calls Tryz.prog 68 #[.slice l1 cs.length lc,.agg #[.slice h1 h2 h3,.slice b1 a.1.length bc,.slice n1 a.2.length nc],.slice ka ks.length kc] (w2.alloc o) (CFollowOut cs a ks (w2.alloc o))):=fun o=>by
    have hE:Ext w2 (w2.alloc o):=(Ext.of (by repeat' (first | with_reducible exact Kept.refl _ _ | with_reducible apply Kept.drew | with_reducible apply Kept.drewN | with_reducible apply Kept.alloc | with_reducible refine Kept.setCell ?_ ?_ _ | exact fun h=>absurd h (by simp <;> omega))))
    exact follow_code _ _ _ _ _ _ cs xs a ks (hP2.ext hE) ⟨_,_,_,rfl⟩ (hA2.ext hE) (owns_same hN2 (fun j hj=>hE.block j (hN2.lt j hj).2)) (owns_same hks (fun j hj=>hE.block j (hks.lt j hj).2)) HCO.out HCF.out hcl HNO.out HNN.out HNF.out hal han hkl hk9
   have HDp:Hid ((followN cs (topN a) ks 0).2=(0,0)→∀ y,Ext w2 y→Calls Tryz.prog 69 #[.slice l1 cs.length lc,.agg #[.slice h1 h2 h3,.slice b1 a.1.length bc,.slice n1 a.2.length nc],.slice ka ks.length kc] y (DepOut ((followN cs (topN a) ks 0).1.done.map (·.2)) y)):=fun hf y hE =>
    depthsOf_any y _ _ _ _ _ cs xs a ks (hP2.ext hE) ⟨_,_,_,rfl⟩ (hA2.ext hE) (owns_same hN2 (fun j hj=>hE.block j (hN2.lt j hj).2)) (owns_same hks (fun j hj=>hE.block j (hks.lt j hj).2)) (fun c hc=>(HCO.out c hc).1) hcl hal hkl hk9 hf
   have HN2:=hide' hN2
   have Hks:=hide' hks
   clear hP2 hA2 hN2 hks hk9 hnum
   go_wp2_with fail
   refine (HFo.out _).mono ?_
   rintro e w3 ⟨hE3,hout⟩
   have hz3:=hE3.size
   have hz3:w2.heap.size+1≤w3.heap.size:=by simpa using hz3
   have hE23:Ext w2 w3:=(Below.refl _ w2 |>.alloc (Nat.le_refl _) _).trans (hE3.mono (by simp))
   have hfb:w3.heap[w2.heap.size]?=some (.cells #[.int .i64 0,.int .i64 0] 91 (0,0)):=(hE3.block _ (by simp)).trans (heap_alloc_new w2 _)
   have hEw3:Ext w w3:=HEw2.out.trans (hE23.mono (by omega))
   obtain ⟨p0,p1,p2,p3,p4,p5,p6,pf,f0,f1,ff,pl,fl⟩:=HB.out w3 (HE1.out.trans ((HE12.out.mono (by omega)).trans (hE23.mono (by omega))))
   have t0:=cell_of_block hfb 0 _ rfl
   have t1:=cell_of_block hfb 1 _ rfl
   have tf:=fun i=>thawed_of_block hfb i
   have tl:=lt_of_block hfb
   have q0:w3.cell? ⟨w1.heap.size,0,none⟩=some (.slice h1 h2 h3):=(hE23.cell (p:=⟨w1.heap.size,0,none⟩) ql).trans q0
   have q1:w3.cell? ⟨w1.heap.size,1,none⟩=some (.slice b1 a.1.length bc):=(hE23.cell (p:=⟨w1.heap.size,1,none⟩) ql).trans q1
   have q2:w3.cell? ⟨w1.heap.size,2,none⟩=some (.slice n1 a.2.length nc):=(hE23.cell (p:=⟨w1.heap.size,2,none⟩) ql).trans q2
   have ql3:w1.heap.size<w3.heap.size:=by omega
   have HE23:=hide' hE23
   have HEw3:=hide' hEw3
   have Hfb:=hide' hfb
   clear hE3 hE23 hEw3 hfb HFo
   rcases hout with ⟨hne,rfl⟩ | ⟨hz,g1,g2,g3,v1,v2,v3,r1,r2,r3,uu,n,rfl,hNd,hok,hnm,hfw,hsame⟩
   ·obtain ⟨er,her⟩:∃ r,r=(followN cs (topN a) ks 0).2.1:=⟨_,rfl⟩
    obtain ⟨pe,hpe⟩:∃ r,r=(followN cs (topN a) ks 0).2.2:=⟨_,rfl⟩
    rw [← her,← hpe]
    rw [← her] at hne
    have Hh:Hid ((heldN p q x).2.2.1=er∧(heldN p q x).2.2.2=pe):=by show _∧_; rw [Hh0.out]; exact ⟨her.symm,hpe.symm⟩
    have hb:((er:Int) != 0)=true:=by rw [bne_iff_ne]; omega
    have Hne:=hide' hne
    clear her hpe hne
    go_wp2_with fail
    go_region
    all_goals
     go_wp2
     refine bodyPost_ret (v := .tuple #[zeroProof,.agg #[.int .i64 er,.int .i64 pe]]) (by simp [results,Tryz.results42,go_sem,zeroProof,p0,p1,p2,p3,p4,p5,p6,pf,f0,f1,ff,pl,fl]) rfl ?_
     exact ⟨HEw3.out.trans (Kept.below (S:=fun i=>w.heap.size≤i) (by repeat' (first | with_reducible exact Kept.refl _ _ | with_reducible apply Kept.drew | with_reducible apply Kept.drewN | with_reducible apply Kept.alloc | with_reducible refine Kept.setCell ?_ ?_ _ | (intro _; simp only; omega))) (by omega) (fun i e=>e)),Or.inl (by rw [Hh.out.1,Hh.out.2]; exact ⟨Hne.out,rfl⟩)⟩
   ·have HNd:=hide' hNd
    have Hok:=hide' hok
    have Hnm:=hide' hnm
    have Hfw:=hide' hfw
    have Hsame:=hide' hsame
    have Hz:=hide' hz
    have HDp2:=hide' (HDp.out hz)
    clear hNd hok hnm hfw hsame hz HDp
    go_wp2_with fail
    refine (HDp2.out _ (HE23.out.trans (Kept.below (S:=fun i=>w2.heap.size≤i) (by repeat' (first | with_reducible exact Kept.refl _ _ | with_reducible apply Kept.drew | with_reducible apply Kept.drewN | with_reducible apply Kept.alloc | with_reducible refine Kept.setCell ?_ ?_ _ | (intro _; simp only; omega))) (by omega) (fun i e=>e)))).mono ?_
    rintro e w4 ⟨hE4,da,dc,rfl,hds⟩
    obtain ⟨M,hM⟩:∃ M,M=(followN cs (topN a) ks 0).1:=⟨_,rfl⟩
    rw [← hM] at hds ⊢
    have hfo:followN cs (topN a) ks 0=(M,0,0):=by rw [hM,← Hz.out]
    have hsm2:Same n M:=by rw [hM]; exact Hsame.out
    have hz4:=hE4.size
    simp at hz4
    have hE24:Ext w2 w4:=(HE23.out.trans (Kept.below (S:=fun i=>w2.heap.size≤i) (by repeat' (first | with_reducible exact Kept.refl _ _ | with_reducible apply Kept.drew | with_reducible apply Kept.drewN | with_reducible apply Kept.alloc | with_reducible refine Kept.setCell ?_ ?_ _ | (intro _; simp only; omega))) (by omega) (fun i e=>e))).trans (hE4.mono (by simp; omega))
    have hK3:Kept (fun j=>j=w2.heap.size) w3 ((w3.setCell ⟨w2.heap.size,0,none⟩ (.int .i64 0)).setCell ⟨w2.heap.size,1,none⟩ (.int .i64 0)):=((Kept.refl (only w2.heap.size) w3).put 0 _).put 1 _
    have hT4:∀ {v:Value} {ls:List (List Sym)},TermsIn w3 v ls→TermsIn w4 v ls:=fun {v ls} h=>((h.box Hfb.out (by decide) (by decide) hK3).ext ((Ext.of (by repeat' (first | with_reducible exact Kept.refl _ _ | with_reducible apply Kept.drew | with_reducible apply Kept.drewN | with_reducible apply Kept.alloc | with_reducible refine Kept.setCell ?_ ?_ _ | exact fun h=>absurd h (by simp <;> omega)))):Ext _ (((w3.setCell ⟨w2.heap.size,0,none⟩ (.int .i64 0)).setCell ⟨w2.heap.size,1,none⟩ (.int .i64 0)).alloc (.cells #[.slice g1 g2 g3,.slice v1 v2 v3,.slice r1 r2 r3,.int .i64 uu] 87)))).ext hE4
    have hnb:w4.heap[w3.heap.size]?=some (.cells #[.slice g1 g2 g3,.slice v1 v2 v3,.slice r1 r2 r3,.int .i64 uu] 87 (0,0)):=(hE4.block _ (by simp)).trans (block_at (by simp) _)
    have hEw4:Ext w w4:=HEw2.out.trans (hE24.mono (by omega))
    have hEW4:Ext W w4:=HE1.out.trans ((HE12.out.mono (by omega)).trans (hE24.mono (by omega)))
    obtain ⟨p0,p1,p2,p3,p4,p5,p6,pf,f0,f1,ff,pl,fl⟩:=HB.out w4 hEW4
    have hpb:=(hEW4.block _ (lt_of_block Hb0.out)).trans Hb0.out
    have hfb2:=(hEW4.block _ (lt_of_block Hb1.out)).trans Hb1.out
    have u0:=cell_of_block hnb 0 _ rfl
    have u1:=cell_of_block hnb 1 _ rfl
    have u2:=cell_of_block hnb 2 _ rfl
    have u3:=cell_of_block hnb 3 _ rfl
    have ul:=lt_of_block hnb
    have q2:w4.cell? ⟨w1.heap.size,2,none⟩=some (.slice n1 a.2.length nc):=(hE24.cell (p:=⟨w1.heap.size,2,none⟩) ql).trans ((HE23.out.cell (p:=⟨w1.heap.size,2,none⟩) ql).symm.trans q2)
    have ql4:w1.heap.size<w4.heap.size:=by omega
    have hN4:=owns_same HN2.out (fun j hj=>hE24.block j (HN2.out.lt j hj).2)
    have hk4:=owns_same Hks.out (fun j hj=>hE24.block j (Hks.out.lt j hj).2)
    obtain ⟨D,hDe⟩:∃ D,D=M.done.map (·.2):=⟨_,rfl⟩
    rw [← hDe] at hds ⊢
    have hKp:∀ x0 x1 x2 x3 x4 x5 x6,Kept (fun j=>j=w.heap.size) w4 (((((((w4.setCell ⟨w.heap.size,0,none⟩ x0).setCell ⟨w.heap.size,1,none⟩ x1).setCell ⟨w.heap.size,2,none⟩ x2).setCell ⟨w.heap.size,3,none⟩ x3).setCell ⟨w.heap.size,4,none⟩ x4).setCell ⟨w.heap.size,5,none⟩ x5).setCell ⟨w.heap.size,6,none⟩ x6):=fun x0 x1 x2 x3 x4 x5 x6=>(((((((Kept.refl (only w.heap.size) w4).put 0 _).put 1 _).put 2 _).put 3 _).put 4 _).put 5 _).put 6 _
    have hKf:∀ (y:World) z0 z1,Kept (fun j=>j=w.heap.size+1) y ((y.setCell ⟨w.heap.size+1,0,none⟩ z0).setCell ⟨w.heap.size+1,1,none⟩ z1):=fun y z0 z1=>((Kept.refl (only (w.heap.size+1)) y).put 0 _).put 1 _
    have hout:∀ x0 x1 x2 x3 x4 x5 x6 z0 z1,CheckOut p q x w (.returned (.tuple #[.agg #[.slice n1 a.2.length nc,.slice g1 g2 g3,.slice v1 v2 v3,.slice r1 r2 r3,.int .i64 uu,.slice ka ks.length kc,.slice da D.length dc],.agg #[.int .i64 0,.int .i64 0]])) (((((((((w4.setCell ⟨w.heap.size,0,none⟩ x0).setCell ⟨w.heap.size,1,none⟩ x1).setCell ⟨w.heap.size,2,none⟩ x2).setCell ⟨w.heap.size,3,none⟩ x3).setCell ⟨w.heap.size,4,none⟩ x4).setCell ⟨w.heap.size,5,none⟩ x5).setCell ⟨w.heap.size,6,none⟩ x6).setCell ⟨w.heap.size+1,0,none⟩ z0).setCell ⟨w.heap.size+1,1,none⟩ z1):=fun x0 x1 x2 x3 x4 x5 x6 z0 z1=>by
     have hf5:=((hKp x0 x1 x2 x3 x4 x5 x6).block _ fl (by simp)).trans hfb2
     have hT:∀ {v:Value} {ls:List (List Sym)},TermsIn w3 v ls→TermsIn (((((((((w4.setCell ⟨w.heap.size,0,none⟩ x0).setCell ⟨w.heap.size,1,none⟩ x1).setCell ⟨w.heap.size,2,none⟩ x2).setCell ⟨w.heap.size,3,none⟩ x3).setCell ⟨w.heap.size,4,none⟩ x4).setCell ⟨w.heap.size,5,none⟩ x5).setCell ⟨w.heap.size,6,none⟩ x6).setCell ⟨w.heap.size+1,0,none⟩ z0).setCell ⟨w.heap.size+1,1,none⟩ z1) v ls:=fun {v ls} h =>
      ((hT4 h).box hpb (by decide) (by decide) (hKp x0 x1 x2 x3 x4 x5 x6)).box hf5 (by decide) (by decide) (hKf _ z0 z1)
     refine ⟨hEw4.trans (Kept.below (S:=fun i=>w.heap.size≤i) (by repeat' (first | with_reducible exact Kept.refl _ _ | with_reducible apply Kept.drew | with_reducible apply Kept.drewN | with_reducible apply Kept.alloc | with_reducible refine Kept.setCell ?_ ?_ _ | (intro _; simp only; omega))) (by omega) (fun i e=>e)),Or.inr ⟨a,ks,n,M,⟨Hask.out,by rw [Hh0.out,hfo],Hok.out,Hnm.out,Hfw.out,hsm2,cs,Hcs.out,hfo⟩,n1,nc,g1,g2,g3,v1,v2,v3,r1,r2,r3,uu,ka,kc,da,dc,by rw [← hDe],⟨hT HNd.out.goals,hT HNd.out.vals,hT HNd.out.done⟩,?_,?_,?_⟩⟩
     ·exact owns_box (owns_box hN4 hpb (by decide) (hKp x0 x1 x2 x3 x4 x5 x6)) hf5 (by decide) (hKf _ z0 z1)
     ·exact owns_box (owns_box hk4 hpb (by decide) (hKp x0 x1 x2 x3 x4 x5 x6)) hf5 (by decide) (hKf _ z0 z1)
     ·rw [← hDe]; exact owns_box (owns_box hds hpb (by decide) (hKp x0 x1 x2 x3 x4 x5 x6)) hf5 (by decide) (hKf _ z0 z1)
    have Hout:=hide' hout
    clear hout hKp hKf hT4 hN4 hk4 hds hE24 hK3 hnb hEw4 hEW4 hpb hfb2 hfo hsm2 hE4 hM hDe HDp2
    go_wp2
    refine bodyPost_ret (v := .tuple #[.agg #[.slice n1 a.2.length nc,.slice g1 g2 g3,.slice v1 v2 v3,.slice r1 r2 r3,.int .i64 uu,.slice ka ks.length kc,.slice da D.length dc],.agg #[.int .i64 0,.int .i64 0]]) (by simp [results,Tryz.results42,go_sem,p0,p1,p2,p3,p4,p5,p6,pf,f0,f1,ff,pl,fl]) rfl ?_
    exact Hout.out _ _ _ _ _ _ _ _ _
  ·have Hh:Hid ((heldN p q x).2.2=(6,pp)):=by show _=_; rw [Hhe.out,if_neg (by omega),hnum]
   clear hnum
   go_wp2_with fail
   go_region
   all_goals
    go_wp2
    refine bodyPost_ret (v := .tuple #[zeroProof,.agg #[.int .i64 6,.int .i64 pp]]) (by simp [results,Tryz.results42,go_sem,zeroProof,p0,p1,p2,p3,p4,p5,p6,pf,f0,f1,ff,pl,fl]) rfl ?_
    exact ⟨HEw2.out.trans (Kept.below (S:=fun i=>w.heap.size≤i) (by repeat' (first | with_reducible exact Kept.refl _ _ | with_reducible apply Kept.drew | with_reducible apply Kept.drewN | with_reducible apply Kept.alloc | with_reducible refine Kept.setCell ?_ ?_ _ | (intro _; simp only; omega))) (by omega) (fun i e=>e)),Or.inl (by rw [Hh.out]; exact ⟨by simp,rfl⟩)⟩
theorem pargs_two {p:List Tok→Names→Option (List Sym × List Tok × Names)} (hp:∀ ts names r,p ts names=some r→2 * r.1.length+r.2.1.length≤ts.length+1) :
  ∀ (g:Nat) (ts:List Tok) (names:Names) (acc:List (List Sym)) r,pargs p g ts names acc=some r→2 * r.1.flatten.length+r.2.1.length+1≤2 * acc.flatten.length+ts.length:=by
 intro g
 induction g with
 | zero=>intro ts names acc r h; simp [pargs] at h
 | succ g ih =>
  intro ts names acc r h
  cases ts with
  | nil=>simp [pargs] at h
  | cons t ts =>
   rw [pargs] at h
   split at h
   ·simp at h; subst h
    simp only [List.length_cons]; omega
   ·split at h
    ·simp at h
    ·rename_i q hq
     have h1:=hp _ _ _ hq
     have h4:=ih _ _ _ _ h
     simp only [List.flatten_append,List.flatten_cons,List.flatten_nil,List.append_nil,List.length_append,List.length_cons] at h4 ⊢
     omega
theorem pterm_two:∀ (f:Nat) (ts:List Tok) (names:Names) r,pterm f ts names=some r→2 * r.1.length+r.2.1.length≤ts.length+1:=by
 intro f
 induction f with
 | zero=>intro ts names r h; simp [pterm] at h
 | succ f ih =>
  intro ts names r h
  cases ts with
  | nil=>simp [pterm] at h
  | cons t ts =>
   rw [pterm] at h
   split at h
   ·simp at h; subst h
    simp only [List.length_cons,List.length_nil]; omega
   ·cases ts with
    | nil=>simp [pname] at h
    | cons u us =>
     rw [pname] at h
     split at h
     ·simp at h; subst h
      simp only [List.length_cons,List.length_nil]; omega
     ·rw [Option.map_eq_some_iff] at h
      obtain ⟨q,hq,rfl⟩:=h
      have h1:=pargs_two ih _ _ _ _ _ hq
      simp only [List.flatten_nil,List.length_nil,List.length_cons] at h1 ⊢
      omega
theorem pterms_two {f:Nat}:∀ (g:Nat) (ts:List Tok) (names:Names) (acc:List (List Sym)) r,pterms f g ts names acc=some r→2 * r.1.flatten.length+r.2.1.length≤2 * acc.flatten.length+ts.length:=by
 intro g
 induction g with
 | zero=>intro ts names acc r h; simp [pterms] at h
 | succ g ih =>
  intro ts names acc r h
  rw [pterms] at h
  split at h
  ·simp at h
  ·rename_i q hq
   have h1:=pterm_two f _ _ _ hq
   split at h
   ·simp at h
   ·rename_i x rest hx
    rw [hx] at h1
    simp only [List.length_cons] at h1
    split at h
    ·simp at h; subst h
     simp only [List.flatten_append,List.flatten_cons,List.flatten_nil,List.append_nil,List.length_append]
     omega
    ·have h4:=ih _ _ _ _ h
     simp only [List.flatten_append,List.flatten_cons,List.flatten_nil,List.append_nil,List.length_append] at h4
     omega
theorem ask_small {s:ByteArray} {a:List (List Sym) × Names} (h:askOf s=some a):a.2.length≤60:=by
 unfold askOf at h
 split at h
 ·simp at h
 ·split at h
  ·simp at h
  ·rename_i hs he
   have hs:s.size≤120:=by omega
   obtain ⟨r1,_,_⟩:=runs_lover s true
   have h0:(runs s true).1=0:=by rw [r1]; omega
   obtain ⟨q,e1,e2,_⟩:=query_fits s hs h0
   rw [e1] at h
   simp at h
   subst h
   obtain ⟨g1,g2,_⟩:=terms_good 1000 0 1000 (alltoks s) [] [] q (alltoks_worded s) (by simp) rfl e1
   obtain ⟨x1,x2,x3⟩:=scan_bound _ _ _ g2
   have hl:=alltoks_len s
   have h2:=pterms_two 1000 (alltoks s) [] [] q e1
   simp only [List.flatten_nil,List.length_nil] at h2
   simp only
   omega
theorem canon1_num:∀ (l:List Sym) (met:List Nat) (M:Nat),(canon1 l met).2.length≤M→(∀ s ∈ l,s.name≠[]→s.num=0)→0<M→∀ s ∈ (canon1 l met).1,s.num<M:=by
 intro l
 induction l with
 | nil=>intro met M _ _ _ s hs; simp [canon1] at hs
 | cons s l ih =>
  intro met M hM hz hp t ht
  have hgrow:∀ (l:List Sym) (met:List Nat),met.length≤(canon1 l met).2.length:=by
   intro l
   induction l with
   | nil=>intro met; simp [canon1]
   | cons s l ih =>
    intro met
    simp only [canon1]
    split
    ·have:=ih (meet s.num met)
     have h1:met.length≤(meet s.num met).length:=by unfold meet; split <;> simp
     simp; omega
    ·exact ih met
  simp only [canon1] at hM ht
  split at ht
  ·rename_i hn
   rw [if_pos hn] at hM
   simp only at hM
   rcases List.mem_cons.1 ht with rfl | ht
   ·show met.idxOf s.num<M
    have h1:=hgrow l (meet s.num met)
    have h2:met.idxOf s.num<(meet s.num met).length:=by
     unfold meet
     split
     ·rename_i e; rw [e]; simp
     ·rename_i e
      have:=List.idxOf_le_length (a:=s.num) (l:=met)
      omega
    omega
   ·exact ih _ M hM (fun u hu=>hz u (by simp [hu])) hp t ht
  ·rename_i hn
   rw [if_neg hn] at hM
   simp only at hM
   rcases List.mem_cons.1 ht with rfl | ht
   ·rw [hz t (by simp) hn]; exact hp
   ·exact ih _ M hM (fun u hu=>hz u (by simp [hu])) hp t ht
theorem canons_num:∀ (ts:List (List Sym)) (met:List Nat) (M:Nat),(canons ts met).2.length≤M→(∀ t ∈ ts,∀ s ∈ t,s.name≠[]→s.num=0)→0<M→∀ t ∈ (canons ts met).1,∀ s ∈ t,s.num<M:=by
 intro ts
 induction ts with
 | nil=>intro met M _ _ _ t ht; simp [canons] at ht
 | cons u ts ih =>
  intro met M hM hz hp t ht
  have hgrow:∀ (ts:List (List Sym)) (met:List Nat),met.length≤(canons ts met).2.length:=by
   intro ts
   induction ts with
   | nil=>intro met; simp [canons]
   | cons v ts ih =>
    intro met
    simp only [canons]
    have h1:=ih (canon1 v met).2
    have h2:met.length≤(canon1 v met).2.length:=by
     clear h1 ih
     induction v generalizing met with
     | nil=>simp [canon1]
     | cons s l ih =>
      simp only [canon1]
      split
      ·have:=ih (meet s.num met)
       have h1:met.length≤(meet s.num met).length:=by unfold meet; split <;> simp
       simp; omega
      ·exact ih met
    omega
  simp only [canons] at hM ht
  rcases List.mem_cons.1 ht with rfl | ht
  ·exact canon1_num u met M (Nat.le_trans (hgrow ts _) hM) (fun s hs=>hz u (by simp) s hs) hp
  ·exact ih _ M hM (fun v hv=>hz v (by simp [hv])) hp t ht
theorem canon1_args:∀ (l:List Sym) (met:List Nat) (P:Nat→Prop),(∀ s ∈ l,P s.args)→∀ s ∈ (canon1 l met).1,P s.args:=by
 intro l
 induction l with
 | nil=>intro met P _ s hs; simp [canon1] at hs
 | cons s l ih =>
  intro met P h t ht
  simp only [canon1] at ht
  split at ht
  ·rcases List.mem_cons.1 ht with rfl | ht
   ·exact h s (by simp)
   ·exact ih _ P (fun u hu=>h u (by simp [hu])) t ht
  ·rcases List.mem_cons.1 ht with rfl | ht
   ·exact h t (by simp)
   ·exact ih _ P (fun u hu=>h u (by simp [hu])) t ht
theorem canons_each:∀ (ts:List (List Sym)) (met:List Nat) (u:List Sym),u ∈ (canons ts met).1→∃ t ∈ ts,∃ m,u=(canon1 t m).1:=by
 intro ts
 induction ts with
 | nil=>intro met u h; simp [canons] at h
 | cons t ts ih =>
  intro met u h
  simp only [canons] at h
  rcases List.mem_cons.1 h with rfl | h
  ·exact ⟨t,by simp,met,rfl⟩
  ·obtain ⟨t',h1,m,h2⟩:=ih _ u h
   exact ⟨t',by simp [h1],m,h2⟩
def StepsAt (w:World) (sv:Value):Prop:=∃ a len cap,sv = .slice a len cap∧len≤maxLen∧∀ k,k<len→∃ (b off:Nat) (kd n m:Int) (p q x:ByteArray),a=some ⟨b,off,none⟩∧b<w.heap.size ∧
 w.cell? ⟨b,off+k * 6,none⟩=some (.int .i64 kd)∧w.cell? ⟨b,off+k * 6+1,none⟩=some (.int .i64 n)∧w.cell? ⟨b,off+k * 6+2,none⟩=some (.int .i64 m) ∧
 w.cell? ⟨b,off+k * 6+3,none⟩=some (.string p)∧w.cell? ⟨b,off+k * 6+4,none⟩=some (.string q)∧w.cell? ⟨b,off+k * 6+5,none⟩=some (.string x)∧p.size≤maxLen∧q.size≤maxLen∧x.size≤maxLen
set_option maxHeartbeats 400000 in
theorem looks_nil (w:World) (b:Nat) (h:w.heap[b]?=some (.cells #[.slice none 0 0,.slice none 0 0,.slice none 0 0] 76 (0,0))) :
  Calls Tryz.prog 39 #[.pointer (some ⟨b,0,none⟩)] w fun e w'=>e = .returned (.bool true)∧w'=w:=by
 have c1:w.cell? ⟨b,1,none⟩=some (.slice none 0 0):=cell_of_block h 1 _ rfl
 clear h
 go_enter Tryz.func39,Tryz.ntmps39
 go_wp2
 go_loop [3] (fun i=>i = .int .i64 0) (fun i=>0)
 case atStart=>rfl
 case round =>
  subst hrel
  go_wp2
  go_ret
  exact ⟨rfl,rfl⟩
def YesCode:Prop:=∀ (p q x:ByteArray) (w:World),p.size≤maxLen→q.size≤maxLen→x.size≤maxLen→Calls Tryz.prog 19 #[.string p,.string q,.string x] w fun e w'=>e = .returned (.tuple #[.string ⟨(yesN p q x).1.toArray⟩,.int .i64 (yesN p q x).2.1,.int .i64 (yesN p q x).2.2])∧Ext w w'
set_option maxRecDepth 10000 in
set_option maxHeartbeats 1000000 in
theorem checks_yes (HC0:YesCode) (n m:Int) (p q x:ByteArray) (w:World) (hp:p.size≤maxLen) (hq:q.size≤maxLen) (hx:x.size≤maxLen) :
  Calls Tryz.prog 63 #[.agg #[.int .i64 6,.int .i64 n,.int .i64 m,.string p,.string q,.string x]] w fun e w'=>e = .returned (.bool true)∧Below w.heap.size w w':=by
 have HC:=hide' (HC0 p q x)
 have HR:=hide' (refYes_any p q x)
 obtain ⟨R,hR⟩:∃ R,R=yesN p q x:=⟨_,rfl⟩
 rw [← hR] at HC HR
 clear HC0 hR
 go_enter Tryz.func63,Tryz.ntmps63
 go_wp2_with fail
 refine (HC.out _ hp hq hx).mono ?_
 rintro e w1 ⟨rfl,hb1⟩
 have hsz1:w.heap.size+1≤w1.heap.size:=by have:=hb1.size; simpa using this
 have hb1':Below w.heap.size w w1:=((Below.refl _ w).alloc (Nat.le_refl _) _).trans (hb1.mono (by simp))
 have hc:w1.cell? ⟨w.heap.size,3,none⟩=some (.string p):=(hb1.cell (p:=⟨w.heap.size,3,none⟩) (by simp)).trans (cell_alloc_new w _ _ 3 _ rfl)
 have hd:w1.cell? ⟨w.heap.size,4,none⟩=some (.string q):=(hb1.cell (p:=⟨w.heap.size,4,none⟩) (by simp)).trans (cell_alloc_new w _ _ 4 _ rfl)
 have he:w1.cell? ⟨w.heap.size,5,none⟩=some (.string x):=(hb1.cell (p:=⟨w.heap.size,5,none⟩) (by simp)).trans (cell_alloc_new w _ _ 5 _ rfl)
 have Hb1:=hide' hb1'
 clear hb1 hb1'
 go_wp2_with fail
 refine (HR.out _ hp hq hx).mono ?_
 rintro e w2 ⟨rfl,hb2⟩
 have Hb2:=hide' hb2
 clear hb2
 go_wp2
 go_ret
 exact ⟨rfl,Hb1.out.trans (Hb2.out.mono Hb1.out.size)⟩
set_option maxRecDepth 10000 in
set_option maxHeartbeats 1000000 in
theorem step_yes (HC0:YesCode) (n m:Int) (p q x:ByteArray) (b:Value) (w:World) (hp:p.size≤maxLen) (hq:q.size≤maxLen) (hx:x.size≤maxLen) :
  Calls Tryz.prog 38 #[b,.agg #[.int .i64 6,.int .i64 n,.int .i64 m,.string p,.string q,.string x]] w fun e w'=>e = .returned (.bool true)∧Below w.heap.size w w':=by
 have HT:=hide' (checks_yes HC0 n m p q x)
 clear HC0
 go_enter Tryz.func38,Tryz.ntmps38
 go_wp2_with fail
 refine (HT.out _ hp hq hx).mono ?_
 rintro e w1 ⟨rfl,hb1⟩
 have Hb1:=hide' hb1
 clear hb1
 go_wp2
 go_ret
 exact ⟨rfl,((Below.refl _ w).alloc (Nat.le_refl _) _).trans (Hb1.out.mono (by simp))⟩
set_option maxRecDepth 10000 in
set_option maxHeartbeats 1000000 in
theorem upTo_yes (HC0:YesCode) (sv:Value) (w:World) (hst:StepsAt w sv) :
  Calls Tryz.prog 13 #[sv,.int .i64 6,.int .i64 6] w fun e w'=>e = .returned (.int .i64 (-1))∧Below w.heap.size w w':=by
 obtain ⟨a,len,cap,rfl,hlen,hcells⟩:=hst
 unfold maxLen at hlen
 have HS:=hide' (step_yes HC0)
 have HL:=hide' looks_nil
 have Hcells:=hide' hcells
 clear HC0 hcells
 go_enter Tryz.func13,Tryz.ntmps13
 go_wp2
 go_loopw [8] (fun i wr=>∃ k:Nat,k≤len∧i = .int .i64 k∧Below w.heap.size w wr∧wr.heap[w.heap.size]?=some (.cells #[.slice none 0 0,.slice none 0 0,.slice none 0 0] 76 (0,0))) (fun i _=>len - (intOf i).toNat)
 case atStart=>exact ⟨0,Nat.zero_le _,rfl,(Below.refl _ _).alloc (Nat.le_refl _) _,heap_alloc_new w _⟩
 case round =>
  obtain ⟨k,hk,rfl,hbel,hblk⟩:=hrel
  have Hblk:=hide' hblk
  have hsz:=lt_of_block hblk
  clear hblk
  by_cases hlt:k<len
  ·obtain ⟨b,off,kd,n,m,p,q,x,rfl,hbl,d0,d1,d2,d3,d4,d5,hp,hq,hx⟩:=Hcells.out k hlt
   have c0:wr.cell? ⟨b,off+k * 6,none⟩=some (.int .i64 kd):=(hbel.cell (p:=⟨b,off+k * 6,none⟩) hbl).trans d0
   have c1:wr.cell? ⟨b,off+k * 6+1,none⟩=some (.int .i64 n):=(hbel.cell (p:=⟨b,off+k * 6+1,none⟩) hbl).trans d1
   have c2:wr.cell? ⟨b,off+k * 6+2,none⟩=some (.int .i64 m):=(hbel.cell (p:=⟨b,off+k * 6+2,none⟩) hbl).trans d2
   have c3:wr.cell? ⟨b,off+k * 6+3,none⟩=some (.string p):=(hbel.cell (p:=⟨b,off+k * 6+3,none⟩) hbl).trans d3
   have c4:wr.cell? ⟨b,off+k * 6+4,none⟩=some (.string q):=(hbel.cell (p:=⟨b,off+k * 6+4,none⟩) hbl).trans d4
   have c5:wr.cell? ⟨b,off+k * 6+5,none⟩=some (.string x):=(hbel.cell (p:=⟨b,off+k * 6+5,none⟩) hbl).trans d5
   clear d0 d1 d2 d3 d4 d5
   by_cases hkd:kd=6
   ·subst hkd
    go_wp2_with fail
    refine (HS.out n m p q x _ _ hp hq hx).mono ?_
    rintro e w1 ⟨rfl,hb1⟩
    have hs1:wr.heap.size+1≤w1.heap.size:=by have:=hb1.size; simpa using this
    have hbel1:Below w.heap.size w w1:=(hbel.alloc hbel.size _).trans (hb1.mono (by simp; omega))
    have Hblk1:Hid (w1.heap[w.heap.size]?=some (.cells #[.slice none 0 0,.slice none 0 0,.slice none 0 0] 76 (0,0))):=(hb1.block w.heap.size (by simp; omega)).trans (block_alloc Hblk.out _)
    clear hb1 c0 c1 c2 c3 c4 c5
    go_wp2_with fail
    refine (HL.out w1 w.heap.size Hblk1.out).mono ?_
    rintro e w2 ⟨rfl,rfl⟩
    go_wp2
    go_roundw
    case rel=>exact ⟨k+1,by omega,by go_num,hbel1,Hblk1.out⟩
    case measure=>simp [intOf]; omega
   ·rcases Int.lt_or_gt_of_ne hkd with hlt2 | hlt2
    ·have h1:¬ (6:Int)≤kd:=by omega
     clear hkd hlt2
     go_wp2
     go_roundw
     case rel=>exact ⟨k+1,by omega,by go_num,hbel.alloc hbel.size _,block_alloc Hblk.out _⟩
     case measure=>simp [intOf]; omega
    ·have h1:(6:Int)≤kd:=by omega
     have h2:¬ kd≤(6:Int):=by omega
     clear hkd hlt2
     go_wp2
     go_roundw
     case rel=>exact ⟨k+1,by omega,by go_num,hbel.alloc hbel.size _,block_alloc Hblk.out _⟩
     case measure=>simp [intOf]; omega
  ·go_wp2
   go_ret
   exact ⟨rfl,hbel⟩
set_option maxHeartbeats 1000000 in
theorem yeses_walk (HC0:YesCode) (sv:Value) (w:World) (hst:StepsAt w sv) :
  Calls Tryz.prog 6 #[sv] w fun e w'=>e = .returned (.bool true)∧Below w.heap.size w w':=by
 have HU:=hide' (upTo_yes HC0 sv w hst)
 clear HC0 hst
 go_enter Tryz.func6,Tryz.ntmps6
 go_wp2_with fail
 refine HU.out.mono ?_
 rintro e w1 ⟨rfl,hb1⟩
 have Hb1:=hide' hb1
 clear hb1
 go_wp2
 go_ret
 exact ⟨rfl,Hb1.out⟩
end Go.Proofs.YtlmjilpjmgjjcaaGreatDoor
namespace Go.Proofs.YtlmjilpjmgjjcaaGreatDoor
open Go.ChangeShapes Go.WideShapes Go.ChangeAt Go.WideMaps Go.WideElems Go.RowKit
set_option linter.unusedSimpArgs false
set_option linter.unusedVariables false
theorem own:ownKnob Tryz.prog.godebug=none:=by kernel_rfl
theorem laidOut:laidOutB Tryz.prog=true:=by kernel_rfl
theorem cellsStep:Tryz.prog.cellsOf 78=6:=by kernel_rfl
theorem cellsInt:Tryz.prog.cellsOf 3=1:=by kernel_rfl
theorem cellsStr:Tryz.prog.cellsOf 9=1:=by kernel_rfl
theorem cell_plain {W:World} {a:Addr} {j:Nat} {v:Value} (h:W.cell? (a.add j)=some v) (hs:a.spot=none):W.cell? ⟨a.block,a.off+j,none⟩=some v:=by
 have e:a.add j=⟨a.block,a.off+j,none⟩:=by
  unfold Addr.add
  obtain ⟨b,o,s⟩:=a
  simp only at hs
  subst hs
  split
  ·rename_i h0; subst h0; rfl
  ·rfl
 rwa [e] at h
theorem spot_none {W:World} {a:Addr} {v:Value} (h:W.cell? a=some v):a.spot=none:=by
 unfold World.cell? at h
 split at h
 ·split at h
  ·cases h
  ·rename_i h1; cases hs:a.spot with
   | none=>rfl
   | some _=>rw [hs] at h1; simp at h1
 ·cases h
theorem step_str {H:Type} {enc:TypeId × Value→H} {W:World} {base n':Nat} {spare:Nat→Bool} {held:Bool} {a:Addr} {cs:List Value} {x:DataW H × List MemPlace} {i:Nat} (hcells:∀ i,i<6→W.cell? (a.add i)=cs[i]?) (hlen:cs.length=6) (hi:i<6)
  (h:DataW.trod enc Tryz.prog W base spare held n' 9 ((cs.drop i).take (Tryz.prog.cellsOf 9))=some x):∃ s:ByteArray,W.cell? (a.add i)=some (.string s)∧s.size≤maxLen:=by
 obtain ⟨s,h1,_,h3⟩:=DataW.trod_string Tryz.underlying9 h
 rw [cellsStr] at h1
 refine ⟨s,?_,h3⟩
 rw [hcells i hi]
 have:=congrArg (fun l:List Value=>l[0]?) h1
 simpa using this
theorem step_int {H:Type} {enc:TypeId × Value→H} {W:World} {base n':Nat} {spare:Nat→Bool} {held:Bool} {a:Addr} {cs:List Value} {x:DataW H × List MemPlace} {i:Nat} (hcells:∀ i,i<6→W.cell? (a.add i)=cs[i]?) (hlen:cs.length=6) (hi:i<6)
  (h:DataW.trod enc Tryz.prog W base spare held n' 3 ((cs.drop i).take (Tryz.prog.cellsOf 3))=some x):∃ k:Int,W.cell? (a.add i)=some (.int .i64 k):=by
 obtain ⟨s,h1,_,h3⟩:=DataW.trod_int Tryz.underlying3 h
 rw [cellsInt] at h1
 refine ⟨s,?_⟩
 rw [hcells i hi]
 have:=congrArg (fun l:List Value=>l[0]?) h1
 simpa using this
set_option maxRecDepth 100000 in
theorem steps_of_script {H:Type} {enc:TypeId × Value→H} {W:World} {a0:Option Addr} {len cap:Nat} {d:DataW H} {ps:List MemPlace}
  (h:DataW.Trod enc Tryz.prog W 0 (fun _=>true) true 22 (.slice a0 len cap) d ps):StepsAt W (.slice a0 len cap):=by
 obtain ⟨fuel,hf⟩:=h
 rcases Deep.open_slice Tryz.underlying22 hf with ⟨hcs,_⟩ | ⟨a,l,c,m,n,D,Pl,hcs,_,hl,hm,hmm,_,hall⟩
 ·simp [Value.cells] at hcs
  obtain ⟨rfl,rfl,rfl⟩:=hcs
  exact ⟨none,0,0,rfl,by decide,fun k hk=>absurd hk (by omega)⟩
 ·simp [Value.cells] at hcs
  obtain ⟨rfl,rfl,rfl⟩:=hcs
  refine ⟨some a,len,cap,rfl,Nat.le_trans hl hm,fun k hk => ?_⟩
  obtain ⟨cs,hcells,htrod⟩:=hall k (by rw [hmm]; simp; omega)
  rw [cellsStep] at hcells
  obtain ⟨hb,hlen,hcell⟩:=World.cells?_some hcells
  obtain ⟨xs,n',_,_,hlen2,hxl,hfld⟩:=DataW.trod_struct Tryz.underlying78 htrod
  have hx:∀ i,i<6→∃ x,xs[i]?=some x:=fun i hi=>⟨_,List.getElem?_eq_getElem (by rw [hxl]; exact hi)⟩
  obtain ⟨x0,e0⟩:=hx 0 (by omega)
  obtain ⟨x1,e1⟩:=hx 1 (by omega)
  obtain ⟨x2,e2⟩:=hx 2 (by omega)
  obtain ⟨x3,e3⟩:=hx 3 (by omega)
  obtain ⟨x4,e4⟩:=hx 4 (by omega)
  obtain ⟨x5,e5⟩:=hx 5 (by omega)
  obtain ⟨k0,q0⟩:=step_int hcell hlen (i:=0) (by omega) ((hfld 0 _ rfl).trans e0)
  obtain ⟨k1,q1⟩:=step_int hcell hlen (i:=1) (by omega) ((hfld 1 _ rfl).trans e1)
  obtain ⟨k2,q2⟩:=step_int hcell hlen (i:=2) (by omega) ((hfld 2 _ rfl).trans e2)
  obtain ⟨s3,q3,z3⟩:=step_str hcell hlen (i:=3) (by omega) ((hfld 3 _ rfl).trans e3)
  obtain ⟨s4,q4,z4⟩:=step_str hcell hlen (i:=4) (by omega) ((hfld 4 _ rfl).trans e4)
  obtain ⟨s5,q5,z5⟩:=step_str hcell hlen (i:=5) (by omega) ((hfld 5 _ rfl).trans e5)
  have hblk:a.block<W.heap.size:=by
   have:=World.block_lt_of_cell? W _ q1
   rw [Deep.add_add] at this
   simpa [Addr.add] using this
  have hsp:a.spot=none:=by
   obtain ⟨cs',hcells',_⟩:=hall 0 (by rw [hmm]; simp; omega)
   rw [cellsStep] at hcells'
   obtain ⟨_,hlen',hcell'⟩:=World.cells?_some hcells'
   have h1:=hcell' 0 (by omega)
   rw [List.getElem?_eq_getElem (by omega)] at h1
   have h2:=spot_none h1
   simpa [Addr.add] using h2
  simp only [Deep.add_add] at q0 q1 q2 q3 q4 q5
  obtain ⟨b,o,sp⟩:=a
  simp only at hsp
  subst hsp
  refine ⟨b,o,k0,k1,k2,s3,s4,s5,rfl,hblk,?_,?_,?_,?_,?_,?_,z3,z4,z5⟩
  ·simpa using cell_plain q0 rfl
  ·simpa [Nat.add_assoc] using cell_plain q1 rfl
  ·simpa [Nat.add_assoc] using cell_plain q2 rfl
  ·simpa [Nat.add_assoc] using cell_plain q3 rfl
  ·simpa [Nat.add_assoc] using cell_plain q4 rfl
  ·simpa [Nat.add_assoc] using cell_plain q5 rfl
end Go.Proofs.YtlmjilpjmgjjcaaGreatDoor
namespace Go.Proofs.YtlmjilpjmgjjcaaGreatDoor
open Go.ChangeShapes Go.WideShapes Go.ChangeAt Go.WideMaps Go.WideElems Go.RowKit
set_option linter.unusedSimpArgs false
set_option linter.unusedVariables false
theorem yeses_door (os:Os) (args:Array Value):laidMetH Tryz.prog Rows.yesesRow.laid ((World.doorLaid Tryz.prog 400 os).forCall (fun _ _=>0) ⟨#[],args,[]⟩).memory :=
 laidMetH_of_parts3 (fuel:=8) (laidMet_of_run' 8 (by kernel_rfl) (by kernel_rfl)) (by kernel_rfl) (by kernel_rfl)
set_option maxRecDepth 100000 in
theorem yeses_lifted (HC:YesCode) (os:Os) (started:os.Started) (H:Type) (enc:TypeId × Value→H) :
  ReturnsInHanded {} Tryz.checked os 6 .any (fun w args=>(Rows.yesesSpec.pre enc Tryz.prog Tryz.f6 [] false w args∧laidMetH Tryz.prog Rows.yesesRow.laid w)∧sizedMet enc Tryz.prog Tryz.f6 (OpenSpec.ofChange Rows.yesesSpec) false w args)
   (Rows.yesesSpec.post enc Tryz.prog Tryz.f6 false true false false):=by
 refine returnsInHanded_of_change_and (C:=Tryz.checked) (X:=fun w _=>laidMetH Tryz.prog Rows.yesesRow.laid w) (fun _ _ _ hh h=>h.of_heap hh) own started (by kernel_rfl) Tryz.func6
  (ChangeSpec.witness_shaped (enc:=enc) (C:=Tryz.checked) (os:=os) (X:=fun w _=>laidMetH Tryz.prog Rows.yesesRow.laid w) false (World.doorLaid Tryz.prog 400 os) #[.slice none 0 0] 8 rfl (World.shaped_of_RefB (by kernel_rfl) (by kernel_rfl)) (by kernel_rfl) (by kernel_rfl) (by kernel_rfl) (yeses_door os _)) ?_
 intro W base args ds gs before hval0 hW _ _ hL _
 have hval:∀ (j:Nat) t v,Tryz.f6.params[j]?=some t→args[j]?=some v→Value.okWide Tryz.prog W .any base t v:=hval0
 have hW':=hW
 obtain ⟨p,q,hA0,hV,rfl,hfz,hnd⟩:=hW
 have hA:DataW.TrodAll enc Tryz.prog W 0 (fun _=>true) true Tryz.f6.params.toList args.toList ds p:=hA0
 rw [Tryz.params6] at hA hval
 obtain ⟨v0,d0,rfl,rfl,h0⟩:=trodAll_one hA
 obtain ⟨rfl,rfl⟩:=trodVars_none hV
 have lt0:∀ x ∈ p,x.block<W.heap.size:=by obtain ⟨m,hm⟩:=h0; exact DataW.trod_lt m _ _ _ hm
 obtain ⟨a0,len0,cap0,rfl⟩:=okWide_slice Tryz.underlying22 (hval 0 22 v0 rfl rfl)
 have hst:=steps_of_script h0
 clear hA0 hval0
 refine (yeses_walk HC _ W hst).mono fun e W' ⟨he,bel⟩ => ?_
 subst he
 exact ⟨_,rfl,_,_,_,[],_,[],hW',trodAll_mk1 (shut_bool Tryz.underlying4 _),trodAll_mk1 (Below.trod laidOut (by kernel_rfl) (of_decide_eq_true (by kernel_rfl)) h0 bel lt0),rfl,bel.frame _,fun h=>by cases h⟩
theorem yeses_row (HC:YesCode):Rows.YesesSaid :=
 OpenClaim.holds_of_wide 6 Tryz.f6 rfl rfl rfl rfl rfl rfl rfl ⟨rfl,rfl,rfl,rfl,rfl⟩ rfl rfl rfl rfl rfl (by kernel_rfl) Tryz.func6 (by kernel_rfl)
  (of_decide_eq_true (by kernel_rfl)) (by unfold Func.isWrapper; first | (rw [if_pos (by decide +kernel)]; kernel_rfl) | (rw [if_neg (by decide +kernel)]; exact ⟨rfl,rfl⟩))
  (fun os started H enc _=>yeses_lifted HC os started H enc)
theorem yeses_card (HC:YesCode):Rows.YesesCardSaid :=
 Claim7.holds_tied_plain_at .later [] [.data,.data,.data] true Rows.yesesCard.stood.harness false
  (yeses_row HC) (fun _ h=>by cases h) (by kernel_rfl) (fun _ h=>by cases h) yeses_row_tie rfl ⟨rfl,rfl⟩ (by kernel_rfl) rfl
  (fun f fn hf hfn=>by
   obtain rfl:f=6:=Option.some.inj ((show Tryz.prog.funcNamed Tryz.f6.name=some 6 by kernel_rfl).symm.trans hf) |>.symm
   obtain rfl:fn=Tryz.f6:=(Option.some.inj (Tryz.func6.symm.trans hfn)).symm
   exact ⟨by kernel_rfl,fun j t ht=>by
    rw [Tryz.params6] at ht
    have hm:t ∈ [22]:=by simpa using Array.mem_of_getElem? ht
    have hall:([22].all fun u => !Tryz.prog.wantsStandIn u)=true:=by kernel_rfl
    exact (show Tryz.prog.wantsStandIn t=false by simpa using List.all_eq_true.1 hall t hm)⟩)
  (by kernel_rfl)
end Go.Proofs.YtlmjilpjmgjjcaaGreatDoor
namespace Go.Proofs.YtlmjilpjmgjjcaaGreatDoor
open Go.RowKit
set_option linter.unusedSimpArgs false
set_option linter.unusedVariables false
theorem flat_le {ts:List (List Sym)} {N:Nat} (h:∀ t ∈ ts,t.length≤N):ts.flatten.length≤N * ts.length:=by
 induction ts with
 | nil=>simp
 | cons t ts ih =>
  have h1:=h t (by simp)
  have h2:=ih (fun y hy=>h y (by simp [hy]))
  simp only [List.flatten_cons,List.length_append,List.length_cons]
  rw [Nat.mul_add]
  omega
theorem canons_txt:∀ (ts:List (List Sym)) (seen:List Nat),(∀ t ∈ ts,Wf 1 t∧t.length≤30∧∀ s ∈ t,s.name.length≤4096)→seen.length+ts.flatten.length≤4000→∀ u ∈ (canons ts seen).1,(atomC u []).length≤200000:=by
 intro ts
 induction ts with
 | nil=>intro seen _ _ u hu; simp [canons] at hu
 | cons t ts ih =>
  intro seen h hs u hu
  simp only [List.flatten_cons,List.length_append] at hs
  obtain ⟨h1,h2,h3⟩:=h t (by simp)
  have hc:=canon_len (l:=t) (by omega) h1 h3 (seen:=seen) (by omega)
  simp only [canons] at hu
  rcases List.mem_cons.1 hu with rfl | hu
  ·omega
  ·exact ih _ (fun v hv=>h v (by simp [hv])) (by omega) u hu
theorem tx_ok {n:ND} (hn:NOk n) (hm:NNm n) {ts:List (List Sym)} (ht:∀ t ∈ ts,t ∈ n.terms∧t.length≤30) (hl:ts.length≤130) (hv:(canons ts []).2.length≤2599):TxOk ts:=by
 have hfl:ts.flatten.length≤30 * ts.length:=flat_le (fun t h=>(ht t h).2)
 have hV:n.vars≤101000:=by have:=hn.vars; have:=hn.ul; omega
 refine ⟨by omega,by omega,fun t h=>tm_ok (hn.wf t (ht t h).1) (by have:=(ht t h).2; omega) (hn.occ t (ht t h).1) (by omega),fun u hu=>⟨?_,fun s hs=>⟨?_,?_⟩⟩,fun u hu => ?_⟩
 ·obtain ⟨t,h1,m,rfl⟩:=canons_each ts [] u hu
  rw [canon1_length]
  have:=(ht t h1).2
  omega
 ·exact canons_num ts [] 2600 (by omega) (fun t h1 x hx hne=>by
   obtain ⟨i,hi⟩:=List.mem_iff_getElem?.1 hx
   exact (syms_wf (hn.wf t (ht t h1).1) hi).2 hne) (by omega) u hu s hs
 ·obtain ⟨t,h1,m,rfl⟩:=canons_each ts [] u hu
  refine Nat.le_trans (canon1_args t m (fun a=>a≤30) (fun x hx => ?_) s hs) (by omega)
  obtain ⟨i,hi⟩:=List.mem_iff_getElem?.1 hx
  have hil:=(List.getElem?_eq_some_iff.1 hi).1
  have:=args_le (hn.wf t (ht t h1).1) (i:=i) hil
  have he:symAt t i=x:=by unfold symAt; rw [List.getD_eq_getElem?_getD,hi]; rfl
  rw [he] at this
  have:=(ht t h1).2
  omega
 ·refine Nat.le_trans (canons_txt ts [] (fun t h1=>⟨hn.wf t (ht t h1).1,(ht t h1).2,fun s hs=>Nat.le_trans (hm t (ht t h1).1 s hs) (by omega)⟩) ?_ u hu) (by omega)
  simp only [List.length_nil]
  omega
theorem vals_tx {n:ND} (hn:NOk n) (hm:NNm n) (hl:n.vals.length≤60):TxOk n.vals:=by
 have hfl:n.vals.flatten.length≤30 * n.vals.length:=flat_le (fun t h=>hn.vsize h)
 refine tx_ok hn hm (fun t h=>⟨by unfold ND.terms; simp [h],hn.vsize h⟩) (by omega) ?_
 have:=canons_met n.vals []
 simp only [List.length_nil] at this
 omega
theorem vals_pairs {n:ND} (hn:NOk n) (hm:NNm n) (hl:n.vals.length≤60) {names:Names} (hs:names.length≤60) (hns:∀ x ∈ names,x.length≤8):(pairs [] names (canons n.vals []).1).length≤100000000:=by
 have hfl:n.vals.flatten.length≤30 * n.vals.length:=flat_le (fun t h=>hn.vsize h)
 have:=pairs_len names n.vals [] [] (fun x hx=>Nat.le_trans (hns x hx) (by omega)) (fun t ht=>⟨hn.wf t (by unfold ND.terms; simp [ht]),by have:=hn.vsize ht; omega,fun s hs=>Nat.le_trans (hm t (by unfold ND.terms; simp [ht]) s hs) (by omega)⟩) (by simp) (by simp only [List.length_nil]; omega)
 omega
set_option maxRecDepth 10000 in
set_option maxHeartbeats 2000000 in
theorem answer_code (w:World) (nv gv vv rv kv dv:Value) (uu:Nat) (names:Names) (n:ND) (hg:∃ a l c,gv = .slice a l c) (hr:∃ a l c,rv = .slice a l c) (hk:∃ a l c,kv = .slice a l c) (hd:∃ a l c,dv = .slice a l c) (hnv:w.ownsRow 0 9 1 nv names.length (strs names)) (hv:TermsIn w vv n.vals) (hn:NOk n) (hm:NNm n) (hl:n.vals.length=names.length) (hs:names.length≤60) (hns:∀ x ∈ names,x.length≤8) :
  Calls Tryz.prog 43 #[.agg #[nv,gv,vv,rv,.int .i64 uu,kv,dv]] w fun e w'=>Ext w w'∧e = .returned (.string ⟨(answerN names n).toArray⟩):=by
 obtain ⟨g1,g2,g3,rfl⟩:=hg
 obtain ⟨r1,r2,r3,rfl⟩:=hr
 obtain ⟨k1,k2,k3,rfl⟩:=hk
 obtain ⟨d1,d2,d3,rfl⟩:=hd
 obtain ⟨na,ncap,rfl⟩:=owns_slice hnv
 obtain ⟨va,vcap,rfl⟩:=hv.shape
 have HA:Hid (∀ o,Calls Tryz.prog 70 #[.slice na names.length ncap,.slice va n.vals.length vcap] (w.alloc o) fun e w'=>Ext (w.alloc o) w'∧e = .returned (.string ⟨(answerN names n).toArray⟩)):=fun o=>by
  have hE:Ext w (w.alloc o):=(Ext.of (by repeat' (first | with_reducible exact Kept.refl _ _ | with_reducible apply Kept.drew | with_reducible apply Kept.drewN | with_reducible apply Kept.alloc | with_reducible refine Kept.setCell ?_ ?_ _ | exact fun h=>absurd h (by simp <;> omega))))
  exact answerText_any _ _ _ names n.vals (owns_same hnv (fun j hj=>hE.block j (hnv.lt j hj).2)) (hv.ext hE) (vals_tx hn hm (by omega)) hl.symm (vals_pairs hn hm (by omega) hs hns)
 clear hnv hv hn hm hl hs hns
 go_enter Tryz.func43,Tryz.ntmps43
 go_wp2_with fail
 refine (HA.out _).mono ?_
 rintro e w1 ⟨hE1,rfl⟩
 have HE1:=hide' hE1
 clear hE1
 go_wp2
 go_ret
 exact ⟨(Below.refl _ w |>.alloc (Nat.le_refl _) _).trans (HE1.out.mono (by simp)),rfl⟩
set_option maxRecDepth 10000 in
set_option maxHeartbeats 2000000 in
theorem yes_code:YesCode:=by
 intro p q x w hp hq hx
 have HC:=hide' (check_code p q x w hp hq hx)
 obtain ⟨Y,hY⟩:∃ Y,Y=yesN p q x:=⟨_,rfl⟩
 rw [← hY]
 have HY:=hide' hY
 clear hp hq hx hY
 go_enter Tryz.func19,Tryz.ntmps19
 go_wp2_with fail
 refine HC.out.mono ?_
 rintro e w1 ⟨hE1,hout⟩
 have hz1:=hE1.size
 have HE1:=hide' hE1
 clear hE1 HC
 rcases hout with ⟨hne,rfl⟩ | ⟨a,ks,n,m,hH,n1,nc,g1,g2,g3,v1,v2,v3,r1,r2,r3,uu,k1,kc,d1,dc,rfl,hN,hnames,hks,hds⟩
 ·obtain ⟨er,her⟩:∃ r,r=(heldN p q x).2.2.1:=⟨_,rfl⟩
  obtain ⟨pe,hpe⟩:∃ r,r=(heldN p q x).2.2.2:=⟨_,rfl⟩
  rw [← her,← hpe]
  rw [← her] at hne
  have Hy:Hid (Y=([],er,pe)):=by show _=_; rw [HY.out,yesN,if_neg (by rw [← her]; exact hne),← her,← hpe]
  have hb:((er:Int) != 0)=true:=by rw [bne_iff_ne]; omega
  clear her hpe hne
  unfold zeroProof
  go_wp2_with fail
  go_quiet (fail)
  go_wp2
  go_ret3
  rw [Hy.out]
  exact ⟨rfl,HE1.out.trans (Kept.below (S:=fun i=>w.heap.size≤i) (by repeat' (first | with_reducible exact Kept.refl _ _ | with_reducible apply Kept.drew | with_reducible apply Kept.drewN | with_reducible apply Kept.alloc | with_reducible refine Kept.setCell ?_ ?_ _ | (intro _; simp only; omega))) (by omega) (fun _ h=>h))⟩
 ·have hvl:=heldN_vals hH.ask hH.held
  have hsm:=ask_small hH.ask
  obtain ⟨_,_,_,_,_,_,_,_,ha8⟩:=ask_parsed hH.ask
  have hans:answerN a.2 n=answerN a.2 m:=by unfold answerN; rw [hH.same.valsC hH.ok]
  have Hy:Hid (Y=(answerN a.2 n,0,0)):=by show _=_; rw [HY.out,yesN,hH.held,hans]; simp
  have HAn:Hid (∀ y,Ext w1 y→Calls Tryz.prog 43 #[.agg #[.slice n1 a.2.length nc,.slice g1 g2 g3,.slice v1 v2 v3,.slice r1 r2 r3,.int .i64 uu,.slice k1 ks.length kc,.slice d1 (m.done.map (·.2)).length dc]] y fun e w'=>Ext y w'∧e = .returned (.string ⟨(answerN a.2 n).toArray⟩)):=fun y hE =>
   answer_code y _ _ _ _ _ _ uu a.2 n ⟨_,_,_,rfl⟩ ⟨_,_,_,rfl⟩ ⟨_,_,_,rfl⟩ ⟨_,_,_,rfl⟩ (owns_same hnames (fun j hj=>hE.block j (hnames.lt j hj).2)) (hN.vals.ext hE) hH.ok hH.nm (by rw [hH.same.vl,hvl]) hsm ha8
  obtain ⟨T,hT⟩:∃ T,T=answerN a.2 n:=⟨_,rfl⟩
  rw [← hT] at HAn Hy
  obtain ⟨D,hD⟩:∃ D,D=(m.done.map (·.2)).length:=⟨_,rfl⟩
  rw [← hD] at HAn ⊢
  clear hvl hsm ha8 hans hH hN hnames hks hds hT hD
  go_wp2_with fail
  refine (HAn.out _ ((Below.refl _ w1 |>.alloc (Nat.le_refl _) _).alloc (by simp) _)).mono ?_
  rintro e w2 ⟨hE2,rfl⟩
  have HE2:=hide' hE2
  clear hE2
  go_wp2
  go_ret3
  rw [Hy.out]
  exact ⟨rfl,(HE1.out.trans (Kept.below (S:=fun i=>w.heap.size≤i) (by repeat' (first | with_reducible exact Kept.refl _ _ | with_reducible apply Kept.drew | with_reducible apply Kept.drewN | with_reducible apply Kept.alloc | with_reducible refine Kept.setCell ?_ ?_ _ | (intro _; simp only; omega))) (by omega) (fun _ h=>h))).trans (HE2.out.mono (by simp; omega))⟩
theorem yeses_hold:Rows.YesesCardSaid:=yeses_card yes_code
end Go.Proofs.YtlmjilpjmgjjcaaGreatDoor
