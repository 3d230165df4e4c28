/-
  PROVED HERE: the laws 'Programs' and 'Queries' return true wherever the program's own Program and Query answer as the document does (a condition of each theorem here, shown elsewhere).
-/
import Derived.Test.YtlmjilpjmgjjcaaGreatDoorT12
namespace Go.Proofs.YtlmjilpjmgjjcaaGreatDoor
open Go.RowKit
set_option linter.unusedSimpArgs false
set_option linter.unusedVariables false
def TryX (n:ND) (c:Cls) (k:Nat) (X:Nat→Prop) (v:Value) (u:World):Prop:=∃ g1 g2 g3 v1 v2 v3 r1 r2 r3,∃ uu q:Nat,v = .tuple #[.agg #[.slice g1 g2 g3,.slice v1 v2 v3,.slice r1 r2 r3,.int .i64 uu],.int .i64 q] ∧
 ((q=0∧(n.goals=[]∨Out n c k 0 n))∨(q=2∧∃ ch,Out n c k 3 ch)∨(q=1∧∃ ch qq,(qq=1∨qq=2)∧Out n c k qq ch∧uu=ch.vars∧g2=ch.goals.length ∧
  (∃ vs,TermsAt u 0 (.slice g1 g2 g3) (ch.goals.map (·.1)) vs∧(∀ j,(Value.slice g1 g2 g3).ownBlock=some j→¬ X j)∧∀ x ∈ vs,∀ j,x.ownBlock=some j→¬ X j) ∧
  (∃ vs,TermsAt u 0 (.slice v1 v2 v3) ch.vals vs∧(∀ j,(Value.slice v1 v2 v3).ownBlock=some j→¬ X j)∧∀ x ∈ vs,∀ j,x.ownBlock=some j→¬ X j) ∧
  (∃ vs,TermsAt u 0 (.slice r1 r2 r3) (ch.done.map (·.1)) vs∧(∀ j,(Value.slice r1 r2 r3).ownBlock=some j→¬ X j)∧∀ x ∈ vs,∀ j,x.ownBlock=some j→¬ X j)))
theorem Zhl {X X':Nat→Prop} {v:Value} {ls:List (List Sym)} {u u':World} (h:∃ vs,TermsAt u 0 v ls vs∧(∀ j,v.ownBlock=some j→¬ X j)∧∀ x ∈ vs,∀ j,x.ownBlock=some j→¬ X j) (hb:∀ k,k<u.heap.size→¬ X k→u'.heap[k]?=u.heap[k]?) (hX:∀ k,k<u.heap.size→X' k→X k) :
  ∃ vs,TermsAt u' 0 v ls vs∧(∀ j,v.ownBlock=some j→¬ X' j)∧∀ x ∈ vs,∀ j,x.ownBlock=some j→¬ X' j:=by
 obtain ⟨vs,h,h1,h2⟩:=h
 have hlen:vs.length=ls.length:=by have:=h.owns.1; omega
 have hin:∀ x ∈ vs,∃ l,WordAt u x l:=fun x hx=>by
  obtain ⟨i,hi⟩:=List.mem_iff_getElem?.1 hx
  have hil:=(List.getElem?_eq_some_iff.1 hi).1
  obtain ⟨y,h3,h4⟩:=h.all i _ (List.getElem?_eq_getElem (by omega))
  rw [hi] at h3
  simp only [Option.some.injEq] at h3
  subst h3
  exact ⟨_,h4⟩
 refine ⟨vs,⟨Zan h.owns (fun j hj=>hb j (h.owns.lt j hj).2 (h1 j hj)),fun i l hi => ?_⟩,fun j hj hx=>h1 j hj (hX j (h.owns.lt j hj).2 hx),fun x hx j hj hx' => ?_⟩
 ·obtain ⟨y,h3,h4⟩:=h.all i l hi
  exact ⟨y,h3,Zan h4 (fun j hj=>hb j (h4.lt j hj).2 (h2 y (List.mem_of_getElem? h3) j hj))⟩
 ·obtain ⟨l,hl⟩:=hin x hx
  exact h2 x hx j hj (hX j (hl.lt j hj).2 hx')
theorem TryX.stable {n:ND} {c:Cls} {k:Nat}:∀ X X' v u u',TryX n c k X v u→(∀ k,k<u.heap.size→¬ X k→u'.heap[k]?=u.heap[k]?)→u.heap.size≤u'.heap.size→(∀ k,k<u.heap.size→X' k→X k)→TryX n c k X' v u':=by
 rintro X X' v u u' ⟨g1,g2,g3,v1,v2,v3,r1,r2,r3,uu,q,rfl,h⟩ hb _ hX
 refine ⟨g1,g2,g3,v1,v2,v3,r1,r2,r3,uu,q,rfl,?_⟩
 rcases h with h | h | ⟨rfl,ch,qq,h1,h2,h3,h4,h5,h6,h7⟩
 ·exact Or.inl h
 ·exact Or.inr (Or.inl h)
 ·exact Or.inr (Or.inr ⟨rfl,ch,qq,h1,h2,h3,h4,Zhl h5 hb hX,Zhl h6 hb hX,Zhl h7 hb hX⟩)
theorem TryOut.toX {n:ND} {c:Cls} {k:Nat} {X:Nat→Prop} {w w':World} {e:Ending} (h:TryOut n c k w e w') (hX:∀ j,X j→j<w.heap.size):∃ v,e = .returned v∧Ext w w'∧TryX n c k X v w':=by
 obtain ⟨hE,g1,g2,g3,v1,v2,v3,r1,r2,r3,uu,q,rfl,h⟩:=h
 refine ⟨_,rfl,hE,g1,g2,g3,v1,v2,v3,r1,r2,r3,uu,q,rfl,?_⟩
 have key:∀ {v:Value} {ls:List (List Sym)},TermsNew w.heap.size w' v ls→∃ vs,TermsAt w' 0 v ls vs∧(∀ j,v.ownBlock=some j→¬ X j)∧∀ x ∈ vs,∀ j,x.ownBlock=some j→¬ X j:=fun {v ls} h=>by
  obtain ⟨vs,h1,h2,h3⟩:=h
  exact ⟨vs,h1,fun j hj hx=>by have:=h2 j hj; have:=hX j hx; omega,fun x hx j hj hx'=>by have:=h3 x hx j hj; have:=hX j hx'; omega⟩
 rcases h with h | h | ⟨rfl,ch,qq,h1,h2,h3,h4,h5⟩
 ·exact Or.inl h
 ·exact Or.inr (Or.inl h)
 ·exact Or.inr (Or.inr ⟨rfl,ch,qq,h1,h2,h4,h5,key h3.goals,key h3.vals,key h3.done⟩)
def Ziv (cs:List Cls) (a:List (List Sym) × Names) (ks:List Nat) (w:World) (e:Ending) (w':World):Prop:=Ext w w' ∧
 (((Zar cs (topN a) ks 0).2.1≠0∧e = .returned (.tuple #[.agg #[.slice none 0 0,.slice none 0 0,.slice none 0 0,.int .i64 0],.agg #[.int .i64 (Zar cs (topN a) ks 0).2.1,.int .i64 (Zar cs (topN a) ks 0).2.2]])) ∨
  ((Zar cs (topN a) ks 0).2=(0,0)∧∃ g1 g2 g3 v1 v2 v3 r1 r2 r3,∃ uu:Nat,∃ n,e = .returned (.tuple #[.agg #[.slice g1 g2 g3,.slice v1 v2 v3,.slice r1 r2 r3,.int .i64 uu],.agg #[.int .i64 0,.int .i64 0]])∧NodeIn w' (.slice g1 g2 g3) (.slice v1 v2 v3) (.slice r1 r2 r3) n∧NOk n∧NNm n∧NFew n∧Same n (Zar cs (topN a) ks 0).1))
theorem ProgIn.cell {w:World} {lb cap:Nat} {cs:List Cls} {xs:List (List Value)} (h:ProgIn w (.slice (some ⟨lb,0,none⟩) cs.length cap) cs xs) {k:Nat} {c:Cls} (hc:cs[k]?=some c):∃ hv bv nv,w.cell? ⟨lb,k * 3,none⟩=some hv∧w.cell? ⟨lb,k * 3+1,none⟩=some bv∧w.cell? ⟨lb,k * 3+2,none⟩=some nv∧ClsIn w hv bv nv c:=by
 obtain ⟨hv,bv,nv,hx,hcl⟩:=h.all k c hc
 have key:∀ (xs:List (List Value)) (k:Nat),(∀ x ∈ xs,x.length=3)→xs[k]?=some [hv,bv,nv]→∀ j,j<3→xs.flatten[k * 3+j]?=[hv,bv,nv][j]?:=by
  intro xs
  induction xs with
  | nil=>intro k _ h; simp at h
  | cons x xs ih =>
   intro k h3 hk j hj
   rw [List.flatten_cons]
   have hx3:=h3 x (by simp)
   cases k with
   | zero =>
    simp at hk
    subst hk
    rw [List.getElem?_append_left (by simp; omega)]
    simp
   | succ k =>
    rw [List.getElem?_append_right (by omega),hx3]
    have:=ih k (fun y hy=>h3 y (by simp [hy])) (by simpa using hk) j hj
    rw [← this]
    congr 1
    omega
 have k3:=key xs k h.three hx
 refine ⟨hv,bv,nv,Zaf h.owns _ _ ?_,Zaf h.owns _ _ ?_,Zaf h.owns _ _ ?_,hcl⟩
 ·have:=k3 0 (by omega); simpa using this
 ·have:=k3 1 (by omega); simpa using this
 ·have:=k3 2 (by omega); simpa using this
structure FolAt (w:World) (nb:Nat) (cs:List Cls) (a:List (List Sym) × Names) (ks:List Nat) (i:Nat) (n m:ND) (gv vv rv:Value) (wr:World):Prop where
 ext:Ext w wr
 res:NB wr (w.heap.size+1) (.slice none 0 0) (.slice none 0 0) (.slice none 0 0) 0
 flt:wr.heap[w.heap.size+2]?=some (.cells #[.int .i64 0,.int .i64 0] 91 (0,0))
 box:NB wr nb gv vv rv n.vars
 node:NodeIn wr gv vv rv n
 ok:NOk n
 nm:NNm n
 few:NFew n
 same:Same n m
 fol:Zar cs (topN a) ks 0=Zar cs m (ks.drop i) i
set_option maxRecDepth 10000 in
set_option maxHeartbeats 4000000 in
theorem Zur (w:World) (cv hv bv nv kv:Value) (cs:List Cls) (xs:List (List Value)) (a:List (List Sym) × Names) (ks:List Nat) (hP:ProgIn w cv cs xs) (hh:∃ a n x,hv = .slice a n x) (hb:TermsIn w bv a.1) (hns:w.ownsRow 0 9 1 nv a.2.length (strs a.2)) (hk:w.ownsRow 0 3 1 kv ks.length (ints ks))
  (hcs:∀ c ∈ cs,COk c∧CNm c) (hcf:∀ c ∈ cs,CFew c) (hcl:cs.length≤24) (hN:NOk (topN a)) (hNn:NNm (topN a)) (hNf:NFew (topN a)) (hal:a.1.length≤6) (han:a.2.length≤121) (hkl:ks.length≤400) (hk9:∀ k ∈ ks,k≤99) :
  Calls Tryz.prog 68 #[cv,.agg #[hv,bv,nv],kv] w (Ziv cs a ks w):=by
 obtain ⟨h1,h2,h3,rfl⟩:=hh
 obtain ⟨ba,bcap,rfl⟩:=hb.shape
 obtain ⟨na,ncap,rfl⟩:=Zad hns
 obtain ⟨ka,kcap,rfl⟩:=Zad hk
 obtain ⟨la,lcap,rfl⟩:=Zad hP.owns
 obtain ⟨W,hW⟩:∃ W,W=((w.alloc (.cells #[.slice h1 h2 h3,.slice ba a.1.length bcap,.slice na a.2.length ncap] 107)).alloc (.cells #[.slice none 0 0,.slice none 0 0,.slice none 0 0,.int .i64 0] 87)).alloc (.cells #[.int .i64 0,.int .i64 0] 91):=⟨_,rfl⟩
 have hE0:Ext w W:=by rw [hW]; exact (Ext.of (by repeat' (first | with_reducible exact Kept.refl _ _ | with_reducible apply Kept.drew | with_reducible apply Kept.drewN | with_reducible apply Kept.alloc | with_reducible refine Kept.setCell ?_ ?_ _ | exact fun h=>absurd h (by simp <;> omega))))
 have hWs:W.heap.size=w.heap.size+3:=by rw [hW]; simp
 have hb1:NB W (w.heap.size+1) (.slice none 0 0) (.slice none 0 0) (.slice none 0 0) 0:=by rw [hW]; exact Zag (Zet (by simp) _) _
 have hb2:W.heap[w.heap.size+2]?=some (.cells #[.int .i64 0,.int .i64 0] 91 (0,0)):=by rw [hW]; exact Zet (by simp) _
 have htm:∀ l ∈ a.1,TmOk l:=fun l hl=>by
  have hlt:l ∈ (topN a).terms:=by
   unfold ND.terms topN
   refine List.mem_append_left _ ?_
   simp
   exact hl
  have hg:=(hN.gs (l,0) (by unfold topN; simp; exact hl)).1
  exact Znu (hN.wf l hlt) (by have h':l.length≤30:=hg; omega) (hN.occ l hlt) (by have:(topN a).vars=a.2.length:=rfl; omega)
 have HT:=Zaa (topC_any W (.slice h1 h2 h3) (.slice ba a.1.length bcap) (.slice na a.2.length ncap) a.1 a.2 ⟨_,_,_,rfl⟩ (hb.ext hE0) (Zan hns (fun j hj=>hE0.block j (hns.lt j hj).2)) (by omega) (by omega) htm)
 have HP:=Zaa hP
 have Hk:=Zaa hk
 have Hcs:=Zaa hcs
 have Hk9:=Zaa hk9
 have HN:=Zaa hN
 have HNn:=Zaa hNn
 have HNf:=Zaa hNf
 have Hcf:=Zaa hcf
 have HE0:=Zaa hE0
 have Hb1:=Zaa hb1
 have Hb2:=Zaa hb2
 clear hP hb hns hk hcs hk9 hN hNn hNf hcf hE0 hb1 hb2 htm
 go_enter Tryz.func68,Tryz.ntmps68
 go_wp2_with fail
 rw [← hW]
 have HW:=Zaa hW
 clear hW
 refine HT.out.mono ?_
 rintro e w1 ⟨hE1,g1,gc,v1,vc,rfl,hg,hv⟩
 have hz1:=hE1.size
 have hEw1:Ext w w1:=HE0.out.trans (hE1.mono (by omega))
 have hF:FolAt w w1.heap.size cs a ks 0 (topN a) (topN a) (.slice g1 a.1.length gc) (.slice v1 a.2.length vc) (.slice none 0 0) (w1.alloc (.cells #[.slice g1 a.1.length gc,.slice v1 a.2.length vc,.slice none 0 0,.int .i64 a.2.length] 87)):=by
  have hE2:Ext w1 (w1.alloc (.cells #[.slice g1 a.1.length gc,.slice v1 a.2.length vc,.slice none 0 0,.int .i64 a.2.length] 87)):=(Ext.of (by repeat' (first | with_reducible exact Kept.refl _ _ | with_reducible apply Kept.drew | with_reducible apply Kept.drewN | with_reducible apply Kept.alloc | with_reducible refine Kept.setCell ?_ ?_ _ | exact fun h=>absurd h (by simp <;> omega))))
  refine ⟨hEw1.trans (hE2.mono (by omega)),(hE2.block _ (by omega)).trans ((hE1.block _ (by omega)).trans Hb1.out),(hE2.block _ (by omega)).trans ((hE1.block _ (by omega)).trans Hb2.out),heap_alloc_new w1 _,⟨?_,hv.ext hE2,?_⟩,HN.out,HNn.out,HNf.out,Same.refl HN.out,by simp⟩
  ·have:(topN a).goals.map (·.1)=a.1:=by unfold topN; rw [List.map_map]; exact (List.map_congr_left (fun _ _=>rfl)).trans (List.map_id _)
   rw [this]; exact hg.ext hE2
  ·exact ⟨[],TermsAt.nil _ _⟩
 have HF:=Zaa hF
 have hnb:w.heap.size+3≤w1.heap.size:=by omega
 have Hz:Hid (Ext w w1):=hEw1
 clear hE1 hEw1 hg hv hF HT hz1 hWs
 go_wp2
 go_loopg [17] (ks.length+1) (fun gk iv wr=>∃ (i:Nat) (n m:ND) (gv vv rv:Value),iv = .int .i64 i∧i≤ks.length∧ks.length - i<gk∧FolAt w w1.heap.size cs a ks i n m gv vv rv wr)
 case atStart=>exact ⟨0,topN a,topN a,_,_,_,by go_num,Nat.zero_le _,by omega,HF.out⟩
 case round =>
  obtain ⟨j,n,m,gv,vv,rv,rfl,hj,hgk,hF⟩:=hrel
  obtain ⟨ga,gcap,rfl⟩:=hF.node.goals.shape
  obtain ⟨va,vcap,rfl⟩:=hF.node.vals.shape
  obtain ⟨ra,rcap,rfl⟩:=hF.node.done.shape
  simp only [List.length_map] at hF
  try simp only [List.length_map]
  have hsr:=hF.ext.size
  have n0:wr.cell? ⟨w1.heap.size,0,none⟩=some (.slice ga n.goals.length gcap):=Zab hF.box 0 _ rfl
  have n1:wr.cell? ⟨w1.heap.size,1,none⟩=some (.slice va n.vals.length vcap):=Zab hF.box 1 _ rfl
  have n2:wr.cell? ⟨w1.heap.size,2,none⟩=some (.slice ra n.done.length rcap):=Zab hF.box 2 _ rfl
  have n3:wr.cell? ⟨w1.heap.size,3,none⟩=some (.int .i64 n.vars):=Zab hF.box 3 _ rfl
  have nf:=fun i=>Zae hF.box i
  have nl:=Zac hF.box
  have r0:=Zab hF.res 0 _ rfl
  have r1:=Zab hF.res 1 _ rfl
  have r2:=Zab hF.res 2 _ rfl
  have r3:=Zab hF.res 3 _ rfl
  have rf:=fun i=>Zae hF.res i
  have rl:=Zac hF.res
  have f0:=Zab hF.flt 0 _ rfl
  have f1:=Zab hF.flt 1 _ rfl
  have ff:=fun i=>Zae hF.flt i
  have fl:=Zac hF.flt
  have HF:=Zaa hF
  clear hF
  have Herr:Hid (∀ (p:Nat) (y:World) x0 x1 x2 x3 z0 z1,Ext w y→(Zar cs m (ks.drop j) j).2=(7,p)→Ziv cs a ks w (.returned (.tuple #[.agg #[.slice none 0 0,.slice none 0 0,.slice none 0 0,.int .i64 0],.agg #[.int .i64 7,.int .i64 p]])) ((((((y.setCell ⟨w.heap.size+1,0,none⟩ x0).setCell ⟨w.heap.size+1,1,none⟩ x1).setCell ⟨w.heap.size+1,2,none⟩ x2).setCell ⟨w.heap.size+1,3,none⟩ x3).setCell ⟨w.heap.size+2,0,none⟩ z0).setCell ⟨w.heap.size+2,1,none⟩ z1)):=fun p y x0 x1 x2 x3 z0 z1 hE hf=>by
   refine ⟨(((((hE.setCell (p:=⟨w.heap.size+1,0,none⟩) (by simp) _).setCell (p:=⟨w.heap.size+1,1,none⟩) (by simp) _).setCell (p:=⟨w.heap.size+1,2,none⟩) (by simp) _).setCell (p:=⟨w.heap.size+1,3,none⟩) (by simp) _).setCell (p:=⟨w.heap.size+2,0,none⟩) (by simp) _).setCell (p:=⟨w.heap.size+2,1,none⟩) (by simp) _,Or.inl ?_⟩
   rw [HF.out.fol,hf]
   exact ⟨by simp,rfl⟩
  by_cases hlt:j<ks.length
  ·obtain ⟨k,hk⟩:∃ k,ks[j]?=some k:=⟨_,List.getElem?_eq_getElem hlt⟩
   have hdk:ks.drop j=k::ks.drop (j+1):=by rw [List.drop_eq_getElem_cons hlt,(List.getElem?_eq_some_iff.1 hk).2]
   have hk99:=Hk9.out k (List.mem_of_getElem? hk)
   obtain ⟨kb,kcap',kcur,hke,hBk,hkb,hkc⟩:=Zal Hk.out (by omega)
   simp only [Value.slice.injEq] at hke
   obtain ⟨rfl,_,rfl⟩:=hke
   have hkbw:=Zac hkb
   have k0:wr.cell? ⟨kb,j,none⟩=some (.int .i64 k):=(HF.out.ext.cell (p:=⟨kb,j,none⟩) hkbw).trans (Zaf Hk.out j _ (by simp only [ints,List.getElem?_map,hk,Option.map_some]))
   have hkbl:kb<wr.heap.size:=by omega
   have Hdk:=Zaa hdk
   have hkn:¬ ((k:Int)<0):=by omega
   clear hdk hkb hk
   by_cases hkc2:k<cs.length
   ·have hkc3:¬ ((cs.length:Int)≤(k:Int)):=by omega
    obtain ⟨c,hc⟩:∃ c,cs[k]?=some c:=⟨_,List.getElem?_eq_getElem hkc2⟩
    obtain ⟨lb,lcap',lcur,hle,_,hlb,_⟩:=Zal HP.out.owns (by omega)
    simp only [Value.slice.injEq] at hle
    obtain ⟨rfl,_,rfl⟩:=hle
    have hlbw:=Zac hlb
    obtain ⟨cv0,cv1,cv2,e0,e1,e2,hcl2⟩:=HP.out.cell hc
    have l0:=(HF.out.ext.cell (p:=⟨lb,k * 3,none⟩) hlbw).trans e0
    have l1:=(HF.out.ext.cell (p:=⟨lb,k * 3+1,none⟩) hlbw).trans e1
    have l2:=(HF.out.ext.cell (p:=⟨lb,k * 3+2,none⟩) hlbw).trans e2
    obtain ⟨d0,d1,rfl⟩:=Zad hcl2.head
    obtain ⟨d2,d3,rfl⟩:=hcl2.body.shape
    obtain ⟨d4,d5,rfl⟩:=Zad hcl2.names
    have hlbl:lb<wr.heap.size:=by omega
    obtain ⟨hco,hcm⟩:=Hcs.out c (List.mem_of_getElem? hc)
    have Hcm:=Zaa hcm
    have Hcw:Hid (CFew c):=Hcf.out c (List.mem_of_getElem? hc)
    have HI:Hid (∀ Z u,Ext wr.drew u→(∀ k,Z k→wr.heap.size≤k∧k<u.heap.size)→Calls Tryz.prog 97 #[.agg #[.slice ga n.goals.length gcap,.slice va n.vals.length vcap,.slice ra n.done.length rcap,.int .i64 n.vars],.agg #[.slice d0 c.head.length d1,.slice d2 c.body.length d3,.slice d4 c.names.length d5]] u fun e u'=>∃ r,e = .returned r∧Ext u u'∧TryX n c k Z r u'):=fun Z u hu hZ=>by
     have hwu:Ext wr u:=hu.undrew
     refine (try_code u _ _ _ _ _ _ n c k HF.out.ok hco (HF.out.node.ext hwu) (hcl2.ext (HF.out.ext.trans (hwu.mono hsr)))).mono ?_
     intro e u' h
     exact h.toX (fun j hj=>(hZ j hj).2)
    have Hc:=Zaa hc
    have Hco:=Zaa hco
    clear hc hlb e0 e1 e2 hcl2 hco hcm
    go_wp2_with fail
    refine Zgd (by kernel_rfl) [.pur (.agg #[.slice ga n.goals.length gcap,.slice va n.vals.length vcap,.slice ra n.done.length rcap,.int .i64 n.vars]),.pur (.slice (some ⟨lb,0,none⟩) cs.length lcap),.pur (.int .i64 k),.pur (.pointer (some ⟨lb,k * 3,none⟩)),.pur (.agg #[.slice d0 c.head.length d1,.slice d2 c.body.length d3,.slice d4 c.names.length d5]),
     .cal,.post (fun v=>v),.post (Zeh 0),.post (Zeh 1),.alo 87 #[.slice none 0 0,.slice none 0 0,.slice none 0 0,.int .i64 0] 10 (fun v=>cellsOf (Zeh 0 v)),.sto 9,.post (Zeh 1)] 5 (by kernel_rfl) (TryX n c k) 97 _ TryX.stable HI.out ?_ rfl (by decide) ?_
    ·refine ⟨fun vc β u hu => ?_,fun vc β u hu => ?_,fun vc β u hu => ?_,fun vc β u hu => ?_,fun vc β u hu => ?_,fun vc β u => ?_,?_,?_,?_,fun vc β u => ?_,?_,?_,trivial⟩
     all_goals try (simp [pa,Kd.val,go_sem,hu.up n0,hu.up n1,hu.up n2,hu.up n3,hu.up l0,hu.up l1,hu.up l2,hkc2]; done)
     all_goals try (simp [pa,Kd.val,go_sem]; done)
     all_goals try (rintro vc β Z u ⟨g1,g2,g3,v1,v2,v3,q1,q2,q3,uu,qq,rfl,_⟩; simp [pa,Kd.val,go_sem,Zeh]; done)
     rintro vc β Z u t z sx cl he ⟨g1,g2,g3,v1,v2,v3,q1,q2,q3,uu,qq,rfl,_⟩ hb
     simp at he
     obtain ⟨rfl,rfl,rfl,rfl⟩:=he
     have z0:=Zab hb 0 _ rfl
     have z1:=Zab hb 1 _ rfl
     have z2:=Zab hb 2 _ rfl
     have z3:=Zab hb 3 _ rfl
     have zf:=fun i=>Zae hb i
     refine ⟨_,?_,Zai (Zai (Zai (Zai hb 0 _) 1 _) 2 _) 3 _,((((Kept.refl (only (β 9)) u).put 0 _).put 1 _).put 2 _).put 3 _⟩
     simp [pa,Kd.val,go_sem,z0,z1,z2,z3,zf,Zeh]
    rintro vc β w4 hext4 ⟨g1,g2,g3,v1,v2,v3,q1,q2,q3,uu,qq,rfl,hqq⟩ hbox _
    have hext4:=hext4.undrew
    have hs4:=hext4.size
    obtain ⟨hb0,hbx⟩:=hbox 9 _ _ _ _ rfl
    have hbx':w4.heap[β 9]?=some (.cells #[.slice g1 g2 g3,.slice v1 v2 v3,.slice q1 q2 q3,.int .i64 uu] 87 (0,0)):=hbx
    generalize hbe:β 9=bt at *
    have z0:=Zab hbx' 0 _ rfl
    have z1:=Zab hbx' 1 _ rfl
    have z2:=Zab hbx' 2 _ rfl
    have z3:=Zab hbx' 3 _ rfl
    have zl:=Zac hbx'
    have hn4:=(hext4.block _ nl).trans HF.out.box
    have hr4:=(hext4.block _ rl).trans HF.out.res
    have hf4:=(hext4.block _ fl).trans HF.out.flt
    have n0:=Zab hn4 0 _ rfl
    have n1:=Zab hn4 1 _ rfl
    have n2:=Zab hn4 2 _ rfl
    have n3:=Zab hn4 3 _ rfl
    have nf:=fun i=>Zae hn4 i
    have nl4:=Zac hn4
    have r0:=Zab hr4 0 _ rfl
    have r1:=Zab hr4 1 _ rfl
    have r2:=Zab hr4 2 _ rfl
    have r3:=Zab hr4 3 _ rfl
    have rf:=fun i=>Zae hr4 i
    have rl4:=Zac hr4
    have f0:=Zab hf4 0 _ rfl
    have f1:=Zab hf4 1 _ rfl
    have ff:=fun i=>Zae hf4 i
    have fl4:=Zac hf4
    have hEw4:Ext w w4:=HF.out.ext.trans (hext4.mono hsr)
    have Hn4:=Zaa hn4
    have Hr4:=Zaa hr4
    have Hf4:=Zaa hf4
    have HEw4:=Zaa hEw4
    have Hqq:=Zaa hqq
    clear hbx hbx' hn4 hr4 hf4 hext4 hqq hbox k0 hEw4 HI l0 l1 l2
    simp only [paAll,pa,Kd.val,if_true,Act.put,Zeh]
    rw [hbe]
    by_cases hq1:qq=1
    ·subst hq1
     obtain ⟨ch,q12,h12,hout,huu,hg2,t1,t2,t3⟩:∃ ch qq,(qq=1∨qq=2)∧Out n c k qq ch∧uu=ch.vars∧g2=ch.goals.length∧TermsIn w4 (.slice g1 g2 g3) (ch.goals.map (·.1))∧TermsIn w4 (.slice v1 v2 v3) ch.vals∧TermsIn w4 (.slice q1 q2 q3) (ch.done.map (·.1)):=by
      rcases Hqq.out with ⟨h,_⟩ | ⟨h,_⟩ | ⟨_,ch,q12,h1,h2,h3,h4,⟨a1,h5,_⟩,⟨a2,h6,_⟩,⟨a3,h7,_⟩⟩
      ·omega
      ·omega
      ·exact ⟨ch,q12,h1,h2,h3,h4,⟨a1,h5⟩,⟨a2,h6⟩,⟨a3,h7⟩⟩
     obtain ⟨hq,hch⟩:=Zks HF.out.ok HF.out.same Hco.out hout
     obtain ⟨hok,hsame⟩:=hch h12
     have hnm:=out_nm hout h12 HF.out.nm Hcm.out
     have hfw:=out_few hout h12 HF.out.few Hcw.out
     have hmg:m.goals≠[]:=by
      obtain ⟨g,gs,hg,_⟩:=hout
      have:=HF.out.same.gl
      intro e
      rw [hg,e] at this
      simp at this
     have hfo:Zar cs (topN a) ks 0=Zar cs (tryN m c k).1 (ks.drop (j+1)) (j+1):=by
      rw [HF.out.fol,Hdk.out]
      exact Zhb Hc.out hmg (by rw [← hq]; exact h12)
     subst huu
     have hK:Kept (fun b=>b=w1.heap.size) w4 ((((w4.setCell ⟨w1.heap.size,0,none⟩ (.slice g1 g2 g3)).setCell ⟨w1.heap.size,1,none⟩ (.slice v1 v2 v3)).setCell ⟨w1.heap.size,2,none⟩ (.slice q1 q2 q3)).setCell ⟨w1.heap.size,3,none⟩ (.int .i64 ch.vars)):=((((Kept.refl (only w1.heap.size) w4).put 0 _).put 1 _).put 2 _).put 3 _
     have hF2:FolAt w w1.heap.size cs a ks (j+1) ch (tryN m c k).1 (.slice g1 g2 g3) (.slice v1 v2 v3) (.slice q1 q2 q3) ((((w4.setCell ⟨w1.heap.size,0,none⟩ (.slice g1 g2 g3)).setCell ⟨w1.heap.size,1,none⟩ (.slice v1 v2 v3)).setCell ⟨w1.heap.size,2,none⟩ (.slice q1 q2 q3)).setCell ⟨w1.heap.size,3,none⟩ (.int .i64 ch.vars)) :=
      ⟨HEw4.out.trans (hK.below HEw4.out.size (fun j hj=>by omega)),(hK.block _ rl4 (by omega)).trans Hr4.out,(hK.block _ fl4 (by omega)).trans Hf4.out,Zai (Zai (Zai (Zai Hn4.out 0 _) 1 _) 2 _) 3 _,⟨t1.box Hn4.out (by decide) (by decide) hK,t2.box Hn4.out (by decide) (by decide) hK,t3.box Hn4.out (by decide) (by decide) hK⟩,hok,hnm,hfw,hsame,hfo⟩
     have HF2:=Zaa hF2
     clear hF2 hK hfo hmg hok hnm hfw hsame hch hq hout t1 t2 t3 hg2 h12
     go_wp2
     go_roundg (ks.length - j)
     case measure=>omega
     case rel=>exact ⟨j+1,ch,_,_,_,_,by go_num,by omega,by omega,HF2.out⟩
    ·have hb1:((qq:Int) != 1)=true:=by rw [bne_iff_ne]; omega
     have Hf:Hid ((Zar cs m (ks.drop j) j).2=(7,j)):=by
      show _=_
      rw [Hdk.out]
      rcases Hqq.out with ⟨_,h⟩ | ⟨_,ch,h⟩ | ⟨h,_⟩
      ·rcases h with h | h
       ·refine Zct (Or.inl ?_)
        have:=HF.out.same.gl
        rw [h] at this
        exact List.eq_nil_of_length_eq_zero (by simpa using this.symm)
       ·refine Zfc Hc.out ?_
        have:=(Zks HF.out.ok HF.out.same Hco.out h).1
        omega
      ·refine Zfc Hc.out ?_
       have:=(Zks HF.out.ok HF.out.same Hco.out h).1
       omega
      ·exact absurd h hq1
     clear hq1
     go_wp2
     refine bodyPost_ret (v := .tuple #[.agg #[.slice none 0 0,.slice none 0 0,.slice none 0 0,.int .i64 0],.agg #[.int .i64 7,.int .i64 j]]) (by simp [results,Tryz.results68,go_sem,r0,r1,r2,r3,rf,rl4,f0,f1,ff,fl4]) rfl ?_
     exact Herr.out j w4 _ _ _ _ _ _ HEw4.out Hf.out
   ·have hkc3:(cs.length:Int)≤(k:Int):=by omega
    have Hf:Hid ((Zar cs m (ks.drop j) j).2=(7,j)):=by show _=_; rw [Hdk.out]; exact Zct (Or.inr (by omega))
    go_wp2
    refine bodyPost_ret (v := .tuple #[.agg #[.slice none 0 0,.slice none 0 0,.slice none 0 0,.int .i64 0],.agg #[.int .i64 7,.int .i64 j]]) (by simp [results,Tryz.results68,go_sem,r0,r1,r2,r3,rf,rl,f0,f1,ff,fl]) rfl ?_
    exact Herr.out j wr _ _ _ _ _ _ HF.out.ext Hf.out
  ·have hej:j=ks.length:=by omega
   subst hej
   have hdr:ks.drop ks.length=[]:=List.drop_eq_nil_of_le (Nat.le_refl _)
   have hgl:=HF.out.same.gl
   by_cases hg0:n.goals=[]
   ·have hm0:m.goals=[]:=by rw [hg0] at hgl; exact List.eq_nil_of_length_eq_zero (by simpa using hgl.symm)
    have hfo:Zar cs (topN a) ks 0=(m,0,0):=by
     rw [HF.out.fol,hdr]
     unfold Zar
     rw [if_pos hm0]
    have hz:¬ (0:Int)<((n.goals.length:Nat):Int):=by rw [hg0]; simp
    have hE:∀ x0 x1 x2 x3 z0 z1,Ext w ((((((wr.setCell ⟨w.heap.size+1,0,none⟩ x0).setCell ⟨w.heap.size+1,1,none⟩ x1).setCell ⟨w.heap.size+1,2,none⟩ x2).setCell ⟨w.heap.size+1,3,none⟩ x3).setCell ⟨w.heap.size+2,0,none⟩ z0).setCell ⟨w.heap.size+2,1,none⟩ z1):=fun x0 x1 x2 x3 z0 z1 =>
     (((((HF.out.ext.setCell (p:=⟨w.heap.size+1,0,none⟩) (by simp) _).setCell (p:=⟨w.heap.size+1,1,none⟩) (by simp) _).setCell (p:=⟨w.heap.size+1,2,none⟩) (by simp) _).setCell (p:=⟨w.heap.size+1,3,none⟩) (by simp) _).setCell (p:=⟨w.heap.size+2,0,none⟩) (by simp) _).setCell (p:=⟨w.heap.size+2,1,none⟩) (by simp) _
    have hK1:∀ x0 x1 x2 x3,Kept (fun b=>b=w.heap.size+1) wr ((((wr.setCell ⟨w.heap.size+1,0,none⟩ x0).setCell ⟨w.heap.size+1,1,none⟩ x1).setCell ⟨w.heap.size+1,2,none⟩ x2).setCell ⟨w.heap.size+1,3,none⟩ x3):=fun x0 x1 x2 x3=>((((Kept.refl (only (w.heap.size+1)) wr).put 0 _).put 1 _).put 2 _).put 3 _
    have hK2:∀ (y:World) z0 z1,Kept (fun b=>b=w.heap.size+2) y ((y.setCell ⟨w.heap.size+2,0,none⟩ z0).setCell ⟨w.heap.size+2,1,none⟩ z1):=fun y z0 z1=>((Kept.refl (only (w.heap.size+2)) y).put 0 _).put 1 _
    have hT:∀ x0 x1 x2 x3 z0 z1 {v:Value} {ls:List (List Sym)},TermsIn wr v ls→TermsIn ((((((wr.setCell ⟨w.heap.size+1,0,none⟩ x0).setCell ⟨w.heap.size+1,1,none⟩ x1).setCell ⟨w.heap.size+1,2,none⟩ x2).setCell ⟨w.heap.size+1,3,none⟩ x3).setCell ⟨w.heap.size+2,0,none⟩ z0).setCell ⟨w.heap.size+2,1,none⟩ z1) v ls:=fun x0 x1 x2 x3 z0 z1 {v ls} h =>
     (h.box HF.out.res (by decide) (by decide) (hK1 x0 x1 x2 x3)).box (((hK1 x0 x1 x2 x3).block _ fl (by simp)).trans HF.out.flt) (by decide) (by decide) (hK2 _ z0 z1)
    have hout:∀ x0 x1 x2 x3 z0 z1,Ziv cs a ks w (.returned (.tuple #[.agg #[.slice ga n.goals.length gcap,.slice va n.vals.length vcap,.slice ra n.done.length rcap,.int .i64 n.vars],.agg #[.int .i64 0,.int .i64 0]])) ((((((wr.setCell ⟨w.heap.size+1,0,none⟩ x0).setCell ⟨w.heap.size+1,1,none⟩ x1).setCell ⟨w.heap.size+1,2,none⟩ x2).setCell ⟨w.heap.size+1,3,none⟩ x3).setCell ⟨w.heap.size+2,0,none⟩ z0).setCell ⟨w.heap.size+2,1,none⟩ z1):=fun x0 x1 x2 x3 z0 z1=>by
     refine ⟨hE _ _ _ _ _ _,Or.inr ?_⟩
     rw [hfo]
     exact ⟨rfl,ga,n.goals.length,gcap,va,n.vals.length,vcap,ra,n.done.length,rcap,n.vars,n,rfl,⟨hT _ _ _ _ _ _ HF.out.node.goals,hT _ _ _ _ _ _ HF.out.node.vals,hT _ _ _ _ _ _ HF.out.node.done⟩,HF.out.ok,HF.out.nm,HF.out.few,HF.out.same⟩
    have Hout:=Zaa hout
    clear hout hT hE hK1 hK2 hfo hm0 hg0 hgl hdr
    go_wp2
    refine bodyPost_ret (v := .tuple #[.agg #[.slice ga n.goals.length gcap,.slice va n.vals.length vcap,.slice ra n.done.length rcap,.int .i64 n.vars],.agg #[.int .i64 0,.int .i64 0]]) (by simp [results,Tryz.results68,go_sem,r0,r1,r2,r3,rf,rl,f0,f1,ff,fl]) rfl ?_
    exact Hout.out _ _ _ _ _ _
   ·have hm0:m.goals≠[]:=fun e=>by rw [e] at hgl; exact hg0 (List.eq_nil_of_length_eq_zero (by simpa using hgl))
    have Hf:Hid ((Zar cs m (ks.drop ks.length) ks.length).2=(7,ks.length)):=by
     show _=_
     rw [hdr]
     unfold Zar
     rw [if_neg hm0]
    have hz:(0:Int)<((n.goals.length:Nat):Int):=by
     have:0<n.goals.length:=List.length_pos_iff.2 hg0
     omega
    clear hm0 hg0 hgl hdr
    go_wp2
    refine bodyPost_ret (v := .tuple #[.agg #[.slice none 0 0,.slice none 0 0,.slice none 0 0,.int .i64 0],.agg #[.int .i64 7,.int .i64 ks.length]]) (by simp [results,Tryz.results68,go_sem,r0,r1,r2,r3,rf,rl,f0,f1,ff,fl]) rfl ?_
    exact Herr.out ks.length wr _ _ _ _ _ _ HF.out.ext Hf.out
theorem Zii {l:List Sym} (hl:l.length≤1000) (hw:Wf 1 l) (hn:∀ s ∈ l,s.name.length≤4096) {seen:List Nat} (hs:seen.length+l.length≤4000) :
  (Zco (Zax l seen).1 []).length≤4100 * l.length∧(Zax l seen).2.length≤seen.length+l.length:=by
 have hT:=wf_isT 1000 hl hw
 obtain ⟨h1,h2⟩:=Zjm hT seen
 have:=Zjv 1000 l hT hn seen hs
 rw [h1,h2] at this
 omega
theorem pairs_len:∀ (names:Names) (ts:List (List Sym)) (sep:List UInt8) (seen:List Nat),(∀ x ∈ names,x.length≤4096)→(∀ t ∈ ts,Wf 1 t∧t.length≤1000∧∀ s ∈ t,s.name.length≤4096)→sep.length≤1→seen.length+ts.flatten.length≤4000 →
  (Zkb sep names (Zas ts seen).1).length≤4098 * names.length+4100 * ts.flatten.length:=by
 intro names
 induction names with
 | nil=>intro ts sep seen _ _ _ _; cases ts <;> simp [Zas,Zkb]
 | cons x xs ih =>
  intro ts sep seen h1 h2 h3 h4
  cases ts with
  | nil=>simp [Zas,Zkb]
  | cons t ts =>
   obtain ⟨t1,t2,t3⟩:=h2 t (by simp)
   simp only [List.flatten_cons,List.length_append] at h4 ⊢
   obtain ⟨c1,c2⟩:=Zii t2 t1 t3 (seen:=seen) (by omega)
   have h:=ih ts [44] (Zax t seen).2 (fun y hy=>h1 y (by simp [hy])) (fun y hy=>h2 y (by simp [hy])) (by simp) (by omega)
   have hx:=h1 x (by simp)
   simp only [Zas,Zkb,List.length_append,List.length_cons]
   omega
set_option maxRecDepth 10000 in
set_option maxHeartbeats 4000000 in
theorem Zqo (w:World) (X:Nat→Prop) (av nv gv vv dv uv:Value) (vs:Int) (names:Names) (n:ND) (lo:Nat) (vx:List Value) (hav:∃ a l c,av = .slice a l c) (hgv:∃ a l c,gv = .slice a l c) (hdv:∃ a l c,dv = .slice a l c) (huv:∃ a l c,uv = .slice a l c)
  (hN:w.ownsRow lo 9 1 nv names.length (strs names)) (hV:RowT X w vv n.vals vx) (hl:names.length=n.vals.length) (hn:names.length≤125) (hnl:∀ x ∈ names,x.length≤4096) (hs:∀ t ∈ n.vals,t.length≤30∧∀ s ∈ t,s.name.length≤4096) :
  Calls Tryz.prog 116 #[.agg #[av,nv],.agg #[gv,vv,dv,uv,.int .i64 vs]] w fun e w'=>e = .returned (.string ⟨(Zgr names n).toArray⟩)∧Ext w w':=by
 obtain ⟨aa,al,ac,rfl⟩:=hav
 obtain ⟨ga,gl,gc,rfl⟩:=hgv
 obtain ⟨da,dl,dc,rfl⟩:=hdv
 obtain ⟨ua,ul,uc,rfl⟩:=huv
 obtain ⟨na,ncap,rfl⟩:=Zad hN
 obtain ⟨va,vcap,rfl⟩:=Zad hV.1
 have hwf:=hV.wf
 have HN:=Zaa hN
 have HV:=Zaa hV
 clear hN hV
 cases hnm:names with
 | nil =>
  have hl0:n.vals.length=0:=by rw [← hl,hnm]; rfl
  have Hans:Hid (Zgr [] n=[121,101,115]):=by show _=_; simp [Zgr]
  clear HN HV hl hn hnl hs hwf hnm
  go_enter Tryz.func116,Tryz.ntmps116
  go_wp2
  go_ret
  rw [Hans.out]
  exact ⟨rfl,(Ext.of (by repeat' (first | with_reducible exact Kept.refl _ _ | with_reducible apply Kept.drew | with_reducible apply Kept.drewN | with_reducible apply Kept.alloc | with_reducible refine Kept.setCell ?_ ?_ _ | exact fun h=>absurd h (by simp <;> omega))))⟩
 | cons x0 xr =>
  rw [← hnm]
  have hpos:0<names.length:=by rw [hnm]; simp
  have hne:(((names.length:Nat):Int) == 0)=false:=by rw [beq_eq_false_iff_ne]; omega
  obtain ⟨F,hF⟩:∃ F,F=Zkb [] names (Zas n.vals []).1:=⟨_,rfl⟩
  have Hans:Hid (Zgr names n=F):=by show _=_; rw [hF,Zgr,if_neg (by rw [hnm]; simp)]
  have hfl:n.vals.flatten.length≤3750:=by
   have key:∀ ls:List (List Sym),(∀ t ∈ ls,t.length≤30)→ls.flatten.length≤30 * ls.length:=by
    intro ls
    induction ls with
    | nil=>intro _; simp
    | cons t ts ih =>
     intro h
     have h1:=h t (by simp)
     have h2:=ih (fun y hy=>h y (by simp [hy]))
     simp only [List.flatten_cons,List.length_append,List.length_cons]; omega
   have:=key n.vals (fun t ht=>(hs t ht).1)
   omega
  have hFl:F.length≤20000000:=by
   have:=pairs_len names n.vals [] [] hnl (fun t ht=>⟨hwf t ht,by have:=(hs t ht).1; omega,(hs t ht).2⟩) (by simp) (by simp only [List.length_nil]; omega)
   rw [hF]; omega
  have HF:=Zaa hF
  have Hl:=Zaa hl
  have hn2:n.vals.length≤125:=by omega
  have Hs:=Zaa hs
  have Hnl:=Zaa hnl
  have Hwf:=Zaa hwf
  clear hnm hF hs hnl hwf hl
  go_enter Tryz.func116,Tryz.ntmps116
  go_wp2
  obtain ⟨W0,hW0⟩:∃ W0,W0=(w.alloc (.cells #[.slice aa al ac,.slice na names.length ncap] 148)).alloc (.cells #[.slice ga gl gc,.slice va n.vals.length vcap,.slice da dl dc,.slice ua ul uc,.int .i64 vs] 152):=⟨_,rfl⟩
  have hE0:Ext w W0:=by rw [hW0]; exact (Ext.of (by repeat' (first | with_reducible exact Kept.refl _ _ | with_reducible apply Kept.drew | with_reducible apply Kept.drewN | with_reducible apply Kept.alloc | with_reducible refine Kept.setCell ?_ ?_ _ | exact fun h=>absurd h (by simp <;> omega))))
  have hs0:W0.heap.size=w.heap.size+2:=by rw [hW0]; simp
  have hA0:W0.heap[w.heap.size]?=some (.cells #[.slice aa al ac,.slice na names.length ncap] 148 (0,0)):=by rw [hW0]; exact Zag (heap_alloc_new w _) _
  have hB0:W0.heap[w.heap.size+1]?=some (.cells #[.slice ga gl gc,.slice va n.vals.length vcap,.slice da dl dc,.slice ua ul uc,.int .i64 vs] 152 (0,0)):=by rw [hW0]; simpa using heap_alloc_new (w.alloc _) _
  rw [← hW0]
  have HE0:=Zaa hE0
  have HA0:=Zaa hA0
  have HB0:=Zaa hB0
  clear hW0 hE0 hA0 hB0
  go_loopg [5,6,7] (names.length+1) (fun gk tx sl i wr=>∃ (k:Nat) (sk:List Nat) (dt:List UInt8),i = .int .i64 k∧k≤names.length∧names.length - k<gk∧tx = .string ⟨dt.toArray⟩ ∧
   dt++Zkb (if k=0 then [] else [44]) (names.drop k) (Zas (n.vals.drop k) sk).1=F∧sk.length+(n.vals.drop k).flatten.length≤3750∧Appended W0 W0.heap.size 3 1 (.slice none 0 0) sk.length (ints sk) sl wr)
  case atStart=>exact ⟨0,[],[],by go_num,Nat.zero_le _,by omega,rfl,by simp [HF.out],by simpa using hfl,⟨World.ownsRow_nil _ _ _ _,Kept.refl _ _,Or.inl rfl⟩⟩
  case round =>
   obtain ⟨k,sk,dt,rfl,hk,hgk,rfl,hdt,hsk,hap⟩:=hrel
   obtain ⟨ska,skcap,rfl⟩:=Zad hap.owns
   have hdl:dt.length≤20000000:=by
    have h1:=congrArg List.length hdt
    simp only [List.length_append] at h1
    omega
   have hE0r:Ext W0 wr:=hap.kept.below (Nat.le_refl _) (fun i e=>by simp [Zbd,Value.ownBlock] at e)
   have hsr:=hE0r.size
   have hEwr:Ext w wr:=HE0.out.trans (hE0r.mono (by omega))
   have hA:=(hE0r.block _ (by omega)).trans HA0.out
   obtain ⟨b0,b1⟩:wr.cell? ⟨w.heap.size,0,none⟩=some (.slice aa al ac)∧wr.cell? ⟨w.heap.size,1,none⟩=some (.slice na names.length ncap):=⟨Zab hA 0 _ rfl,Zab hA 1 _ rfl⟩
   obtain ⟨m0,m1,m2,m3,m4,mf⟩:=box5 ((hE0r.block (w.heap.size+1) (by omega)).trans HB0.out)
   have Hap:=Zaa hap
   have Hdt:=Zaa hdt
   have HEwr:=Zaa hEwr
   have HE0r:=Zaa hE0r
   clear hap hdt hEwr hE0r hA
   by_cases hlt:k<names.length
   ·obtain ⟨x,hx⟩:∃ x,names[k]?=some x:=⟨_,List.getElem?_eq_getElem hlt⟩
    have hlv:k<n.vals.length:=by have:=Hl.out; omega
    obtain ⟨t,ht⟩:∃ t,n.vals[k]?=some t:=⟨_,List.getElem?_eq_getElem hlv⟩
    have hdx:names.drop k=x::names.drop (k+1):=by
     rw [List.drop_eq_getElem_cons hlt,(List.getElem?_eq_some_iff.1 hx).2]
    have hdv:n.vals.drop k=t::n.vals.drop (k+1):=by
     rw [List.drop_eq_getElem_cons hlv,(List.getElem?_eq_some_iff.1 ht).2]
    obtain ⟨a',b',c',x0,x1,x2,hrt⟩:=HV.out.2.2 k t ht
    obtain ⟨s3,n3,c3a,c3l,c3c,rfl,rfl,rfl⟩:=hrt.shape
    have hrow':=HV.out.ext (Y:=X) HEwr.out (fun _ _ h=>h)
    obtain ⟨gb,cap',cur,hge,hBg,hgb,hcp⟩:=Zal hrow'.1 (by omega)
    simp only [Value.slice.injEq] at hge
    obtain ⟨rfl,_,rfl⟩:=hge
    have y0:wr.cell? ⟨gb,k * 3,none⟩=some (.string s3):=Zaf hrow'.1 _ _ x0
    have y1:wr.cell? ⟨gb,k * 3+1,none⟩=some (.int .i64 n3):=Zaf hrow'.1 _ _ x1
    have y2:wr.cell? ⟨gb,k * 3+2,none⟩=some (.slice c3a c3l c3c):=Zaf hrow'.1 _ _ x2
    have hnr:=Zan HN.out (fun i hi=>HEwr.out.block i (HN.out.lt i hi).2)
    obtain ⟨nb,ncap',ncur,hne',hNB,hnb,hncp⟩:=Zal hnr (by omega)
    simp only [Value.slice.injEq] at hne'
    obtain ⟨rfl,_,rfl⟩:=hne'
    have z0:wr.cell? ⟨nb,k,none⟩=some (.string ⟨x.toArray⟩):=Zaf hnr k _ (by simp only [strs,List.getElem?_map,hx,Option.map_some])
    have hxl:=Hnl.out x (List.mem_of_getElem? hx)
    obtain ⟨ht30,htn⟩:=Hs.out t (List.mem_of_getElem? ht)
    have htw:=Hwf.out t (List.mem_of_getElem? ht)
    have hT:=wf_isT 1000 (by omega) htw
    obtain ⟨wc1,wc2⟩:=Zjm hT sk
    have hskl:sk.length+t.length+(n.vals.drop (k+1)).flatten.length≤3750:=by
     rw [hdv] at hsk
     simp only [List.flatten_cons,List.length_append] at hsk
     omega
    obtain ⟨cl1,cl2⟩:=Zii (by omega) htw htn (seen:=sk) (by omega)
    have hI:=Zme 1000 wr 0 wr.heap.size _ _ _ t W0.heap.size sk _ ((hrt.ext HEwr.out (fun _ _ h=>h)).repT (by omega)) Hap.out.owns hsr htn (by omega)
    rw [wc1,wc2] at hI
    have HI:=Zaa hI
    have hcl1:(Zco (Zax t sk).1 []).length≤200000:=by omega
    have hnbl:=Zac hnb
    obtain ⟨tx,htx⟩:∃ tx,tx=Zco (Zax t sk).1 []:=⟨_,rfl⟩
    obtain ⟨sk2,hsk2⟩:∃ sk2,sk2=(Zax t sk).2:=⟨_,rfl⟩
    have Hnext:Hid (∀ sep:List UInt8,dt++(sep++(x++(61::(tx++Zkb [44] (names.drop (k+1)) (Zas (n.vals.drop (k+1)) sk2).1))))=dt++Zkb sep (names.drop k) (Zas (n.vals.drop k) sk).1):=fun sep=>by
     rw [hdx,hdv,htx,hsk2]; simp [Zas,Zkb]
    rw [← htx] at hcl1
    rw [← hsk2] at cl2
    rw [← htx,← hsk2] at HI
    clear hgb hrow' hrt x0 x1 x2 ht hx hnr hnb hdx hdv hT wc1 wc2 hI htw htn cl1 htx hsk2
    by_cases h0:k=0
    ·have hk0:¬ (0:Int)<(k:Int):=by omega
     have Hd0:Hid ((dt++x++[61]++tx)++Zkb [44] (names.drop (k+1)) (Zas (n.vals.drop (k+1)) sk2).1=F):=by
      have h1:=Hdt.out
      rw [if_pos h0,← Hnext.out []] at h1
      show _=_
      rw [← h1]; simp
     have Hstr:Hid ((⟨dt.toArray⟩:ByteArray)++⟨x.toArray⟩++⟨[61].toArray⟩++⟨tx.toArray⟩=⟨(dt++x++[61]++tx).toArray⟩):=by
      show _=_; rw [Zcg,Zcg,Zcg]
     have H0:=Zaa h0
     clear h0
     go_wp2_with fail
     refine HI.out.mono ?_
     rintro e w1 ⟨sv',rfl,hap1⟩
     obtain ⟨s1a,s1cap,rfl⟩:=Zad hap1.owns
     have hk1:Kept (fun i=>W0.heap.size≤i) wr w1:=hap1.kept.mono (fun i _ e=>(Hap.out.owns.lt i e).1)
     have b1':w1.cell? ⟨w.heap.size,1,none⟩=some (.slice (some ⟨nb,0,none⟩) names.length ncap):=hk1.cell b1 (by show ¬ W0.heap.size≤w.heap.size; omega)
     have z0':w1.cell? ⟨nb,k,none⟩=some (.string ⟨x.toArray⟩):=hk1.cell z0 (by have:=(HN.out.lt nb rfl).2; show ¬ W0.heap.size≤nb; omega)
     have Hap1:=Zaa hap1
     clear hap1 y0 y1 y2 hk1
     go_wp2
     go_roundg (names.length - k)
     case measure=>omega
     case rel=>exact ⟨k+1,sk2,dt++x++[61]++tx,by go_num,by omega,by omega,by rw [← Hstr.out],by simpa using Hd0.out,by omega,Hap.out.trans Hap1.out⟩
    ·have hk0:(0:Int)<(k:Int):=by omega
     have Hd0:Hid ((dt++[44]++x++[61]++tx)++Zkb [44] (names.drop (k+1)) (Zas (n.vals.drop (k+1)) sk2).1=F):=by
      have h1:=Hdt.out
      rw [if_neg h0,← Hnext.out [44]] at h1
      show _=_
      rw [← h1]; simp
     have Hstr:Hid ((⟨dt.toArray⟩:ByteArray)++⟨[44].toArray⟩++⟨x.toArray⟩++⟨[61].toArray⟩++⟨tx.toArray⟩=⟨(dt++[44]++x++[61]++tx).toArray⟩):=by
      show _=_; rw [Zcg,Zcg,Zcg,Zcg]
     have H0:=Zaa h0
     clear h0
     go_wp2_with fail
     refine HI.out.mono ?_
     rintro e w1 ⟨sv',rfl,hap1⟩
     obtain ⟨s1a,s1cap,rfl⟩:=Zad hap1.owns
     have hk1:Kept (fun i=>W0.heap.size≤i) wr w1:=hap1.kept.mono (fun i _ e=>(Hap.out.owns.lt i e).1)
     have b1':w1.cell? ⟨w.heap.size,1,none⟩=some (.slice (some ⟨nb,0,none⟩) names.length ncap):=hk1.cell b1 (by show ¬ W0.heap.size≤w.heap.size; omega)
     have z0':w1.cell? ⟨nb,k,none⟩=some (.string ⟨x.toArray⟩):=hk1.cell z0 (by have:=(HN.out.lt nb rfl).2; show ¬ W0.heap.size≤nb; omega)
     have Hap1:=Zaa hap1
     clear hap1 y0 y1 y2 hk1
     go_wp2
     go_roundg (names.length - k)
     case measure=>omega
     case rel=>exact ⟨k+1,sk2,dt++[44]++x++[61]++tx,by go_num,by omega,by omega,by rw [← Hstr.out],by simpa using Hd0.out,by omega,Hap.out.trans Hap1.out⟩
   ·have Hend:Hid (F=dt):=by
     have h1:=Hdt.out
     rw [List.drop_eq_nil_of_le (by omega)] at h1
     have e:Zkb (if k=0 then [] else [44]) [] (Zas (n.vals.drop k) sk).1=[]:=by cases (Zas (n.vals.drop k) sk).1 <;> rfl
     rw [e,List.append_nil] at h1
     exact h1.symm
    go_wp2
    go_ret
    rw [Hans.out,Hend.out]
    exact ⟨rfl,HEwr.out⟩
theorem tryN_vals {n:ND} {c:Cls} {k:Nat} (h:(tryN n c k).2=1∨(tryN n c k).2=2):(tryN n c k).1.vals.length=n.vals.length:=by
 by_cases hex:∃ r:ND × Nat,∃ m,NOk m∧Same m n∧Out m c k r.2 r.1
 ·have e:tryN n c k=Classical.choose hex:=by unfold tryN; rw [dif_pos hex]
  obtain ⟨m,_,hS,g,gs,_,ho⟩:=Classical.choose_spec hex
  rw [e] at h ⊢
  rcases ho with ⟨h0,_⟩ | ⟨h0,_⟩ | ⟨σ,_,_,_,h4⟩
  ·omega
  ·omega
  ·rw [h4]; simp [Zao,hS.vl]
 ·have e:tryN n c k=(⟨[],[],[],[],0⟩,0):=by unfold tryN; rw [dif_neg hex]
  rw [e] at h
  simp at h
theorem Zsq {cs:List Cls}:∀ {ks:List Nat} {n:ND} {i:Nat},(Zar cs n ks i).2.1=0→(Zar cs n ks i).1.vals.length=n.vals.length:=by
 intro ks
 induction ks with
 | nil=>intro n i h; unfold Zar at h ⊢; split <;> rfl
 | cons k ks ih =>
  intro n i h
  cases hc:cs[k]? with
  | none =>
   have:=Zct (cs:=cs) (n:=n) (k:=k) (i:=i) (ks:=ks) (Or.inr (List.getElem?_eq_none_iff.1 hc))
   rw [this] at h; simp at h
  | some c =>
   by_cases hg:n.goals=[]
   ·have:=Zct (cs:=cs) (n:=n) (k:=k) (i:=i) (ks:=ks) (Or.inl hg)
    rw [this] at h; simp at h
   ·by_cases hq:(tryN n c k).2=1∨(tryN n c k).2=2
    ·rw [Zhb hc hg hq] at h ⊢
     rw [ih h,tryN_vals hq]
    ·have:=Zfc (i:=i) (ks:=ks) hc hq
     rw [this] at h; simp at h
theorem Zyp {p q x:ByteArray} {a:List (List Sym) × Names} {n0:ND} (ha:Zgc q=some a) (h:Zcs p q x=(a.2,n0,0,0)):n0.vals.length=a.2.length:=by
 cases hp:Zds p with
 | none=>simp [Zcs,hp] at h
 | some cs =>
  by_cases hx:400<x.size
  ·simp [Zcs,hp,ha,hx] at h
  ·cases hn:Zby x with
   | mk o pl =>
    cases o with
    | none=>simp [Zcs,hp,ha,hx,hn] at h
    | some ks =>
     simp [Zcs,hp,ha,hx,hn] at h
     have h2:=Zsq (cs:=cs) (ks:=ks) (n:=topN a) (i:=0) (by rw [h])
     rw [h] at h2
     simpa [topN] using h2
set_option maxRecDepth 10000 in
set_option maxHeartbeats 4000000 in
theorem Zyq (p q x:ByteArray) (w:World) (hp:p.size≤maxLen) (hq:q.size≤maxLen) (hx:x.size≤maxLen) :
  Calls Tryz.prog 91 #[.string p,.string q,.string x] w fun e w'=>e = .returned (.tuple #[.string ⟨(yesN p q x).1.toArray⟩,.int .i64 (yesN p q x).2.1,.int .i64 (yesN p q x).2.2])∧Ext w w':=by
 have HF:=Zaa (fun u=>Zko p q x u hp hq hx)
 obtain ⟨Y,hY⟩:∃ Y,Y=yesN p q x:=⟨_,rfl⟩
 rw [← hY]
 have HY:=Zaa hY
 clear hp hq hx hY
 go_enter Tryz.func91,Tryz.ntmps91
 go_wp2_with fail
 refine (HF.out _).mono ?_
 rintro e w1 ⟨hE1,hF⟩
 have hs1:=hE1.size
 have HE1:=Zaa hE1
 clear hE1
 rcases hF with ⟨er,pl,her,hh,a0,l0,c0,a1,l1,c1,rfl⟩ | ⟨a,av,nv,m0,m1,m2,m3,m4,n0,hh,hask,rfl,hA,hnode⟩
 ·have Hy:Hid (Y=([],er,pl)):=by show _=_; rw [HY.out,yesN,hh]; simp [her]
  have hb:((er:Int) != 0)=true:=by rw [bne_iff_ne]; omega
  clear hh
  go_wp2
  go_ret3
  rw [Hy.out]
  exact ⟨rfl,HE1.out.trans (Kept.below (S:=fun i=>w.heap.size≤i) (by repeat' (first | with_reducible exact Kept.refl _ _ | with_reducible apply Kept.drew | with_reducible apply Kept.drewN | with_reducible apply Kept.alloc | with_reducible refine Kept.setCell ?_ ?_ _ | (intro _; simp only; omega))) hs1 (fun _ h=>h))⟩
 ·have hvl:=Zyp hask hh
  obtain ⟨_,_,_,_,_,_,_,ha3,ha4⟩:=Zis hask
  obtain ⟨ax,hA1⟩:=hA.atoms
  obtain ⟨aa,acap,rfl⟩:=Zad hA1.1
  obtain ⟨n,hR,hOk,hNm,hS,rfl⟩:=hnode.node
  obtain ⟨vx,hV⟩:=hR.vals
  obtain ⟨gx,hG⟩:=hR.goals
  obtain ⟨dx,hD⟩:=hR.done
  obtain ⟨ga,gcap,rfl⟩:=Zad hG.owns
  obtain ⟨va,vcap,rfl⟩:=Zad hV.1
  obtain ⟨da,dcap,rfl⟩:=Zad hD.owns
  obtain ⟨ua,ucap,rfl⟩:=Zad hR.used
  obtain ⟨na,ncap,rfl⟩:=Zad hA.names
  have hans:Zgr a.2 n=Zgr a.2 n0:=by unfold Zgr; rw [hS.valsC hOk]
  obtain ⟨T,hT⟩:∃ T,T=Zgr a.2 n:=⟨_,rfl⟩
  have Hy:Hid (Y=(T,0,0)):=by show _=_; rw [HY.out,yesN,hh,hT]; simp [hans]
  have HAn:=Zaa (fun u (hu:Ext w1 u)=>Zqo u (fun _=>False) (.slice aa a.1.length acap) (.slice na a.2.length ncap) (.slice ga n.goals.length gcap) (.slice va n.vals.length vcap) (.slice da n.done.length dcap) (.slice ua n.used.length ucap) n.vars a.2 n 0 vx ⟨_,_,_,rfl⟩ ⟨_,_,_,rfl⟩ ⟨_,_,_,rfl⟩ ⟨_,_,_,rfl⟩
   (Zan hA.names (fun i hi=>hu.block i (hA.names.lt i hi).2)) (hV.ext hu (fun _ _ h=>h)) (by rw [hS.vl,hvl]) (by omega) (fun y hy=>Nat.le_trans (ha4 y hy) (by omega)) (fun t ht=>⟨hOk.vsize ht,fun s hs=>Nat.le_trans (hNm t (by simp [ND.terms,ht]) s hs) (by omega)⟩))
  rw [← hT] at HAn
  clear hh hask hA hA1 hnode hR hOk hNm hS hV hG hD hvl hans ha3 ha4 hT
  go_wp2_with fail
  refine (HAn.out _ (Ext.of (by repeat' (first | with_reducible exact Kept.refl _ _ | with_reducible apply Kept.drew | with_reducible apply Kept.drewN | with_reducible apply Kept.alloc | with_reducible refine Kept.setCell ?_ ?_ _ | exact fun h=>absurd h (by simp <;> omega))))).mono ?_
  rintro e w2 ⟨rfl,hE2⟩
  have HE2:=Zaa hE2
  clear hE2
  go_wp2
  go_ret3
  rw [Hy.out]
  exact ⟨rfl,(HE1.out.trans (Kept.below (S:=fun i=>w.heap.size≤i) (by repeat' (first | with_reducible exact Kept.refl _ _ | with_reducible apply Kept.drew | with_reducible apply Kept.drewN | with_reducible apply Kept.alloc | with_reducible refine Kept.setCell ?_ ?_ _ | (intro _; simp only; omega))) hs1 (fun _ h=>h))).trans (HE2.out.mono (by simp; omega))⟩
theorem Zyr {n:ND} {c:Cls} {k:Nat} (h:(tryN n c k).2=1∨(tryN n c k).2=2):∃ d ds,n.goals.map (·.2)=d::ds∧(tryN n c k).1.goals.map (·.2)=List.replicate c.body.length (d+1)++ds∧(tryN n c k).1.done.map (·.2)=n.done.map (·.2)++[d]:=by
 by_cases hex:∃ r:ND × Nat,∃ m,NOk m∧Same m n∧Out m c k r.2 r.1
 ·have e:tryN n c k=Classical.choose hex:=by unfold tryN; rw [dif_pos hex]
  obtain ⟨m,_,hS,g,gs,hg,ho⟩:=Classical.choose_spec hex
  rw [e] at h ⊢
  rcases ho with ⟨h0,_⟩ | ⟨h0,_⟩ | ⟨σ,_,_,_,h4⟩
  ·omega
  ·omega
  ·rw [h4]
   refine ⟨g.2,gs.map (·.2),?_,?_,?_⟩
   ·rw [← hS.gd,hg]; rfl
   ·simp only [Zao]
    rw [Zlu,List.map_append,List.map_map]
    congr 1
    generalize c.body=b
    induction b with
    | nil=>rfl
    | cons x b ih=>rw [List.map_cons,ih,List.length_cons,List.replicate_succ]; rfl
   ·simp only [Zao]
    rw [Zlu,List.map_append,hS.dd]
    rfl
 ·have e:tryN n c k=(⟨[],[],[],[],0⟩,0):=by unfold tryN; rw [dif_neg hex]
  rw [e] at h
  simp at h
theorem Zsr {cs:List Cls} {m:ND} {k i:Nat} {ks:List Nat} (h:(Zar cs m (k::ks) i).2=(0,0)):∃ c,cs[k]?=some c∧m.goals≠[]∧((tryN m c k).2=1∨(tryN m c k).2=2)∧Zar cs m (k::ks) i=Zar cs (tryN m c k).1 ks (i+1):=by
 cases hc:cs[k]? with
 | none =>
  have:=Zct (cs:=cs) (n:=m) (k:=k) (i:=i) (ks:=ks) (Or.inr (List.getElem?_eq_none_iff.1 hc))
  rw [this] at h; simp at h
 | some c =>
  by_cases hg:m.goals=[]
  ·have:=Zct (cs:=cs) (n:=m) (k:=k) (i:=i) (ks:=ks) (Or.inl hg)
   rw [this] at h; simp at h
  ·by_cases hq:(tryN m c k).2=1∨(tryN m c k).2=2
   ·exact ⟨c,rfl,hg,hq,Zhb hc hg hq⟩
   ·have:=Zfc (i:=i) (ks:=ks) hc hq
    rw [this] at h; simp at h
structure DepAt (w:World) (ds ls:List Nat) (dv lv:Value) (wr:World):Prop where
 ext:Ext w wr
 dep:wr.ownsRow w.heap.size 3 1 dv ds.length (ints ds)
 lef:wr.ownsRow w.heap.size 3 1 lv ls.length (ints ls)
 off:∀ j,dv.ownBlock=some j→¬ lv.ownBlock=some j
theorem DepAt.depApp {w w1 w2:World} {ds ls:List Nat} {dv lv dv2:Value} {d:Nat} (h:DepAt w ds ls dv lv w1) (hap:Appended w1 w.heap.size 3 1 dv (ds.length+1) (ints ds++[.int .i64 d]) dv2 w2):DepAt w (ds++[d]) ls dv2 lv w2:=by
 obtain ⟨h1,h2,h3,h4⟩:=h
 refine ⟨h1.trans (hap.kept.below h1.size (fun j hj=>(h2.lt j hj).1)),by have:=hap.owns; simpa [ints] using this,hap.kept.owns h3 (fun j hj hS=>h4 j hS hj),fun j hj hl => ?_⟩
 rcases hap.where_ with e | ⟨g,e,hg⟩
 ·rw [e] at hj; exact h4 j hj hl
 ·rw [e] at hj
  simp only [Option.some.injEq] at hj
  have:=(h3.lt j hl).2
  omega
theorem DepAt.lefApp {w w1 w2:World} {ds ls:List Nat} {dv lv lv2:Value} {d:Nat} (h:DepAt w ds ls dv lv w1) (hap:Appended w1 w.heap.size 3 1 lv (ls.length+1) (ints ls++[.int .i64 d]) lv2 w2):DepAt w ds (ls++[d]) dv lv2 w2:=by
 obtain ⟨h1,h2,h3,h4⟩:=h
 refine ⟨h1.trans (hap.kept.below h1.size (fun j hj=>(h3.lt j hj).1)),hap.kept.owns h2 (fun j hj hS=>h4 j hj hS),by have:=hap.owns; simpa [ints] using this,fun j hj hl => ?_⟩
 rcases hap.where_ with e | ⟨g,e,hg⟩
 ·rw [e] at hl; exact h4 j hj hl
 ·rw [e] at hl
  simp only [Option.some.injEq] at hl
  have:=(h2.lt j hj).2
  omega
theorem DepAt.cut {w wr:World} {ds ls:List Nat} {dv:Value} {d g cap:Nat} (h:DepAt w ds (ls++[d]) dv (.slice (some ⟨g,0,none⟩) (ls.length+1) cap) wr):DepAt w ds ls dv (.slice (some ⟨g,0,none⟩) ls.length cap) wr:=by
 obtain ⟨h1,h2,h3,h4⟩:=h
 rw [List.length_append,List.length_cons,List.length_nil] at h3
 have:=Zlr h3
 refine ⟨h1,h2,?_,h4⟩
 have e:(ints (ls++[d])).take ls.length=ints ls:=by
  unfold ints
  rw [List.map_append,List.take_append_of_le_length (by simp),List.take_of_length_le (by simp)]
 rw [e] at this
 exact this
def DepOut (ds:List Nat) (w:World) (e:Ending) (w':World):Prop:=Ext w w'∧∃ x c,e = .returned (.slice x ds.length c)∧w'.ownsRow 0 3 1 (.slice x ds.length c) ds.length (ints ds)
set_option maxRecDepth 10000 in
set_option maxHeartbeats 4000000 in
theorem Zss (w:World) (cv hv bv nv kv:Value) (cs:List Cls) (xs:List (List Value)) (a:List (List Sym) × Names) (ks:List Nat) (hP:ProgIn w cv cs xs) (hh:∃ a n x,hv = .slice a n x) (hb:TermsIn w bv a.1) (hns:w.ownsRow 0 9 1 nv a.2.length (strs a.2)) (hk:w.ownsRow 0 3 1 kv ks.length (ints ks))
  (hcs:∀ c ∈ cs,COk c) (hcl:cs.length≤24) (hal:a.1.length≤6) (hkl:ks.length≤400) (hk9:∀ k ∈ ks,k≤99) (hf:(Zar cs (topN a) ks 0).2=(0,0)) :
  Calls Tryz.prog 69 #[cv,.agg #[hv,bv,nv],kv] w (DepOut ((Zar cs (topN a) ks 0).1.done.map (·.2)) w):=by
 obtain ⟨h1,h2,h3,rfl⟩:=hh
 obtain ⟨ba,bcap,rfl⟩:=hb.shape
 obtain ⟨na,ncap,rfl⟩:=Zad hns
 obtain ⟨ka,kcap,rfl⟩:=Zad hk
 obtain ⟨la,lcap,rfl⟩:=Zad hP.owns
 have HP:=Zaa hP
 have Hk:=Zaa hk
 have Hcs:=Zaa hcs
 have Hk9:=Zaa hk9
 have Hf:=Zaa hf
 clear hP hb hns hk hcs hk9 hf
 go_enter Tryz.func69,Tryz.ntmps69
 go_wp2
 go_loopg [8,16] (a.1.length+1) (fun gk lv iv wr=>∃ (k:Nat),iv = .int .i64 k∧k≤a.1.length∧a.1.length - k<gk∧DepAt w [] (List.replicate k 0) (.slice none 0 0) lv wr)
 case atStart=>exact ⟨0,by go_num,Nat.zero_le _,by omega,(Ext.of (by repeat' (first | with_reducible exact Kept.refl _ _ | with_reducible apply Kept.drew | with_reducible apply Kept.drewN | with_reducible apply Kept.alloc | with_reducible refine Kept.setCell ?_ ?_ _ | exact fun h=>absurd h (by simp <;> omega)))),World.ownsRow_nil _ _ _ _,World.ownsRow_nil _ _ _ _,fun j hj=>by simp [Value.ownBlock] at hj⟩
 case round =>
  obtain ⟨k,rfl,hk,hgk,hD⟩:=hrel
  have hrow:=hD.lef
  rw [List.length_replicate] at hrow
  obtain ⟨sa,scap,rfl⟩:=Zad hrow
  have hsr:=hD.ext.size
  have HD:=Zaa hD
  have Hrow:=Zaa hrow
  clear hD hrow
  by_cases hlt:k<a.1.length
  ·go_wp2_with (at_builtin; go_loud (refine Zaj wr rfl (.tmp 18) (.tmp 19) 25 rfl w.heap.size 3 Tryz.infoInt Tryz.underlying25 rfl (by decide) (.slice sa k scap) k (ints (List.replicate k 0)) rfl Hrow.out #[.int .i64 0] (N:=wr.heap.size) rfl (by simp) rfl (Zfm _) ?_ ?_ ?_))
   ·omega
   ·omega
   intro v2 w2 hap
   obtain ⟨a2,c2,rfl⟩:=Zad hap.owns
   have hD2:=HD.out.lefApp (d:=0) (w2:=w2) (lv2 := .slice a2 (k+1) c2) (by rw [List.length_replicate]; exact hap)
   rw [← List.replicate_succ'] at hD2
   have HD2:=Zaa hD2
   clear hap hD2
   go_wp2
   go_roundg (a.1.length - k)
   case measure=>omega
   case rel=>exact ⟨k+1,by go_num,by omega,by omega,HD2.out⟩
  ·have hek:k=a.1.length:=by omega
   subst hek
   obtain ⟨wo,hwo⟩:∃ x,x=wr:=⟨_,rfl⟩
   subst hwo
   have HD0:Hid (DepAt w ((topN a).done.map (·.2)) ((topN a).goals.map (·.2)).reverse (.slice none 0 0) (.slice sa a.1.length scap) wo):=by
    have e1:(topN a).done.map (·.2)=[]:=rfl
    have e2:((topN a).goals.map (·.2)).reverse=List.replicate a.1.length 0:=by
     have:(topN a).goals.map (·.2)=List.replicate a.1.length 0:=by
      unfold topN
      simp only [List.map_map]
      generalize a.1=l
      induction l with
      | nil=>rfl
      | cons x l ih=>rw [List.map_cons,ih,List.length_cons,List.replicate_succ]; rfl
     rw [this,List.reverse_replicate]
    rw [e1,e2]
    exact HD.out
   have hb0:Hid (∀ x ∈ (topN a).goals.map (·.2),x≤0):=fun x hx=>by
    unfold topN at hx
    simp at hx
    omega
   clear HD Hrow
   go_wp2
   go_loopg [7,8,24] (ks.length+1) (fun gk dv lv iv wr=>∃ (i:Nat) (m:ND),iv = .int .i64 i∧i≤ks.length∧ks.length - i<gk∧Zar cs (topN a) ks 0=Zar cs m (ks.drop i) i∧(∀ x ∈ m.goals.map (·.2),x≤i)∧m.goals.length≤6+6 * i∧m.done.length=i∧DepAt w (m.done.map (·.2)) (m.goals.map (·.2)).reverse dv lv wr)
   case atStart=>exact ⟨0,topN a,by go_num,Nat.zero_le _,by omega,by simp,hb0.out,by unfold topN; simp; omega,by unfold topN; rfl,HD0.out⟩
   case round =>
    obtain ⟨i,m,rfl,hi,hgi,hfo,hbd,hgl,hdl,hD⟩:=hrel
    have hdn:=hD.dep
    have hln:=hD.lef
    rw [List.length_map,hdl] at hdn
    rw [List.length_reverse,List.length_map] at hln
    obtain ⟨da,dcap,rfl⟩:=Zad hdn
    obtain ⟨sa,scap,rfl⟩:=Zad hln
    have hsr:=hD.ext.size
    have Hfo:=Zaa hfo
    have Hbd:=Zaa hbd
    have HD:=Zaa hD
    have Hdn:=Zaa hdn
    have Hln:=Zaa hln
    clear hfo hbd hD hdn hln
    by_cases hlt:i<ks.length
    ·obtain ⟨k,hk⟩:∃ k,ks[i]?=some k:=⟨_,List.getElem?_eq_getElem hlt⟩
     have hdk:ks.drop i=k::ks.drop (i+1):=by rw [List.drop_eq_getElem_cons hlt,(List.getElem?_eq_some_iff.1 hk).2]
     have hk99:=Hk9.out k (List.mem_of_getElem? hk)
     have hfz:=Hf.out
     rw [Hfo.out,hdk] at hfz
     obtain ⟨c,hc,hmg,hq,hgo⟩:=Zsr hfz
     obtain ⟨d,ds,hg1,hg2,hd1⟩:=Zyr hq
     have hkc2:=(List.getElem?_eq_some_iff.1 hc).1
     have hfo2:Zar cs (topN a) ks 0=Zar cs (tryN m c k).1 (ks.drop (i+1)) (i+1):=by rw [Hfo.out,hdk,hgo]
     have hdi:d≤i:=Hbd.out d (by rw [hg1]; simp)
     have hbl:=(Hcs.out c (List.mem_of_getElem? hc)).bn
     have hL:m.goals.length=ds.length+1:=by have:=congrArg List.length hg1; simpa using this
     have hbd2:∀ x ∈ (tryN m c k).1.goals.map (·.2),x≤i+1:=fun x hx=>by
      rw [hg2] at hx
      rcases List.mem_append.1 hx with hx | hx
      ·have:=List.eq_of_mem_replicate hx; omega
      ·have:=Hbd.out x (by rw [hg1]; simp [hx]); omega
     have hgl2:(tryN m c k).1.goals.length≤6+6 * (i+1):=by
      have:=congrArg List.length hg2
      simp at this
      omega
     have hdl2:(tryN m c k).1.done.length=i+1:=by
      have:=congrArg List.length hd1
      simp at this
      omega
     have hDr:=HD.out
     rw [hg1,List.reverse_cons] at hDr
     have hlr:=Hln.out
     rw [hg1,List.reverse_cons,hL] at hlr
     have hdr:=Hdn.out
     obtain ⟨dl,hdle⟩:∃ l,l=m.done.map (·.2):=⟨_,rfl⟩
     rw [← hdle] at hdr hDr hd1
     have hdll:dl.length=i:=by rw [hdle,List.length_map]; exact hdl
     obtain ⟨rs,hrs⟩:∃ l,l=ds.reverse:=⟨_,rfl⟩
     have hrl:ds.length=rs.length:=by rw [hrs]; simp
     rw [← hrs] at hlr hDr
     rw [hrl] at hlr hL
     rw [hL] at hDr ⊢
     obtain ⟨kb,kcap',kcur,hke,hBk,hkb,hkc⟩:=Zal Hk.out (by omega)
     simp only [Value.slice.injEq] at hke
     obtain ⟨rfl,_,rfl⟩:=hke
     have hkbw:=Zac hkb
     have k0:wr.cell? ⟨kb,i,none⟩=some (.int .i64 k):=(HD.out.ext.cell (p:=⟨kb,i,none⟩) hkbw).trans (Zaf Hk.out i _ (by simp only [ints,List.getElem?_map,hk,Option.map_some]))
     have hkbl:kb<wr.heap.size:=by omega
     obtain ⟨lb,lcap',lcur,hle,_,hlb,_⟩:=Zal HP.out.owns (by omega)
     simp only [Value.slice.injEq] at hle
     obtain ⟨rfl,_,rfl⟩:=hle
     have hlbw:=Zac hlb
     obtain ⟨cv0,cv1,cv2,e0,e1,e2,hcl2⟩:=HP.out.cell hc
     obtain ⟨b2,b3,rfl⟩:=hcl2.body.shape
     obtain ⟨sg,scap',scur,hse,_,hsb,_⟩:=Zal hlr (by omega)
     simp only [Value.slice.injEq] at hse
     obtain ⟨rfl,_,rfl⟩:=hse
     have s0:wr.cell? ⟨sg,rs.length,none⟩=some (.int .i64 d):=Zaf hlr _ _ (by simp [ints])
     have hsgl:=Zac hsb
     have HDr:=Zaa hDr
     have Hdr:Hid (wr.ownsRow w.heap.size 3 1 (.slice da i dcap) i (ints dl)):=hdr
     have Hfo2:=Zaa hfo2
     have Hbd2:=Zaa hbd2
     have Hg2:=Zaa hg2
     have Hd1:=Zaa hd1
     have He1:=Zaa e1
     have Hrs:=Zaa hrs
     have Hdll:=Zaa hdll
     have hn1:¬ ((rs.length:Int)<0):=by omega
     have hn2:¬ ((k:Int)<0):=by omega
     have hn3:¬ ((cs.length:Int)≤(k:Int)):=by omega
     clear hk hdk hfz hc hmg hq hgo hg1 hg2 hd1 hfo2 hbd2 hDr hlr hdr hdle hrs hkb hlb e0 e1 e2 hcl2 hsb hdll hrl
     go_wp2_with (at_builtin; go_loud (refine Zaj wr rfl (.tmp 47) (.tmp 49) 25 rfl w.heap.size 3 Tryz.infoInt Tryz.underlying25 rfl (by decide) (.slice da i dcap) i (ints dl) rfl Hdr.out #[.int .i64 d] (N:=wr.heap.size) rfl (by simp) rfl (Zfm _) ?_ ?_ ?_))
     ·omega
     intro v2 w2 hap
     obtain ⟨a2,c2,rfl⟩:=Zad hap.owns
     have hD2:=(HDr.out.depApp (d:=d) (w2:=w2) (dv2 := .slice a2 (i+1) c2) (by rw [Hdll.out]; exact hap)).cut
     have hz2:=hap.kept.size
     have hlbl:lb<w2.heap.size:=by omega
     have l1:w2.cell? ⟨lb,k * 3+1,none⟩=some (.slice b2 c.body.length b3):=(hD2.ext.cell (p:=⟨lb,k * 3+1,none⟩) hlbw).trans He1.out
     have hz0:=hD2.ext.size
     have HD2:=Zaa hD2
     have hsgl2:sg<w2.heap.size:=by omega
     have hrcap:rs.length≤scap:=by omega
     clear hap hD2 k0 s0
     obtain ⟨wp,hwp⟩:∃ x,x=w2:=⟨_,rfl⟩
     subst hwp
     go_wp2
     go_loopg [8,60] (c.body.length+1) (fun gk lv iv wr=>∃ (j:Nat),iv = .int .i64 j∧j≤c.body.length∧c.body.length - j<gk∧DepAt w (dl++[d]) (rs++List.replicate j (d+1)) (.slice a2 (i+1) c2) lv wr)
     case atStart=>exact ⟨0,by go_num,Nat.zero_le _,by omega,by simpa using HD2.out⟩
     case round =>
      obtain ⟨j,rfl,hj,hgj,hD3⟩:=hrel
      have hl3:=hD3.lef
      rw [List.length_append,List.length_replicate] at hl3
      obtain ⟨ta,tcap,rfl⟩:=Zad hl3
      have hs3:=hD3.ext.size
      have HD3:=Zaa hD3
      have Hl3:=Zaa hl3
      clear hD3 hl3
      by_cases hjl:j<c.body.length
      ·go_wp2_with (at_builtin; go_loud (refine Zaj wr rfl (.tmp 62) (.tmp 65) 25 rfl w.heap.size 3 Tryz.infoInt Tryz.underlying25 rfl (by decide) (.slice ta (rs.length+j) tcap) (rs.length+j) (ints (rs++List.replicate j (d+1))) rfl Hl3.out #[.int .i64 ((d:Int)+1)] (N:=wr.heap.size) rfl (by simp) rfl (Zfm _) ?_ ?_ ?_))
       ·omega
       ·omega
       intro v4 w4 hap
       obtain ⟨a4,c4,rfl⟩:=Zad hap.owns
       have hD4:=HD3.out.lefApp (d:=d+1) (w2:=w4) (lv2 := .slice a4 (rs.length+j+1) c4) (by rw [List.length_append,List.length_replicate]; exact hap)
       rw [List.append_assoc,← List.replicate_succ'] at hD4
       have HD4:=Zaa hD4
       clear hap hD4
       go_wp2
       go_roundg (c.body.length - j)
       case measure=>omega
       case rel=>exact ⟨j+1,by go_num,by omega,by omega,HD4.out⟩
      ·have hej:j=c.body.length:=by omega
       subst hej
       go_wp2
       go_roundg (ks.length - i)
       case measure=>omega
       case rel =>
        refine ⟨i+1,(tryN m c k).1,by go_num,by omega,by omega,Hfo2.out,Hbd2.out,hgl2,hdl2,?_⟩
        rw [Hd1.out,Hg2.out,List.reverse_append,List.reverse_replicate,← Hrs.out]
        exact HD3.out
    ·have hei:i=ks.length:=by omega
     subst hei
     have hm:(Zar cs (topN a) ks 0).1=m:=by
      have h1:=Hf.out
      have e:Zar cs m [] ks.length=if m.goals=[] then (m,0,0) else (m,7,ks.length):=by unfold Zar; rfl
      rw [Hfo.out,List.drop_eq_nil_of_le (Nat.le_refl _),e] at h1
      rw [Hfo.out,List.drop_eq_nil_of_le (Nat.le_refl _),e]
      by_cases hg:m.goals=[]
      ·rw [if_pos hg]
      ·rw [if_neg hg] at h1; simp at h1
     have Hm:=Zaa hm
     clear hm
     go_wp2
     go_ret
     rw [Hm.out]
     refine ⟨HD.out.ext,da,dcap,by rw [List.length_map,hdl]; rfl,?_⟩
     rw [List.length_map,hdl]
     exact Zbe Hdn.out (Nat.zero_le _)
theorem idx_hit:∀ {met:List Nat} {n k:Nat},(∀ i,i<k→met[i]?≠some n)→met[k]?=some n→met.idxOf n=k:=by
 intro met
 induction met with
 | nil=>intro n k _ h; simp at h
 | cons x met ih =>
  intro n k h1 h2
  rw [List.idxOf_cons]
  cases k with
  | zero=>simp at h2; subst h2; simp
  | succ k =>
   have hx:x≠n:=fun e=>h1 0 (by omega) (by simp [e])
   have:(x == n)=false:=by rw [beq_eq_false_iff_ne]; exact hx
   rw [this]
   simp only [cond_false]
   rw [ih (n:=n) (k:=k) (fun i hi=>by have:=h1 (i+1) (by omega); simpa using this) (by simpa using h2)]
theorem idx_miss:∀ {met:List Nat} {n:Nat},(∀ i,i<met.length→met[i]?≠some n)→met.idxOf n=met.length:=by
 intro met
 induction met with
 | nil=>intro n _; rfl
 | cons x met ih =>
  intro n h1
  rw [List.idxOf_cons]
  have hx:x≠n:=fun e=>h1 0 (by simp) (by simp [e])
  have:(x == n)=false:=by rw [beq_eq_false_iff_ne]; exact hx
  rw [this]
  simp only [cond_false,List.length_cons]
  rw [ih (n:=n) (fun i hi=>by have:=h1 (i+1) (by simp; omega); simpa using this)]
set_option maxRecDepth 10000 in
set_option maxHeartbeats 2000000 in
theorem Zus (w:World) (n:Nat) (lv:Value) (met:List Nat) (h:w.ownsRow 0 3 1 lv met.length (ints met)) (hl:met.length≤10000) (hn:n≤200000) :
  Calls Tryz.prog 134 #[.int .i64 n,lv] w fun e w'=>e = .returned (.int .i64 (met.idxOf n))∧w'=w:=by
 obtain ⟨la,lcap,rfl⟩:=Zad h
 have H:=Zaa h
 clear h
 go_enter Tryz.func134,Tryz.ntmps134
 go_wp2
 go_loopg [5] (met.length+1) (fun gk pv wr=>∃ (k:Nat),pv = .int .i64 k∧k≤met.length∧met.length - k<gk∧wr=w∧∀ i,i<k→met[i]?≠some n)
 case atStart=>exact ⟨0,by go_num,Nat.zero_le _,by omega,rfl,fun i hi=>by omega⟩
 case round =>
  obtain ⟨k,rfl,hk,hgk,rfl,hbef⟩:=hrel
  have Hbef:=Zaa hbef
  clear hbef
  by_cases hlt:k<met.length
  ·have hlt':(k:Int)<(met.length:Int):=by omega
   obtain ⟨x,hx⟩:∃ x,met[k]?=some x:=⟨_,List.getElem?_eq_getElem hlt⟩
   obtain ⟨g,cap',cur,he,_,hgb,_⟩:=Zal H.out (by omega)
   simp only [Value.slice.injEq] at he
   obtain ⟨rfl,_,rfl⟩:=he
   have x0:wr.cell? ⟨g,k,none⟩=some (.int .i64 x):=Zaf H.out k _ (by simp only [ints,List.getElem?_map,hx,Option.map_some])
   have hgl:=Zac hgb
   have Hx:=Zaa hx
   clear hx hgb
   by_cases hxn:x=n
   ·subst hxn
    have Hi:Hid (met.idxOf x=k):=idx_hit Hbef.out Hx.out
    go_wp2
    go_ret
    exact ⟨by rw [Hi.out]; simp,rfl⟩
   ·have hb:((x:Int) != (n:Int))=true:=by rw [bne_iff_ne]; omega
    go_wp2
    go_roundg (met.length - k)
    case measure=>omega
    case rel =>
     refine ⟨k+1,by go_num,by omega,by omega,rfl,fun i hi => ?_⟩
     by_cases e:i=k
     ·subst e
      rw [Hx.out]
      simpa using hxn
     ·exact Hbef.out i (by omega)
  ·have hek:k=met.length:=by omega
   subst hek
   have Hi:Hid (met.idxOf n=met.length):=idx_miss Hbef.out
   have hlt':¬ ((met.length:Int)<(met.length:Int)):=by omega
   go_wp2
   go_ret
   exact ⟨by rw [Hi.out]; simp,rfl⟩
theorem TermsAt.other {w w':World} {B B2 n s:Nat} {e:TypeId} {v vv:Value} {ls:List (List Sym)} {vs ys:List Value} (h:TermsAt w B v ls vs) (hv:w.ownsRow B2 e s vv n ys) (he1:105≠e) (he2:133≠e) (hk:Kept (Zbd vv) w w'):TermsAt w' B v ls vs :=
 ⟨hk.owns h.owns (fun j hj hS=>by
  obtain ⟨cur,hc⟩:=Zap hv j hS
  exact Zah h.owns he1 hc hj),fun i l hi=>by
  obtain ⟨x,h1,h2⟩:=h.all i l hi
  refine ⟨x,h1,hk.owns h2 (fun j hj hS => ?_)⟩
  obtain ⟨cur,hc⟩:=Zap hv j hS
  exact Zah h2 he2 hc hj⟩
structure OrdB (w:World) (Bc:Nat) (rl:List (List Sym)) (rv:Value) (xs:List Value) (met:List Nat) (mv:Value) (ch:List Sym) (cv:Value) (wr:World):Prop where
 ext:Ext w wr
 row:TermsAt wr w.heap.size rv rl xs
 low:∀ x ∈ xs,∀ j,x.ownBlock=some j→j<Bc
 met:wr.ownsRow w.heap.size 3 1 mv met.length (ints met)
 b1:w.heap.size≤Bc
 b2:Bc≤wr.heap.size
 chg:wr.ownsRow Bc 133 3 cv ch.length (Zam ch)
theorem OrdB.on {w wr w1:World} {Bc:Nat} {rl:List (List Sym)} {rv mv cv:Value} {xs:List Value} {met:List Nat} {ch:List Sym} (h:OrdB w Bc rl rv xs met mv ch cv wr) (e:Ext wr w1):OrdB w Bc rl rv xs met mv ch cv w1:=by
 obtain ⟨h1,h2,h3,h4,h5,h6,h7⟩:=h
 exact ⟨h1.trans (e.mono h1.size),h2.ext e,h3,Zan h4 (fun j hj=>e.block j (h4.lt j hj).2),h5,Nat.le_trans h6 e.size,Zan h7 (fun j hj=>e.block j (h7.lt j hj).2)⟩
theorem OrdB.metApp {w w1 w2:World} {Bc n:Nat} {rl:List (List Sym)} {rv mv mv2 cv:Value} {xs:List Value} {met:List Nat} {ch:List Sym} (h:OrdB w Bc rl rv xs met mv ch cv w1) (hap:Appended w1 w.heap.size 3 1 mv (met.length+1) (ints met++[.int .i64 n]) mv2 w2):OrdB w Bc rl rv xs (met++[n]) mv2 ch cv w2:=by
 obtain ⟨h1,h2,h3,h4,h5,h6,h7⟩:=h
 have hsz:=hap.kept.size
 refine ⟨h1.trans (hap.kept.below h1.size (fun j hj=>(h4.lt j hj).1)),h2.other h4 (by decide) (by decide) hap.kept,h3,?_,h5,by omega,hap.kept.owns h7 (fun j hj hS => ?_)⟩
 ·have:=hap.owns
  simpa [ints] using this
 ·obtain ⟨cur,hc⟩:=Zap h4 j hS
  exact Zah h7 (by decide) hc hj
theorem OrdB.chApp {w w1 w2:World} {Bc:Nat} {rl:List (List Sym)} {rv mv cv cv2:Value} {xs:List Value} {met:List Nat} {ch:List Sym} {s:Sym} (h:OrdB w Bc rl rv xs met mv ch cv w1) (hap:Appended w1 Bc 133 3 cv (ch.length+1) (Zam ch++Zcd s) cv2 w2):OrdB w Bc rl rv xs met mv (ch++[s]) cv2 w2:=by
 obtain ⟨h1,h2,h3,h4,h5,h6,h7⟩:=h
 have hsz:=hap.kept.size
 refine ⟨h1.trans (hap.kept.below h1.size (fun j hj=>Nat.le_trans h5 (h7.lt j hj).1)),⟨hap.kept.owns h2.owns (fun j hj hS => ?_),fun i l hi => ?_⟩,h3,hap.kept.owns h4 (fun j hj hS => ?_),h5,by omega,?_⟩
 ·obtain ⟨cur,hc⟩:=Zap h7 j hS
  exact Zah h2.owns (by decide) hc hj
 ·obtain ⟨x,e1,e2⟩:=h2.all i l hi
  refine ⟨x,e1,hap.kept.owns e2 (fun j hj hS => ?_)⟩
  have:=h3 x (List.mem_of_getElem? e1) j hj
  have:=(h7.lt j hS).1
  omega
 ·obtain ⟨cur,hc⟩:=Zap h7 j hS
  exact Zah h4 (by decide) hc hj
 ·have:=hap.owns
  rw [Zdl,List.length_append]
  simpa [Zam] using this
theorem OrdB.box {w w1 w2:World} {Bc M:Nat} {cs:Array Value} {fr:Nat × Nat} {rl:List (List Sym)} {rv mv cv:Value} {xs:List Value} {met:List Nat} {ch:List Sym} (h:OrdB w Bc rl rv xs met mv ch cv w1) (hM:w1.heap[M]?=some (.cells cs 133 fr)) (hB:Bc≤M) (hc:∀ j,cv.ownBlock=some j→j≠M) (hk:Kept (fun k=>k=M) w1 w2):OrdB w Bc rl rv xs met mv ch cv w2:=by
 obtain ⟨h1,h2,h3,h4,h5,h6,h7⟩:=h
 have hsz:=hk.size
 refine ⟨h1.trans (hk.below h1.size (fun j hj=>by omega)),⟨Zce h2.owns hM (by decide) hk,fun i l hi => ?_⟩,h3,Zce h4 hM (by decide) hk,h5,by omega,hk.owns h7 (fun j hj hS=>hc j hj hS)⟩
 obtain ⟨x,e1,e2⟩:=h2.all i l hi
 refine ⟨x,e1,hk.owns e2 (fun j hj hS => ?_)⟩
 have:=h3 x (List.mem_of_getElem? e1) j hj
 have hS:j=M:=hS
 omega
theorem TermsAt.words {w:World} {B:Nat} {v:Value} {ls:List (List Sym)} {vs:List Value} (h:TermsAt w B v ls vs):∀ x ∈ vs,∀ j,x.ownBlock=some j→j<w.heap.size:=fun x hx j hj=>by
 have hlen:vs.length=ls.length:=by have:=h.owns.1; omega
 obtain ⟨i,hi⟩:=List.mem_iff_getElem?.1 hx
 have hil:=(List.getElem?_eq_some_iff.1 hi).1
 obtain ⟨y,h3,h4⟩:=h.all i _ (List.getElem?_eq_getElem (by omega))
 rw [hi] at h3
 simp only [Option.some.injEq] at h3
 subst h3
 exact (h4.lt j hj).2
theorem meet_len (n:Nat) (met:List Nat):(meet n met).length≤met.length+1:=by unfold meet; split <;> simp
theorem Zpf:∀ (l:List Sym) (met:List Nat),(Zax l met).2.length≤met.length+l.length:=by
 intro l
 induction l with
 | nil=>intro met; simp [Zax]
 | cons s l ih =>
  intro met
  simp only [Zax]
  split
  ·have:=ih (meet s.num met); have:=meet_len s.num met; simp; omega
  ·have:=ih met; simp; omega
theorem Zys:∀ (ts:List (List Sym)) (met:List Nat),(Zas ts met).2.length≤met.length+ts.flatten.length:=by
 intro ts
 induction ts with
 | nil=>intro met; simp [Zas]
 | cons t ts ih =>
  intro met
  simp only [Zas,List.flatten_cons,List.length_append]
  have:=ih (Zax t met).2
  have:=Zpf t met
  omega
def OrdOut (ts:List (List Sym)) (w:World) (e:Ending) (w':World):Prop:=Ext w w'∧∃ x c,e = .returned (.slice x ts.length c)∧TermsIn w' (.slice x ts.length c) (Zas ts []).1
set_option maxRecDepth 10000 in
set_option maxHeartbeats 4000000 in
theorem Zut (w:World) (tv:Value) (ts:List (List Sym)) (h:TermsIn w tv ts) (hl:ts.length≤1000) (hf:ts.flatten.length≤8000) (hok:∀ t ∈ ts,TmOk t) :
  Calls Tryz.prog 99 #[tv] w (OrdOut ts w):=by
 obtain ⟨us,h⟩:=h
 obtain ⟨ta,tcap,rfl⟩:=Zad h.owns
 have H:=Zaa h
 have Hok:=Zaa hok
 have Hf:=Zaa hf
 clear h hok hf
 go_enter Tryz.func99,Tryz.ntmps99
 go_wp2
 go_loopg [3,4,13] (ts.length+1) (fun gk rv mv iv wr=>∃ (k:Nat) (xs:List Value),iv = .int .i64 k∧k≤ts.length∧ts.length - k<gk∧OrdB w wr.heap.size (Zas (ts.take k) []).1 rv xs (Zas (ts.take k) []).2 mv [] (.slice none 0 0) wr)
 case atStart=>exact ⟨0,[],by go_num,Nat.zero_le _,by omega,Below.refl _ _,TermsAt.nil _ _,by simp,World.ownsRow_nil _ _ _ _,Nat.le_refl _,Nat.le_refl _,World.ownsRow_nil _ _ _ _⟩
 case round =>
  obtain ⟨k,xs,rfl,hk,hgk,hA⟩:=hrel
  have hmet:(Zas (ts.take k) []).2.length≤8000:=by
   have h1:=Zys (ts.take k) []
   have h2:=Hf.out
   have h3:(ts.take k).flatten.length≤ts.flatten.length:=by
    conv=>rhs; rw [← List.take_append_drop k ts,List.flatten_append,List.length_append]
    omega
   simp at h1
   simp at h2 h3
   omega
  have hlk:(Zas (ts.take k) []).1.length=k:=by rw [Zhe]; simp; omega
  obtain ⟨rl,hrl⟩:∃ r,r=(Zas (ts.take k) []).1:=⟨_,rfl⟩
  obtain ⟨met,hme⟩:∃ r,r=(Zas (ts.take k) []).2:=⟨_,rfl⟩
  rw [← hrl,← hme] at hA
  rw [← hme] at hmet
  rw [← hrl] at hlk
  have hrow:=hA.row.owns
  rw [hlk] at hrow
  obtain ⟨ra,rcap,rfl⟩:=Zad hrow
  obtain ⟨ma,mcap,rfl⟩:=Zad hA.met
  have hsr:=hA.ext.size
  have HA:=Zaa hA
  have Hrl:=Zaa hrl
  have Hme:=Zaa hme
  have Hlk:=Zaa hlk
  clear hA hrow hrl hme hlk
  by_cases hlt:k<ts.length
  ·obtain ⟨t,ht⟩:∃ t,ts[k]?=some t:=⟨_,List.getElem?_eq_getElem hlt⟩
   obtain ⟨x,hx,hxo⟩:=H.out.all _ t ht
   obtain ⟨xa,xcap,rfl⟩:=Zad hxo
   obtain ⟨g,cap',cur,he,_,hgb,_⟩:=Zal H.out.owns (by omega)
   simp only [Value.slice.injEq] at he
   obtain ⟨rfl,_,rfl⟩:=he
   have hgw:=Zac hgb
   have hgr:g<wr.heap.size:=by omega
   have x0:wr.cell? ⟨g,k,none⟩=some (.slice xa t.length xcap):=(HA.out.ext.cell (p:=⟨g,k,none⟩) hgw).trans (Zaf H.out.owns _ _ hx)
   obtain ⟨o1,o2,o3⟩:=Hok.out t (List.mem_of_getElem? ht)
   have Hxo:Hid (WordAt w (.slice xa t.length xcap) t):=hxo
   have Ht:=Zaa ht
   have Ho3:=Zaa o3
   have Hta:Hid (∀ (i:Nat) s,t[i]?=some s→s.name=[]→s.args=0):=fun i s hs=>by obtain ⟨j,hj⟩:=o1; exact (Zjq hj hs).1
   have hm8:met.length+t.length≤9000:=by omega
   obtain ⟨wo,hwo⟩:∃ x,x=wr:=⟨_,rfl⟩
   subst hwo
   clear ht hx hxo hgb o1 o3
   go_wp2
   go_loopg [4,7,19] (t.length+1) (fun gk mv cv iv wr=>∃ (i:Nat),iv = .int .i64 i∧i≤t.length∧t.length - i<gk∧OrdB w wo.heap.size rl (.slice ra k rcap) xs (Zax (t.take i) met).2 mv (Zax (t.take i) met).1 cv wr)
   case atStart=>exact ⟨0,by go_num,Nat.zero_le _,by omega,HA.out⟩
   case round =>
    obtain ⟨i,rfl,hi,hgi,hB⟩:=hrel
    have hmi:(Zax (t.take i) met).2.length≤9000:=by
     have:=Zpf (t.take i) met
     simp at this
     omega
    have hci:(Zax (t.take i) met).1.length=i:=by rw [Zka]; simp; omega
    obtain ⟨ch,hch⟩:∃ r,r=(Zax (t.take i) met).1:=⟨_,rfl⟩
    obtain ⟨mt,hmt⟩:∃ r,r=(Zax (t.take i) met).2:=⟨_,rfl⟩
    rw [← hch,← hmt] at hB
    rw [← hmt] at hmi
    rw [← hch] at hci
    have hcg:=hB.chg
    rw [hci] at hcg
    obtain ⟨ca,ccap,rfl⟩:=Zad hcg
    obtain ⟨na,ncap,rfl⟩:=Zad hB.met
    have hsi:=hB.ext.size
    have hb2:=hB.b2
    have HB:=Zaa hB
    have Hch:=Zaa hch
    have Hmt:=Zaa hmt
    have Hci:=Zaa hci
    clear hB hcg hch hmt hci x0
    by_cases hit:i<t.length
    ·obtain ⟨s,hs⟩:∃ s,t[i]?=some s:=⟨_,List.getElem?_eq_getElem hit⟩
     obtain ⟨g2,cap2,cur2,he2,_,hgb2,_⟩:=Zal Hxo.out (by omega)
     simp only [Value.slice.injEq] at he2
     obtain ⟨rfl,_,rfl⟩:=he2
     have ho:=Zan Hxo.out (fun j hj=>HB.out.ext.block j (Hxo.out.lt j hj).2)
     have hgw2:=Zac hgb2
     have hgr2:g2<wr.heap.size:=by omega
     have e0:wr.cell? ⟨g2,i * 3,none⟩=some (.string ⟨s.name.toArray⟩):=Zaf ho _ _ (by have:=Zbh t i s hs 0 (by omega); rw [Nat.add_zero] at this; rw [this]; rfl)
     have e1:wr.cell? ⟨g2,i * 3+1,none⟩=some (.int .i64 s.num):=Zaf ho _ _ (by rw [Zbh t i s hs 1 (by omega)]; rfl)
     have e2:wr.cell? ⟨g2,i * 3+2,none⟩=some (.int .i64 s.args):=Zaf ho _ _ (by rw [Zbh t i s hs 2 (by omega)]; rfl)
     have hsn:=Ho3.out s (List.mem_of_getElem? hs)
     have hnx:Zax (t.take (i+1)) met=(if s.name=[] then (ch++[⟨[],mt.idxOf s.num,s.args⟩],meet s.num mt) else (ch++[s],mt)):=by
      rw [List.take_add_one,hs]
      simp only [Option.toList]
      rw [Zjz,← Hch.out,← Hmt.out]
      simp only [Zax]
      split <;> rfl
     have Hnx:=Zaa hnx
     clear hs ho hgb2 hnx
     cases hnm:s.name with
     | cons y ys =>
      rw [hnm] at e0
      have Hnx2:Hid (Zax (t.take (i+1)) met=(ch++[s],mt)):=by show _=_; rw [Hnx.out,if_neg (by rw [hnm]; simp)]
      have Hs2:Hid (s=⟨y::ys,s.num,s.args⟩):=by show _=_; rw [← hnm]
      have hE:Ext wr (wr.alloc (.cells #[.string ⟨(y::ys).toArray⟩,.int .i64 s.num,.int .i64 s.args] 133)):=(Ext.of (by repeat' (first | with_reducible exact Kept.refl _ _ | with_reducible apply Kept.drew | with_reducible apply Kept.drewN | with_reducible apply Kept.alloc | with_reducible refine Kept.setCell ?_ ?_ _ | exact fun h=>absurd h (by simp <;> omega))))
      have HB1:=Zaa (HB.out.on hE)
      have Hrow:Hid ((wr.alloc (.cells #[.string ⟨(y::ys).toArray⟩,.int .i64 s.num,.int .i64 s.args] 133)).ownsRow wo.heap.size 133 3 (.slice ca i ccap) i (Zam ch)):=by have:=HB1.out.chg; rw [Hci.out] at this; exact this
      clear hnm hE
      go_wp2_with (at_builtin; go_loud (refine Zaj (wr.alloc (.cells #[.string ⟨(y::ys).toArray⟩,.int .i64 s.num,.int .i64 s.args] 133)) rfl (.tmp 41) (.tmp 43) 105 rfl wo.heap.size 133 Tryz.infoSym Tryz.underlying105 rfl (by decide) (.slice ca i ccap) i (Zam ch) rfl Hrow.out #[.string ⟨(y::ys).toArray⟩,.int .i64 s.num,.int .i64 s.args] (N:=wr.heap.size+1) rfl (by simp) rfl (Zhc _ _ _) ?_ ?_ ?_))
      ·omega
      ·simp; omega
      intro v2 w2 hap
      obtain ⟨a2,c2,rfl⟩:=Zad hap.owns
      have hB2:=HB1.out.chApp (s:=s) (cv2 := .slice a2 (i+1) c2) (w2:=w2) (by rw [Hci.out,Hs2.out]; simpa [Zcd] using hap)
      have HB2:=Zaa hB2
      clear hap hB2
      go_wp2
      go_roundg (t.length - i)
      case measure=>omega
      case rel=>exact ⟨i+1,by go_num,by omega,by omega,by rw [Hnx2.out]; exact HB2.out⟩
     | nil =>
      rw [hnm] at e0
      obtain ⟨P,hP⟩:∃ p,p=mt.idxOf s.num:=⟨_,rfl⟩
      have hPl:P≤mt.length:=by rw [hP]; exact List.idxOf_le_length
      have hE:∀ o,Ext wr (wr.alloc o):=fun o=>(Ext.of (by repeat' (first | with_reducible exact Kept.refl _ _ | with_reducible apply Kept.drew | with_reducible apply Kept.drewN | with_reducible apply Kept.alloc | with_reducible refine Kept.setCell ?_ ?_ _ | exact fun h=>absurd h (by simp <;> omega))))
      have HPl:=Zaa (Zus (wr.alloc (.cells #[.string ⟨#[]⟩,.int .i64 s.num,.int .i64 s.args] 133)) s.num (.slice na mt.length ncap) mt (Zbe (HB.out.on (hE _)).met (Nat.zero_le _)) (by omega) hsn)
      rw [← hP] at HPl
      have Hnx2:Hid (Zax (t.take (i+1)) met=(ch++[⟨[],P,s.args⟩],meet s.num mt)):=by show _=_; rw [Hnx.out,if_pos hnm,← hP]
      have Hmeet:Hid (meet s.num mt=if P=mt.length then mt++[s.num] else mt):=by show _=_; unfold meet; rw [← hP]
      have HE:=Zaa hE
      have HBm:=Zaa (HB.out.on (hE (.cells #[.string ⟨#[]⟩,.int .i64 s.num,.int .i64 s.args] 133)))
      clear hnm hE hP
      go_wp2_with fail
      refine HPl.out.mono ?_
      rintro e w1 ⟨rfl,rfl⟩
      by_cases hnew:P=mt.length
      ·subst hnew
       have hz:((mt.length:Int) == (mt.length:Int))=true:=by simp
       have Hmrow:Hid ((wr.alloc (.cells #[.string ⟨#[]⟩,.int .i64 s.num,.int .i64 s.args] 133)).ownsRow w.heap.size 3 1 (.slice na mt.length ncap) mt.length (ints mt)):=HBm.out.met
       go_wp2_with (at_builtin; go_loud (refine Zaj (wr.alloc (.cells #[.string ⟨#[]⟩,.int .i64 s.num,.int .i64 s.args] 133)) rfl (.tmp 34) (.tmp 37) 25 rfl w.heap.size 3 Tryz.infoInt Tryz.underlying25 rfl (by decide) (.slice na mt.length ncap) mt.length (ints mt) rfl Hmrow.out #[.int .i64 s.num] (N:=wr.heap.size+1) rfl (by simp) rfl (Zfm _) ?_ ?_ ?_))
       ·omega
       ·simp; omega
       intro v2 w2 hap
       obtain ⟨a2,c2,rfl⟩:=Zad hap.owns
       have hB2:=HBm.out.metApp (n:=s.num) hap
       have hbx:w2.heap[wr.heap.size]?=some (.cells #[.string ⟨#[]⟩,.int .i64 s.num,.int .i64 s.args] 133 (0,0)):=(hap.kept.block _ (by simp) (Zah Hmrow.out (by decide) (heap_alloc_new wr _))).trans (heap_alloc_new wr _)
       have hK:Kept (fun k=>k=wr.heap.size) w2 (w2.setCell ⟨wr.heap.size,1,none⟩ (.int .i64 mt.length)):=(Kept.refl (only wr.heap.size) w2).put 1 _
       have hB3:=hB2.box hbx hb2 (fun j hj=>by have:=(HB.out.chg.lt j hj).2; omega) hK
       have y0:=Zab hbx 0 _ rfl
       have y1:=Zab hbx 1 _ rfl
       have y2:=Zab hbx 2 _ rfl
       have yf:=fun i=>Zae hbx i
       have yl:=Zac hbx
       have hsz2:=hap.kept.size
       simp at hsz2
       have HB3:=Zaa hB3
       have Hrow:Hid ((w2.setCell ⟨wr.heap.size,1,none⟩ (.int .i64 mt.length)).ownsRow wo.heap.size 133 3 (.slice ca i ccap) i (Zam ch)):=by have:=hB3.chg; rw [Hci.out] at this; exact this
       have Hme2:Hid (meet s.num mt=mt++[s.num]):=by show _=_; rw [Hmeet.out]; simp
       clear hap hB2 hbx hK hB3 e0 e1 e2
       go_wp2_with (at_builtin; go_loud (refine Zaj (w2.setCell ⟨wr.heap.size,1,none⟩ (.int .i64 mt.length)) rfl (.tmp 41) (.tmp 43) 105 rfl wo.heap.size 133 Tryz.infoSym Tryz.underlying105 rfl (by decide) (.slice ca i ccap) i (Zam ch) rfl Hrow.out #[.string ⟨#[]⟩,.int .i64 mt.length,.int .i64 s.args] (N:=w2.heap.size) rfl (by simp) rfl (Zhc _ _ _) ?_ ?_ ?_))
       ·omega
       ·simp; omega
       intro v4 w4 hap
       obtain ⟨a4,c4,rfl⟩:=Zad hap.owns
       have hB4:=HB3.out.chApp (s:=⟨[],mt.length,s.args⟩) (cv2 := .slice a4 (i+1) c4) (w2:=w4) (by rw [Hci.out]; simpa [Zcd] using hap)
       have HB4:=Zaa hB4
       clear hap hB4
       go_wp2
       go_roundg (t.length - i)
       case measure=>omega
       case rel=>exact ⟨i+1,by go_num,by omega,by omega,by rw [Hnx2.out,Hme2.out]; exact HB4.out⟩
      ·have hz:((P:Int) == (mt.length:Int))=false:=by rw [beq_eq_false_iff_ne]; omega
       have Hme2:Hid (meet s.num mt=mt):=by show _=_; rw [Hmeet.out,if_neg hnew]
       have HB3:=Zaa (HB.out.on (HE.out (.cells #[.string ⟨#[]⟩,.int .i64 P,.int .i64 s.args] 133)))
       have Hrow:Hid ((wr.alloc (.cells #[.string ⟨#[]⟩,.int .i64 P,.int .i64 s.args] 133)).ownsRow wo.heap.size 133 3 (.slice ca i ccap) i (Zam ch)):=by have:=HB3.out.chg; rw [Hci.out] at this; exact this
       clear hnew
       go_wp2_with (at_builtin; go_loud (refine Zaj (wr.alloc (.cells #[.string ⟨#[]⟩,.int .i64 P,.int .i64 s.args] 133)) rfl (.tmp 41) (.tmp 43) 105 rfl wo.heap.size 133 Tryz.infoSym Tryz.underlying105 rfl (by decide) (.slice ca i ccap) i (Zam ch) rfl Hrow.out #[.string ⟨#[]⟩,.int .i64 P,.int .i64 s.args] (N:=wr.heap.size+1) rfl (by simp) rfl (Zhc _ _ _) ?_ ?_ ?_))
       ·omega
       ·simp; omega
       intro v4 w4 hap
       obtain ⟨a4,c4,rfl⟩:=Zad hap.owns
       have hB4:=HB3.out.chApp (s:=⟨[],P,s.args⟩) (cv2 := .slice a4 (i+1) c4) (w2:=w4) (by rw [Hci.out]; simpa [Zcd] using hap)
       have HB4:=Zaa hB4
       clear hap hB4
       go_wp2
       go_roundg (t.length - i)
       case measure=>omega
       case rel=>exact ⟨i+1,by go_num,by omega,by omega,by rw [Hnx2.out,Hme2.out]; exact HB4.out⟩
    ·have hei:i=t.length:=by omega
     subst hei
     have Hrow:Hid (wr.ownsRow w.heap.size 105 1 (.slice ra k rcap) k xs):=by have:=HB.out.row.owns; rw [Hlk.out] at this; exact this
     go_wp2_with (at_builtin; go_loud (refine Zaj wr rfl (.tmp 46) (.tmp 48) 85 rfl w.heap.size 105 Tryz.infoSyms Tryz.underlying85 rfl (by decide) (.slice ra k rcap) k xs rfl Hrow.out #[.slice ca t.length ccap] (N:=wr.heap.size) rfl (by simp) rfl (Zef _ _ _) ?_ ?_ ?_))
     ·omega
     ·omega
     intro v2 w2 hap
     obtain ⟨a2,c2,rfl⟩:=Zad hap.owns
     have hfin:OrdB w w2.heap.size (Zas (ts.take (k+1)) []).1 (.slice a2 (k+1) c2) (xs++[.slice ca t.length ccap]) (Zas (ts.take (k+1)) []).2 (.slice na mt.length ncap) [] (.slice none 0 0) w2:=by
      have hch:=Hch.out
      have hmt:=Hmt.out
      rw [List.take_length] at hch hmt
      have hnx:Zas (ts.take (k+1)) []=(rl++[ch],mt):=by
       rw [List.take_add_one,Ht.out]
       simp only [Option.toList]
       rw [Zpz,← Hrl.out,← Hme.out]
       simp only [Zas]
       rw [hch,hmt]
      rw [hnx]
      obtain ⟨q1,q2,q3,q4,q5,q6,q7⟩:=HB.out
      have hsz:=hap.kept.size
      have hx:WordAt wr (.slice ca t.length ccap) ch:=Zbe q7 (Nat.zero_le _)
      have ht:TermsAt w2 w.heap.size (.slice a2 (k+1) c2) (rl++[ch]) (xs++[.slice ca t.length ccap]):=q2.snoc (by rw [Hlk.out]; exact hap) hx
      refine ⟨q1.trans (hap.kept.below q1.size (fun j hj=>(Hrow.out.lt j hj).1)),ht,ht.words,hap.kept.owns q4 (fun j hj hS => ?_),by omega,Nat.le_refl _,World.ownsRow_nil _ _ _ _⟩
      obtain ⟨cur,hc⟩:=Zap Hrow.out j hS
      exact Zah q4 (by decide) hc hj
     have Hfin:=Zaa hfin
     clear hap hfin
     go_wp2
     go_roundg (ts.length - k)
     case measure=>omega
     case rel=>exact ⟨k+1,_,by go_num,by omega,by omega,Hfin.out⟩
  ·have hek:k=ts.length:=by omega
   subst hek
   go_wp2
   go_ret
   have hr:=Hrl.out
   rw [List.take_length] at hr
   obtain ⟨q1,q2,_⟩:=HA.out
   rw [hr] at q2
   exact ⟨q1,ra,rcap,rfl,q2.inn⟩
structure TxOk (ts:List (List Sym)):Prop where
 len:ts.length≤1000
 all:ts.flatten.length≤8000
 ok:∀ t ∈ ts,TmOk t
 sym:∀ t ∈ (Zas ts []).1,SymOk t
 txt:∀ t ∈ (Zas ts []).1,(Zco t []).length≤1000000
def Zni (ts:List (List Sym)):List (List UInt8):=(Zas ts []).1.map (fun t=>Zco t [])
def Zwb (ts:List (List Sym)) (w:World) (e:Ending) (w':World):Prop:=Ext w w'∧∃ x c,e = .returned (.slice x ts.length c)∧w'.ownsRow 0 9 1 (.slice x ts.length c) ts.length (strs (Zni ts))
set_option maxRecDepth 10000 in
set_option maxHeartbeats 2000000 in
theorem texts_any (w:World) (tv:Value) (ts:List (List Sym)) (h:TermsIn w tv ts) (ho:TxOk ts):Calls Tryz.prog 79 #[tv] w (Zwb ts w):=by
 obtain ⟨ta,tcap,rfl⟩:=h.shape
 have HI:=Zaa (Zut w _ ts h ho.len ho.all ho.ok)
 have Ho:=Zaa ho
 have hl:=ho.len
 have hcl:(Zas ts []).1.length=ts.length:=Zhe _ _
 obtain ⟨C,hC⟩:∃ C,C=(Zas ts []).1:=⟨_,rfl⟩
 have Htx:Hid (Zni ts=C.map (fun t=>Zco t [])):=by show _=_; unfold Zni; rw [hC]
 rw [← hC] at hcl
 have HC:=Zaa hC
 have Hcl:=Zaa hcl
 clear h ho hC hcl
 go_enter Tryz.func79,Tryz.ntmps79
 go_wp2_with fail
 refine HI.out.mono ?_
 rintro e w1 ⟨hE1,xa,xc,rfl,hT⟩
 rw [← HC.out] at hT
 obtain ⟨us,hT⟩:=hT
 have hz1:=hE1.size
 have HE1:=Zaa hE1
 have HT:=Zaa hT
 clear hE1 hT HI
 go_wp2
 go_loopg [3,9] (ts.length+1) (fun gk rv iv wr=>∃ (k:Nat),iv = .int .i64 k∧k≤ts.length∧ts.length - k<gk∧Ext w1 wr∧wr.ownsRow w1.heap.size 9 1 rv k (strs ((C.take k).map (fun t=>Zco t []))))
 case atStart=>exact ⟨0,by go_num,Nat.zero_le _,by omega,Below.refl _ _,World.ownsRow_nil _ _ _ _⟩
 case round =>
  obtain ⟨k,rfl,hk,hgk,hE,hown⟩:=hrel
  obtain ⟨ra,rcap,rfl⟩:=Zad hown
  have hsr:=hE.size
  have HE:=Zaa hE
  have Hown:=Zaa hown
  clear hE hown
  by_cases hlt:k<ts.length
  ·have hkC:k<C.length:=by rw [Hcl.out]; exact hlt
   obtain ⟨t,ht⟩:∃ t,C[k]?=some t:=⟨_,List.getElem?_eq_getElem hkC⟩
   obtain ⟨y,hy,hyo⟩:=HT.out.all _ t ht
   obtain ⟨ya,ycap,rfl⟩:=Zad hyo
   have hor:=HT.out.owns
   rw [Hcl.out] at hor
   obtain ⟨g,cap',cur,he,_,hgb,_⟩:=Zal hor (by omega)
   simp only [Value.slice.injEq] at he
   obtain ⟨rfl,_,rfl⟩:=he
   have hgw:=Zac hgb
   have hgr:g<wr.heap.size:=by omega
   have x0:wr.cell? ⟨g,k,none⟩=some (.slice ya t.length ycap):=(HE.out.cell (p:=⟨g,k,none⟩) hgw).trans (Zaf hor _ _ hy)
   have htm:t ∈ (Zas ts []).1:=by rw [← HC.out]; exact List.mem_of_getElem? ht
   have hso:=Ho.out.sym t htm
   have htx:=Ho.out.txt t htm
   have HA:=Zaa (Zrt wr 0 (.slice ya t.length ycap) t (WordAt.ext hyo HE.out) hso.1 hso.2 (by omega))
   have hnx:C.take (k+1)=C.take k++[t]:=by rw [List.take_add_one,ht]; rfl
   obtain ⟨A,hA⟩:∃ A,A=Zco t []:=⟨_,rfl⟩
   rw [← hA] at HA htx
   have HAA:=Zaa hA
   have Hnx:=Zaa hnx
   clear ht hy hyo hor hgb htm hso hnx hA
   go_wp2_with fail
   refine HA.out.mono ?_
   rintro e w2 ⟨rfl,hE2⟩
   have hz2:=hE2.size
   have HE2:Hid (Ext w1 w2):=HE.out.trans (hE2.mono hsr)
   have Hrow:Hid (w2.ownsRow w1.heap.size 9 1 (.slice ra k rcap) k (strs ((C.take k).map (fun t=>Zco t [])))):=Zan Hown.out (fun j hj=>hE2.block j (Hown.out.lt j hj).2)
   clear hE2 x0
   go_wp2_with (at_builtin; go_loud (refine Zaj w2 rfl (.tmp 13) (.tmp 16) 47 rfl w1.heap.size 9 Tryz.infoStr Tryz.underlying47 rfl (by decide) (.slice ra k rcap) k (strs ((C.take k).map (fun t=>Zco t []))) rfl Hrow.out #[.string ⟨A.toArray⟩] (N:=w2.heap.size) rfl (by simp) rfl (Ztf _) ?_ ?_ ?_))
   ·omega
   ·omega
   intro v3 w3 hap
   obtain ⟨a3,c3,rfl⟩:=Zad hap.owns
   have hE3:Ext w1 w3:=HE2.out.trans (hap.kept.below (by omega) (fun j hj=>(Hrow.out.lt j hj).1))
   have hrow3:w3.ownsRow w1.heap.size 9 1 (.slice a3 (k+1) c3) (k+1) (strs ((C.take (k+1)).map (fun t=>Zco t []))):=by
    have:=hap.owns
    rw [Hnx.out,List.map_append]
    simp only [List.map_cons,List.map_nil,strs,List.map_append]
    rw [← HAA.out]
    rw [← List.map_take] at this
    exact this
   have HE3:=Zaa hE3
   have Hrow3:=Zaa hrow3
   clear hap hE3 hrow3
   go_wp2
   go_roundg (ts.length - k)
   case measure=>omega
   case rel=>exact ⟨k+1,by go_num,by omega,by omega,HE3.out,Hrow3.out⟩
  ·have hek:k=ts.length:=by omega
   subst hek
   go_wp2
   go_ret
   have hrow:=Hown.out
   rw [← Hcl.out,List.take_length] at hrow
   rw [← Htx.out,Hcl.out] at hrow
   exact ⟨HE1.out.trans (HE.out.mono hz1),ra,rcap,rfl,Zbe hrow (Nat.zero_le _)⟩
structure HeldC (p q x:ByteArray) (a:List (List Sym) × Names) (ks:List Nat) (n m:ND):Prop where
 ask:Zgc q=some a
 held:Zcs p q x=(a.2,m,0,0)
 ok:NOk n
 nm:NNm n
 few:NFew n
 same:Same n m
 fol:∃ cs,Zds p=some cs∧Zar cs (topN a) ks 0=(m,0,0)
def Zdm:Value := .agg #[.slice none 0 0,.slice none 0 0,.slice none 0 0,.slice none 0 0,.int .i64 0,.slice none 0 0,.slice none 0 0]
def Zwc (p q x:ByteArray) (w:World) (e:Ending) (w':World):Prop:=Ext w w' ∧
 (((Zcs p q x).2.2.1≠0∧e = .returned (.tuple #[Zdm,.agg #[.int .i64 (Zcs p q x).2.2.1,.int .i64 (Zcs p q x).2.2.2]])) ∨
  (∃ a ks n m,HeldC p q x a ks n m∧∃ n1 nc g1 g2 g3 v1 v2 v3 r1 r2 r3,∃ uu:Nat,∃ k1 kc d1 dc,e = .returned (.tuple #[.agg #[.slice n1 a.2.length nc,.slice g1 g2 g3,.slice v1 v2 v3,.slice r1 r2 r3,.int .i64 uu,.slice k1 ks.length kc,.slice d1 (m.done.map (·.2)).length dc],.agg #[.int .i64 0,.int .i64 0]]) ∧
   NodeIn w' (.slice g1 g2 g3) (.slice v1 v2 v3) (.slice r1 r2 r3) n∧w'.ownsRow 0 9 1 (.slice n1 a.2.length nc) a.2.length (strs a.2)∧w'.ownsRow 0 3 1 (.slice k1 ks.length kc) ks.length (ints ks)∧w'.ownsRow 0 3 1 (.slice d1 (m.done.map (·.2)).length dc) (m.done.map (·.2)).length (ints (m.done.map (·.2)))))
set_option maxRecDepth 10000 in
set_option maxHeartbeats 4000000 in
theorem Zyt (p q x:ByteArray) (w:World) (hp:p.size≤maxLen) (hq:q.size≤maxLen) (hx:x.size≤maxLen):Calls Tryz.prog 42 #[.string p,.string q,.string x] w (Zwc p q x w):=by
 have HBo:=Zaa (fun u=>both_code p q u hp hq)
 have HNu:=Zaa (fun u=>nums_any x u hx)
 clear hp hq hx
 obtain ⟨W,hW⟩:∃ W,W=(w.alloc (.cells #[.slice none 0 0,.slice none 0 0,.slice none 0 0,.slice none 0 0,.int .i64 0,.slice none 0 0,.slice none 0 0] 89)).alloc (.cells #[.int .i64 0,.int .i64 0] 91):=⟨_,rfl⟩
 have hE0:Ext w W:=by rw [hW]; exact (Ext.of (by repeat' (first | with_reducible exact Kept.refl _ _ | with_reducible apply Kept.drew | with_reducible apply Kept.drewN | with_reducible apply Kept.alloc | with_reducible refine Kept.setCell ?_ ?_ _ | exact fun h=>absurd h (by simp <;> omega))))
 have hWs:W.heap.size=w.heap.size+2:=by rw [hW]; simp
 have hb0:W.heap[w.heap.size]?=some (.cells #[.slice none 0 0,.slice none 0 0,.slice none 0 0,.slice none 0 0,.int .i64 0,.slice none 0 0,.slice none 0 0] 89 (0,0)):=by rw [hW]; exact Zag (heap_alloc_new w _) _
 have hb1:W.heap[w.heap.size+1]?=some (.cells #[.int .i64 0,.int .i64 0] 91 (0,0)):=by rw [hW]; exact Zet (by simp) _
 have HB:Hid (∀ y,Ext W y→y.cell? ⟨w.heap.size,0,none⟩=some (.slice none 0 0)∧y.cell? ⟨w.heap.size,1,none⟩=some (.slice none 0 0)∧y.cell? ⟨w.heap.size,2,none⟩=some (.slice none 0 0)∧y.cell? ⟨w.heap.size,3,none⟩=some (.slice none 0 0)∧y.cell? ⟨w.heap.size,4,none⟩=some (.int .i64 0)∧y.cell? ⟨w.heap.size,5,none⟩=some (.slice none 0 0)∧y.cell? ⟨w.heap.size,6,none⟩=some (.slice none 0 0)∧(∀ i,y.frozen? ⟨w.heap.size,i,none⟩=false) ∧
   y.cell? ⟨w.heap.size+1,0,none⟩=some (.int .i64 0)∧y.cell? ⟨w.heap.size+1,1,none⟩=some (.int .i64 0)∧(∀ i,y.frozen? ⟨w.heap.size+1,i,none⟩=false)∧w.heap.size<y.heap.size∧w.heap.size+1<y.heap.size):=fun y hE=>by
  have e0:=(hE.block _ (Zac hb0)).trans hb0
  have e1:=(hE.block _ (Zac hb1)).trans hb1
  exact ⟨Zab e0 0 _ rfl,Zab e0 1 _ rfl,Zab e0 2 _ rfl,Zab e0 3 _ rfl,Zab e0 4 _ rfl,Zab e0 5 _ rfl,Zab e0 6 _ rfl,fun i=>Zae e0 i,Zab e1 0 _ rfl,Zab e1 1 _ rfl,fun i=>Zae e1 i,Zac e0,Zac e1⟩
 have Hb0:=Zaa hb0
 have Hb1:=Zaa hb1
 have HE0:=Zaa hE0
 clear hb0 hb1 hE0
 go_enter Tryz.func42,Tryz.ntmps42
 go_wp2_with fail
 rw [← hW]
 have HW:=Zaa hW
 clear hW
 refine (HBo.out W).mono ?_
 rintro e w1 ⟨hE1,hout⟩
 obtain ⟨p0,p1,p2,p3,p4,p5,p6,pf,f0,f1,ff,pl,fl⟩:=HB.out w1 hE1
 have hz1:=hE1.size
 have hEw1:Ext w w1:=HE0.out.trans (hE1.mono (by omega))
 have HE1:=Zaa hE1
 have HEw1:=Zaa hEw1
 clear hE1 hEw1
 rcases hout with ⟨hno,rfl⟩ | ⟨⟨cs,hcs⟩,hno,rfl⟩ | ⟨cs,a,l1,lc,xs,h1,h2,h3,b1,bc,n1,nc,hcs,hask,rfl,hP,hA,hN⟩
 ·have Hh:Hid ((Zcs p q x).2.2=(4,0)):=by show _=_; simp [Zcs,hno]
  clear hno
  go_wp2
  refine bodyPost_ret (v := .tuple #[Zdm,.agg #[.int .i64 4,.int .i64 0]]) (by simp [results,Tryz.results42,go_sem,Zdm,p0,p1,p2,p3,p4,p5,p6,pf,f0,f1,ff,pl,fl]) rfl ?_
  exact ⟨HEw1.out.trans (Kept.below (S:=fun i=>w.heap.size≤i) (by repeat' (first | with_reducible exact Kept.refl _ _ | with_reducible apply Kept.drew | with_reducible apply Kept.drewN | with_reducible apply Kept.alloc | with_reducible refine Kept.setCell ?_ ?_ _ | (intro _; simp only; omega))) (by omega) (fun i e=>e)),Or.inl (by rw [Hh.out]; exact ⟨by simp,rfl⟩)⟩
 ·have Hh:Hid ((Zcs p q x).2.2=(5,0)):=by show _=_; simp [Zcs,hcs,hno]
  clear hno hcs
  go_wp2
  refine bodyPost_ret (v := .tuple #[Zdm,.agg #[.int .i64 5,.int .i64 0]]) (by simp [results,Tryz.results42,go_sem,Zdm,p0,p1,p2,p3,p4,p5,p6,pf,f0,f1,ff,pl,fl]) rfl ?_
  exact ⟨HEw1.out.trans (Kept.below (S:=fun i=>w.heap.size≤i) (by repeat' (first | with_reducible exact Kept.refl _ _ | with_reducible apply Kept.drew | with_reducible apply Kept.drewN | with_reducible apply Kept.alloc | with_reducible refine Kept.setCell ?_ ?_ _ | (intro _; simp only; omega))) (by omega) (fun i e=>e)),Or.inl (by rw [Hh.out]; exact ⟨by simp,rfl⟩)⟩
 ·obtain ⟨_,_,_,hNO,hNN,hal,_,han,_⟩:=Zis hask
  obtain ⟨_,_,_,hCO,hcl⟩:=Zhg hcs
  have Hhe:Hid (Zcs p q x=if 400<x.size then ([],⟨[],[],[],[],0⟩,1,0) else match Zby x with
   | (none,at')=>([],⟨[],[],[],[],0⟩,6,at')
   | (some ks,_)=>(a.2,Zar cs (topN a) ks 0)):=by show _=_; unfold Zcs; rw [hcs,hask]; rfl
  have HP:=Zaa hP
  have HA:=Zaa hA
  have HN:=Zaa hN
  have HNO:=Zaa hNO
  have HNN:=Zaa hNN
  have HNF:=Zaa (ask_few hask)
  have HCF:=Zaa (prog_few hcs)
  have HCO:Hid (∀ c ∈ cs,COk c∧CNm c):=hCO
  have Hask:=Zaa hask
  have Hcs:=Zaa hcs
  clear hP hA hN hNO hNN hCO hask hcs
  go_wp2_with fail
  refine (HNu.out _).mono ?_
  rintro e w2 ⟨hE2,hout⟩
  have hz2:=hE2.size
  have hz2:w1.heap.size+1≤w2.heap.size:=by simpa using hz2
  have hE12:Ext w1 w2:=(Below.refl _ w1 |>.alloc (Nat.le_refl _) _).trans (hE2.mono (by simp))
  have hcb:w2.heap[w1.heap.size]?=some (.cells #[.slice h1 h2 h3,.slice b1 a.1.length bc,.slice n1 a.2.length nc] 107 (0,0)):=(hE2.block _ (by simp)).trans (heap_alloc_new w1 _)
  have hEw2:Ext w w2:=HEw1.out.trans (hE12.mono (by omega))
  obtain ⟨p0,p1,p2,p3,p4,p5,p6,pf,f0,f1,ff,pl,fl⟩:=HB.out w2 (HE1.out.trans (hE12.mono (by omega)))
  have q0:=Zab hcb 0 _ rfl
  have q1:=Zab hcb 1 _ rfl
  have q2:=Zab hcb 2 _ rfl
  have ql:=Zac hcb
  have HE12:=Zaa hE12
  have HEw2:=Zaa hEw2
  clear hE2 hE12 hEw2 hcb
  rcases hout with ⟨hbig,rfl⟩ | ⟨hsm,⟨ks,ka,kc,hnum,rfl,hks,hkl,hk9⟩ | ⟨pp,hnum,rfl⟩⟩
  ·have Hh:Hid ((Zcs p q x).2.2=(1,0)):=by show _=_; rw [Hhe.out,if_pos hbig]
   clear hbig
   go_wp2_with fail
   go_region
   all_goals
    go_wp2
    refine bodyPost_ret (v := .tuple #[Zdm,.agg #[.int .i64 1,.int .i64 0]]) (by simp [results,Tryz.results42,go_sem,Zdm,p0,p1,p2,p3,p4,p5,p6,pf,f0,f1,ff,pl,fl]) rfl ?_
    exact ⟨HEw2.out.trans (Kept.below (S:=fun i=>w.heap.size≤i) (by repeat' (first | with_reducible exact Kept.refl _ _ | with_reducible apply Kept.drew | with_reducible apply Kept.drewN | with_reducible apply Kept.alloc | with_reducible refine Kept.setCell ?_ ?_ _ | (intro _; simp only; omega))) (by omega) (fun i e=>e)),Or.inl (by rw [Hh.out]; exact ⟨by simp,rfl⟩)⟩
  ·have Hh0:Hid (Zcs p q x=(a.2,Zar cs (topN a) ks 0)):=by show _=_; rw [Hhe.out,if_neg (by omega),hnum]
   have hP2:=HP.out.ext HE12.out
   have hA2:=HA.out.ext HE12.out
   have hN2:=Zan HN.out (fun j hj=>HE12.out.block j (HN.out.lt j hj).2)
   have HFo:Hid (∀ o,Calls Tryz.prog 68 #[.slice l1 cs.length lc,.agg #[.slice h1 h2 h3,.slice b1 a.1.length bc,.slice n1 a.2.length nc],.slice ka ks.length kc] (w2.alloc o) (Ziv cs a ks (w2.alloc o))):=fun o=>by
    have hE:Ext w2 (w2.alloc o):=(Ext.of (by repeat' (first | with_reducible exact Kept.refl _ _ | with_reducible apply Kept.drew | with_reducible apply Kept.drewN | with_reducible apply Kept.alloc | with_reducible refine Kept.setCell ?_ ?_ _ | exact fun h=>absurd h (by simp <;> omega))))
    exact Zur _ _ _ _ _ _ cs xs a ks (hP2.ext hE) ⟨_,_,_,rfl⟩ (hA2.ext hE) (Zan hN2 (fun j hj=>hE.block j (hN2.lt j hj).2)) (Zan hks (fun j hj=>hE.block j (hks.lt j hj).2)) HCO.out HCF.out hcl HNO.out HNN.out HNF.out hal han hkl hk9
   have HDp:Hid ((Zar cs (topN a) ks 0).2=(0,0)→∀ y,Ext w2 y→Calls Tryz.prog 69 #[.slice l1 cs.length lc,.agg #[.slice h1 h2 h3,.slice b1 a.1.length bc,.slice n1 a.2.length nc],.slice ka ks.length kc] y (DepOut ((Zar cs (topN a) ks 0).1.done.map (·.2)) y)):=fun hf y hE =>
    Zss y _ _ _ _ _ cs xs a ks (hP2.ext hE) ⟨_,_,_,rfl⟩ (hA2.ext hE) (Zan hN2 (fun j hj=>hE.block j (hN2.lt j hj).2)) (Zan hks (fun j hj=>hE.block j (hks.lt j hj).2)) (fun c hc=>(HCO.out c hc).1) hcl hal hkl hk9 hf
   have HN2:=Zaa hN2
   have Hks:=Zaa hks
   clear hP2 hA2 hN2 hks hk9 hnum
   go_wp2_with fail
   refine (HFo.out _).mono ?_
   rintro e w3 ⟨hE3,hout⟩
   have hz3:=hE3.size
   have hz3:w2.heap.size+1≤w3.heap.size:=by simpa using hz3
   have hE23:Ext w2 w3:=(Below.refl _ w2 |>.alloc (Nat.le_refl _) _).trans (hE3.mono (by simp))
   have hfb:w3.heap[w2.heap.size]?=some (.cells #[.int .i64 0,.int .i64 0] 91 (0,0)):=(hE3.block _ (by simp)).trans (heap_alloc_new w2 _)
   have hEw3:Ext w w3:=HEw2.out.trans (hE23.mono (by omega))
   obtain ⟨p0,p1,p2,p3,p4,p5,p6,pf,f0,f1,ff,pl,fl⟩:=HB.out w3 (HE1.out.trans ((HE12.out.mono (by omega)).trans (hE23.mono (by omega))))
   have t0:=Zab hfb 0 _ rfl
   have t1:=Zab hfb 1 _ rfl
   have tf:=fun i=>Zae hfb i
   have tl:=Zac hfb
   have q0:w3.cell? ⟨w1.heap.size,0,none⟩=some (.slice h1 h2 h3):=(hE23.cell (p:=⟨w1.heap.size,0,none⟩) ql).trans q0
   have q1:w3.cell? ⟨w1.heap.size,1,none⟩=some (.slice b1 a.1.length bc):=(hE23.cell (p:=⟨w1.heap.size,1,none⟩) ql).trans q1
   have q2:w3.cell? ⟨w1.heap.size,2,none⟩=some (.slice n1 a.2.length nc):=(hE23.cell (p:=⟨w1.heap.size,2,none⟩) ql).trans q2
   have ql3:w1.heap.size<w3.heap.size:=by omega
   have HE23:=Zaa hE23
   have HEw3:=Zaa hEw3
   have Hfb:=Zaa hfb
   clear hE3 hE23 hEw3 hfb HFo
   rcases hout with ⟨hne,rfl⟩ | ⟨hz,g1,g2,g3,v1,v2,v3,r1,r2,r3,uu,n,rfl,hNd,hok,hnm,hfw,hsame⟩
   ·obtain ⟨er,her⟩:∃ r,r=(Zar cs (topN a) ks 0).2.1:=⟨_,rfl⟩
    obtain ⟨pe,hpe⟩:∃ r,r=(Zar cs (topN a) ks 0).2.2:=⟨_,rfl⟩
    rw [← her,← hpe]
    rw [← her] at hne
    have Hh:Hid ((Zcs p q x).2.2.1=er∧(Zcs p q x).2.2.2=pe):=by show _∧_; rw [Hh0.out]; exact ⟨her.symm,hpe.symm⟩
    have hb:((er:Int) != 0)=true:=by rw [bne_iff_ne]; omega
    have Hne:=Zaa hne
    clear her hpe hne
    go_wp2_with fail
    go_region
    all_goals
     go_wp2
     refine bodyPost_ret (v := .tuple #[Zdm,.agg #[.int .i64 er,.int .i64 pe]]) (by simp [results,Tryz.results42,go_sem,Zdm,p0,p1,p2,p3,p4,p5,p6,pf,f0,f1,ff,pl,fl]) rfl ?_
     exact ⟨HEw3.out.trans (Kept.below (S:=fun i=>w.heap.size≤i) (by repeat' (first | with_reducible exact Kept.refl _ _ | with_reducible apply Kept.drew | with_reducible apply Kept.drewN | with_reducible apply Kept.alloc | with_reducible refine Kept.setCell ?_ ?_ _ | (intro _; simp only; omega))) (by omega) (fun i e=>e)),Or.inl (by rw [Hh.out.1,Hh.out.2]; exact ⟨Hne.out,rfl⟩)⟩
   ·have HNd:=Zaa hNd
    have Hok:=Zaa hok
    have Hnm:=Zaa hnm
    have Hfw:=Zaa hfw
    have Hsame:=Zaa hsame
    have Hz:=Zaa hz
    have HDp2:=Zaa (HDp.out hz)
    clear hNd hok hnm hfw hsame hz HDp
    go_wp2_with fail
    refine (HDp2.out _ (HE23.out.trans (Kept.below (S:=fun i=>w2.heap.size≤i) (by repeat' (first | with_reducible exact Kept.refl _ _ | with_reducible apply Kept.drew | with_reducible apply Kept.drewN | with_reducible apply Kept.alloc | with_reducible refine Kept.setCell ?_ ?_ _ | (intro _; simp only; omega))) (by omega) (fun i e=>e)))).mono ?_
    rintro e w4 ⟨hE4,da,dc,rfl,hds⟩
    obtain ⟨M,hM⟩:∃ M,M=(Zar cs (topN a) ks 0).1:=⟨_,rfl⟩
    rw [← hM] at hds ⊢
    have hfo:Zar cs (topN a) ks 0=(M,0,0):=by rw [hM,← Hz.out]
    have hsm2:Same n M:=by rw [hM]; exact Hsame.out
    have hz4:=hE4.size
    simp at hz4
    have hE24:Ext w2 w4:=(HE23.out.trans (Kept.below (S:=fun i=>w2.heap.size≤i) (by repeat' (first | with_reducible exact Kept.refl _ _ | with_reducible apply Kept.drew | with_reducible apply Kept.drewN | with_reducible apply Kept.alloc | with_reducible refine Kept.setCell ?_ ?_ _ | (intro _; simp only; omega))) (by omega) (fun i e=>e))).trans (hE4.mono (by simp; omega))
    have hK3:Kept (fun j=>j=w2.heap.size) w3 ((w3.setCell ⟨w2.heap.size,0,none⟩ (.int .i64 0)).setCell ⟨w2.heap.size,1,none⟩ (.int .i64 0)):=((Kept.refl (only w2.heap.size) w3).put 0 _).put 1 _
    have hT4:∀ {v:Value} {ls:List (List Sym)},TermsIn w3 v ls→TermsIn w4 v ls:=fun {v ls} h=>((h.box Hfb.out (by decide) (by decide) hK3).ext ((Ext.of (by repeat' (first | with_reducible exact Kept.refl _ _ | with_reducible apply Kept.drew | with_reducible apply Kept.drewN | with_reducible apply Kept.alloc | with_reducible refine Kept.setCell ?_ ?_ _ | exact fun h=>absurd h (by simp <;> omega)))):Ext _ (((w3.setCell ⟨w2.heap.size,0,none⟩ (.int .i64 0)).setCell ⟨w2.heap.size,1,none⟩ (.int .i64 0)).alloc (.cells #[.slice g1 g2 g3,.slice v1 v2 v3,.slice r1 r2 r3,.int .i64 uu] 87)))).ext hE4
    have hnb:w4.heap[w3.heap.size]?=some (.cells #[.slice g1 g2 g3,.slice v1 v2 v3,.slice r1 r2 r3,.int .i64 uu] 87 (0,0)):=(hE4.block _ (by simp)).trans (Zet (by simp) _)
    have hEw4:Ext w w4:=HEw2.out.trans (hE24.mono (by omega))
    have hEW4:Ext W w4:=HE1.out.trans ((HE12.out.mono (by omega)).trans (hE24.mono (by omega)))
    obtain ⟨p0,p1,p2,p3,p4,p5,p6,pf,f0,f1,ff,pl,fl⟩:=HB.out w4 hEW4
    have hpb:=(hEW4.block _ (Zac Hb0.out)).trans Hb0.out
    have hfb2:=(hEW4.block _ (Zac Hb1.out)).trans Hb1.out
    have u0:=Zab hnb 0 _ rfl
    have u1:=Zab hnb 1 _ rfl
    have u2:=Zab hnb 2 _ rfl
    have u3:=Zab hnb 3 _ rfl
    have ul:=Zac hnb
    have q2:w4.cell? ⟨w1.heap.size,2,none⟩=some (.slice n1 a.2.length nc):=(hE24.cell (p:=⟨w1.heap.size,2,none⟩) ql).trans ((HE23.out.cell (p:=⟨w1.heap.size,2,none⟩) ql).symm.trans q2)
    have ql4:w1.heap.size<w4.heap.size:=by omega
    have hN4:=Zan HN2.out (fun j hj=>hE24.block j (HN2.out.lt j hj).2)
    have hk4:=Zan Hks.out (fun j hj=>hE24.block j (Hks.out.lt j hj).2)
    obtain ⟨D,hDe⟩:∃ D,D=M.done.map (·.2):=⟨_,rfl⟩
    rw [← hDe] at hds ⊢
    have hKp:∀ x0 x1 x2 x3 x4 x5 x6,Kept (fun j=>j=w.heap.size) w4 (((((((w4.setCell ⟨w.heap.size,0,none⟩ x0).setCell ⟨w.heap.size,1,none⟩ x1).setCell ⟨w.heap.size,2,none⟩ x2).setCell ⟨w.heap.size,3,none⟩ x3).setCell ⟨w.heap.size,4,none⟩ x4).setCell ⟨w.heap.size,5,none⟩ x5).setCell ⟨w.heap.size,6,none⟩ x6):=fun x0 x1 x2 x3 x4 x5 x6=>(((((((Kept.refl (only w.heap.size) w4).put 0 _).put 1 _).put 2 _).put 3 _).put 4 _).put 5 _).put 6 _
    have hKf:∀ (y:World) z0 z1,Kept (fun j=>j=w.heap.size+1) y ((y.setCell ⟨w.heap.size+1,0,none⟩ z0).setCell ⟨w.heap.size+1,1,none⟩ z1):=fun y z0 z1=>((Kept.refl (only (w.heap.size+1)) y).put 0 _).put 1 _
    have hout:∀ x0 x1 x2 x3 x4 x5 x6 z0 z1,Zwc p q x w (.returned (.tuple #[.agg #[.slice n1 a.2.length nc,.slice g1 g2 g3,.slice v1 v2 v3,.slice r1 r2 r3,.int .i64 uu,.slice ka ks.length kc,.slice da D.length dc],.agg #[.int .i64 0,.int .i64 0]])) (((((((((w4.setCell ⟨w.heap.size,0,none⟩ x0).setCell ⟨w.heap.size,1,none⟩ x1).setCell ⟨w.heap.size,2,none⟩ x2).setCell ⟨w.heap.size,3,none⟩ x3).setCell ⟨w.heap.size,4,none⟩ x4).setCell ⟨w.heap.size,5,none⟩ x5).setCell ⟨w.heap.size,6,none⟩ x6).setCell ⟨w.heap.size+1,0,none⟩ z0).setCell ⟨w.heap.size+1,1,none⟩ z1):=fun x0 x1 x2 x3 x4 x5 x6 z0 z1=>by
     have hf5:=((hKp x0 x1 x2 x3 x4 x5 x6).block _ fl (by simp)).trans hfb2
     have hT:∀ {v:Value} {ls:List (List Sym)},TermsIn w3 v ls→TermsIn (((((((((w4.setCell ⟨w.heap.size,0,none⟩ x0).setCell ⟨w.heap.size,1,none⟩ x1).setCell ⟨w.heap.size,2,none⟩ x2).setCell ⟨w.heap.size,3,none⟩ x3).setCell ⟨w.heap.size,4,none⟩ x4).setCell ⟨w.heap.size,5,none⟩ x5).setCell ⟨w.heap.size,6,none⟩ x6).setCell ⟨w.heap.size+1,0,none⟩ z0).setCell ⟨w.heap.size+1,1,none⟩ z1) v ls:=fun {v ls} h =>
      ((hT4 h).box hpb (by decide) (by decide) (hKp x0 x1 x2 x3 x4 x5 x6)).box hf5 (by decide) (by decide) (hKf _ z0 z1)
     refine ⟨hEw4.trans (Kept.below (S:=fun i=>w.heap.size≤i) (by repeat' (first | with_reducible exact Kept.refl _ _ | with_reducible apply Kept.drew | with_reducible apply Kept.drewN | with_reducible apply Kept.alloc | with_reducible refine Kept.setCell ?_ ?_ _ | (intro _; simp only; omega))) (by omega) (fun i e=>e)),Or.inr ⟨a,ks,n,M,⟨Hask.out,by rw [Hh0.out,hfo],Hok.out,Hnm.out,Hfw.out,hsm2,cs,Hcs.out,hfo⟩,n1,nc,g1,g2,g3,v1,v2,v3,r1,r2,r3,uu,ka,kc,da,dc,by rw [← hDe],⟨hT HNd.out.goals,hT HNd.out.vals,hT HNd.out.done⟩,?_,?_,?_⟩⟩
     ·exact Zce (Zce hN4 hpb (by decide) (hKp x0 x1 x2 x3 x4 x5 x6)) hf5 (by decide) (hKf _ z0 z1)
     ·exact Zce (Zce hk4 hpb (by decide) (hKp x0 x1 x2 x3 x4 x5 x6)) hf5 (by decide) (hKf _ z0 z1)
     ·rw [← hDe]; exact Zce (Zce hds hpb (by decide) (hKp x0 x1 x2 x3 x4 x5 x6)) hf5 (by decide) (hKf _ z0 z1)
    have Hout:=Zaa hout
    clear hout hKp hKf hT4 hN4 hk4 hds hE24 hK3 hnb hEw4 hEW4 hpb hfb2 hfo hsm2 hE4 hM hDe HDp2
    go_wp2
    refine bodyPost_ret (v := .tuple #[.agg #[.slice n1 a.2.length nc,.slice g1 g2 g3,.slice v1 v2 v3,.slice r1 r2 r3,.int .i64 uu,.slice ka ks.length kc,.slice da D.length dc],.agg #[.int .i64 0,.int .i64 0]]) (by simp [results,Tryz.results42,go_sem,p0,p1,p2,p3,p4,p5,p6,pf,f0,f1,ff,pl,fl]) rfl ?_
    exact Hout.out _ _ _ _ _ _ _ _ _
  ·have Hh:Hid ((Zcs p q x).2.2=(6,pp)):=by show _=_; rw [Hhe.out,if_neg (by omega),hnum]
   clear hnum
   go_wp2_with fail
   go_region
   all_goals
    go_wp2
    refine bodyPost_ret (v := .tuple #[Zdm,.agg #[.int .i64 6,.int .i64 pp]]) (by simp [results,Tryz.results42,go_sem,Zdm,p0,p1,p2,p3,p4,p5,p6,pf,f0,f1,ff,pl,fl]) rfl ?_
    exact ⟨HEw2.out.trans (Kept.below (S:=fun i=>w.heap.size≤i) (by repeat' (first | with_reducible exact Kept.refl _ _ | with_reducible apply Kept.drew | with_reducible apply Kept.drewN | with_reducible apply Kept.alloc | with_reducible refine Kept.setCell ?_ ?_ _ | (intro _; simp only; omega))) (by omega) (fun i e=>e)),Or.inl (by rw [Hh.out]; exact ⟨by simp,rfl⟩)⟩
theorem Zyu:∀ (l:List Sym) (met:List Nat) (M:Nat),(Zax l met).2.length≤M→(∀ s ∈ l,s.name≠[]→s.num=0)→0<M→∀ s ∈ (Zax l met).1,s.num<M:=by
 intro l
 induction l with
 | nil=>intro met M _ _ _ s hs; simp [Zax] at hs
 | cons s l ih =>
  intro met M hM hz hp t ht
  have hgrow:∀ (l:List Sym) (met:List Nat),met.length≤(Zax l met).2.length:=by
   intro l
   induction l with
   | nil=>intro met; simp [Zax]
   | cons s l ih =>
    intro met
    simp only [Zax]
    split
    ·have:=ih (meet s.num met)
     have h1:met.length≤(meet s.num met).length:=by unfold meet; split <;> simp
     simp; omega
    ·exact ih met
  simp only [Zax] at hM ht
  split at ht
  ·rename_i hn
   rw [if_pos hn] at hM
   simp only at hM
   rcases List.mem_cons.1 ht with rfl | ht
   ·show met.idxOf s.num<M
    have h1:=hgrow l (meet s.num met)
    have h2:met.idxOf s.num<(meet s.num met).length:=by
     unfold meet
     split
     ·rename_i e; rw [e]; simp
     ·rename_i e
      have:=List.idxOf_le_length (a:=s.num) (l:=met)
      omega
    omega
   ·exact ih _ M hM (fun u hu=>hz u (by simp [hu])) hp t ht
  ·rename_i hn
   rw [if_neg hn] at hM
   simp only at hM
   rcases List.mem_cons.1 ht with rfl | ht
   ·rw [hz t (by simp) hn]; exact hp
   ·exact ih _ M hM (fun u hu=>hz u (by simp [hu])) hp t ht
theorem Zyv:∀ (ts:List (List Sym)) (met:List Nat) (M:Nat),(Zas ts met).2.length≤M→(∀ t ∈ ts,∀ s ∈ t,s.name≠[]→s.num=0)→0<M→∀ t ∈ (Zas ts met).1,∀ s ∈ t,s.num<M:=by
 intro ts
 induction ts with
 | nil=>intro met M _ _ _ t ht; simp [Zas] at ht
 | cons u ts ih =>
  intro met M hM hz hp t ht
  have hgrow:∀ (ts:List (List Sym)) (met:List Nat),met.length≤(Zas ts met).2.length:=by
   intro ts
   induction ts with
   | nil=>intro met; simp [Zas]
   | cons v ts ih =>
    intro met
    simp only [Zas]
    have h1:=ih (Zax v met).2
    have h2:met.length≤(Zax v met).2.length:=by
     clear h1 ih
     induction v generalizing met with
     | nil=>simp [Zax]
     | cons s l ih =>
      simp only [Zax]
      split
      ·have:=ih (meet s.num met)
       have h1:met.length≤(meet s.num met).length:=by unfold meet; split <;> simp
       simp; omega
      ·exact ih met
    omega
  simp only [Zas] at hM ht
  rcases List.mem_cons.1 ht with rfl | ht
  ·exact Zyu u met M (Nat.le_trans (hgrow ts _) hM) (fun s hs=>hz u (by simp) s hs) hp
  ·exact ih _ M hM (fun v hv=>hz v (by simp [hv])) hp t ht
theorem Zuu:∀ (l:List Sym) (met:List Nat) (P:Nat→Prop),(∀ s ∈ l,P s.args)→∀ s ∈ (Zax l met).1,P s.args:=by
 intro l
 induction l with
 | nil=>intro met P _ s hs; simp [Zax] at hs
 | cons s l ih =>
  intro met P h t ht
  simp only [Zax] at ht
  split at ht
  ·rcases List.mem_cons.1 ht with rfl | ht
   ·exact h s (by simp)
   ·exact ih _ P (fun u hu=>h u (by simp [hu])) t ht
  ·rcases List.mem_cons.1 ht with rfl | ht
   ·exact h t (by simp)
   ·exact ih _ P (fun u hu=>h u (by simp [hu])) t ht
theorem Znj:∀ (ts:List (List Sym)) (met:List Nat) (u:List Sym),u ∈ (Zas ts met).1→∃ t ∈ ts,∃ m,u=(Zax t m).1:=by
 intro ts
 induction ts with
 | nil=>intro met u h; simp [Zas] at h
 | cons t ts ih =>
  intro met u h
  simp only [Zas] at h
  rcases List.mem_cons.1 h with rfl | h
  ·exact ⟨t,by simp,met,rfl⟩
  ·obtain ⟨t',h1,m,h2⟩:=ih _ u h
   exact ⟨t',by simp [h1],m,h2⟩
def Znk (w:World) (sv:Value):Prop:=∃ a len cap,sv = .slice a len cap∧len≤maxLen∧∀ k,k<len→∃ (b off:Nat) (kd n m:Int) (p q x:ByteArray),a=some ⟨b,off,none⟩∧b<w.heap.size ∧
 w.cell? ⟨b,off+k * 6,none⟩=some (.int .i64 kd)∧w.cell? ⟨b,off+k * 6+1,none⟩=some (.int .i64 n)∧w.cell? ⟨b,off+k * 6+2,none⟩=some (.int .i64 m) ∧
 w.cell? ⟨b,off+k * 6+3,none⟩=some (.string p)∧w.cell? ⟨b,off+k * 6+4,none⟩=some (.string q)∧w.cell? ⟨b,off+k * 6+5,none⟩=some (.string x)∧p.size≤maxLen∧q.size≤maxLen∧x.size≤maxLen
set_option maxHeartbeats 400000 in
theorem Zst (w:World) (b:Nat) (h:w.heap[b]?=some (.cells #[.slice none 0 0,.slice none 0 0,.slice none 0 0] 76 (0,0))) :
  Calls Tryz.prog 39 #[.pointer (some ⟨b,0,none⟩)] w fun e w'=>e = .returned (.bool true)∧w'=w:=by
 have c1:w.cell? ⟨b,1,none⟩=some (.slice none 0 0):=Zab h 1 _ rfl
 clear h
 go_enter Tryz.func39,Tryz.ntmps39
 go_wp2
 go_loop [3] (fun i=>i = .int .i64 0) (fun i=>0)
 case atStart=>rfl
 case round =>
  subst hrel
  go_wp2
  go_ret
  exact ⟨rfl,rfl⟩
end Go.Proofs.YtlmjilpjmgjjcaaGreatDoor
