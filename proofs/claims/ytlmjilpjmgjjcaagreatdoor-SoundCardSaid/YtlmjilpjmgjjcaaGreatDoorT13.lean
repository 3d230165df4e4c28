/-
  PROVED HERE: the given card of 'Sound' (no conditions).
-/
import Derived.Test.YtlmjilpjmgjjcaaGreatDoorT12
import Derived.Test.YtlmjilpjmgjjcaaGreatDoorRows
import Derived.Test.YtlmjilpjmgjjcaaGreatDoorCards
import Derived.Test.YtlmjilpjmgjjcaaGreatDoorTie
import Derived.ProofKit
import Derived.LaidMore
import Derived.OpenShut
import Derived.Stop.Joined
import Derived.SevenTiedAt
import Derived.Deep.Slices
import Derived.Carry
import Derived.ChangeMaps5
set_option linter.unusedSimpArgs false
set_option linter.unusedVariables false
set_option maxRecDepth 10000
set_option maxHeartbeats 4000000
namespace Go.Proofs.YtlmjilpjmgjjcaaGreatDoor
open Go.RowKit
theorem RowH.bump {B:Nat} {w:World} {wb cap:Nat} {ds:List (ND × Nat)} {n:ND} {k:Nat} {xs:List Value} (h:RowH B w (.slice (some ⟨wb,0,none⟩) (ds.length+1) cap) (ds++[(n,k)]) xs) (k':Nat) :
  RowH B (w.setCell ⟨wb,ds.length * 5+4,none⟩ (.int .i64 k')) (.slice (some ⟨wb,0,none⟩) (ds.length+1) cap) (ds++[(n,k')]) (xs.set (ds.length * 5+4) (.int .i64 k'))∧FrT w (w.setCell ⟨wb,ds.length * 5+4,none⟩ (.int .i64 k')):=by
 have ho:=h.owns
 have hxl:=ho.1
 rw [Qg,Qn] at ho hxl
 have hk:=Zih w wb (ds.length+1) cap (ds.length * 5+4) (.int .i64 k')
 have hF:FrT w (w.setCell ⟨wb,ds.length * 5+4,none⟩ (.int .i64 k')):=FrT.of_kept hk (fun j hj=>by
  rcases ho.2 with ⟨e,_⟩ | ⟨g,cap',cur,e,_,hg,_⟩
  ·simp at e
  ·simp at e
   obtain ⟨rfl,_⟩:=e
   simp [Zbn,Value.ownBlock] at hj
   subst hj
   exact ⟨_,_,_,hg,by simp [HoTy]⟩)
 refine ⟨⟨by rw [Qg,Qn]; exact Zjy ho _ _,fun i d hd => ?_⟩,hF⟩
 rcases Nat.lt_or_ge i ds.length with hi | hi
 ·rw [Qc hi] at hd
  obtain ⟨p0,p1,p2,p3,y0,y1,y2,y3,y4,g⟩:=h.all i d (by rw [Qc hi]; exact hd)
  exact ⟨p0,p1,p2,p3,by rw [List.getElem?_set_ne (by omega)]; exact y0,by rw [List.getElem?_set_ne (by omega)]; exact y1,by rw [List.getElem?_set_ne (by omega)]; exact y2,by rw [List.getElem?_set_ne (by omega)]; exact y3,by rw [List.getElem?_set_ne (by omega)]; exact y4,g.fr hF⟩
 ·have e:i=ds.length:=by
   have:=(Qa.1 hd).1
   simp at this; omega
  subst e
  rw [Qd (Qe _)] at hd
  simp at hd
  subst hd
  obtain ⟨p0,p1,p2,p3,y0,y1,y2,y3,y4,g⟩:=h.all ds.length (n,k) (by rw [Qd (Qe _)]; simp)
  exact ⟨p0,p1,p2,p3,by rw [List.getElem?_set_ne (by omega)]; exact y0,by rw [List.getElem?_set_ne (by omega)]; exact y1,by rw [List.getElem?_set_ne (by omega)]; exact y2,by rw [List.getElem?_set_ne (by omega)]; exact y3,by rw [List.getElem?_set_self (by omega)],g.fr hF⟩
theorem CHo.bump {w0 w:World} {b wb:Nat} {cv nv:Value} {s:ByteArray} {p:Nat} {n:ND} {k:Nat} {r:List (ND × Nat)} {A:List (List UInt8)} {wc:Nat} {aa:Option Addr} {ac:Nat} (h:CHo w0 w b cv nv s p ((n,k)::r) A (some ⟨wb,0,none⟩) wc aa ac) (k':Nat) :
  CHo w0 (w.setCell ⟨wb,r.length * 5+4,none⟩ (.int .i64 k')) b cv nv s p ((n,k')::r) A (some ⟨wb,0,none⟩) wc aa ac∧FrT w (w.setCell ⟨wb,r.length * 5+4,none⟩ (.int .i64 k')):=by
 obtain ⟨ys,hrow⟩:=h.row
 rw [Qf,List.reverse_cons] at hrow
 have hne:wb≠b:=Zfr hrow.owns h.box (by decide) wb rfl
 have hlow:w0.heap.size≤wb:=(hrow.owns.lt wb rfl).1
 obtain ⟨hR,hF⟩:=RowH.bump (ds:=r.reverse) (n:=n) (k:=k) (xs:=ys) (by rw [List.length_reverse]; exact hrow) k'
 rw [List.length_reverse] at hR hF
 have hk:Kept (only wb) w (w.setCell ⟨wb,r.length * 5+4,none⟩ (.int .i64 k')):=(Qx _ _).put _ _
 refine ⟨⟨Zeb h.ext hk hlow,h.low,(hk.block b (Zab h.box) (fun e=>hne (by have e:b=wb:=e; exact e.symm))).trans h.box,⟨_,by rw [Qf,List.reverse_cons]; exact hR⟩,Zai h.ans (fun j hj=>hk.block j (h.ans.lt j hj).2 (fun e => ?_))⟩,hF⟩
 have e:j=wb:=e
 subst e
 rcases hrow.owns.2 with ⟨e',_⟩ | ⟨g,cap,cur,e',_,hg,_⟩
 ·simp at e'
 ·simp at e'
  obtain ⟨rfl,_⟩:=e'
  exact Zfr h.ans hg (by decide) _ hj rfl
theorem CHo.other {w0 w w':World} {b q:Nat} {cv nv:Value} {s:ByteArray} {p:Nat} {way:List (ND × Nat)} {A:List (List UInt8)} {wa:Option Addr} {wc:Nat} {aa:Option Addr} {ac:Nat} {cl:Array Value} (h:CHo w0 w b cv nv s p way A wa wc aa ac) (hk:Kept (only q) w w') (hq:w.heap[q]?=some (.cells cl 87 (0,0))) (hl:w0.heap.size≤q):CHo w0 w' b cv nv s p way A wa wc aa ac:=by
 obtain ⟨ys,hrow⟩:=h.row
 have hS:OffCode (only q) w:=fun k e=>by
  have e:k=q:=e
  subst e
  exact ⟨_,_,_,hq,by simp [Zcm]⟩
 refine ⟨Zeb h.ext hk hl,h.low,(hk.block b (Zab h.box) (fun e => ?_)).trans h.box,⟨ys,Zai hrow.owns (fun k hj=>hk.block k (hrow.owns.lt k hj).2 (Zfr hrow.owns hq (by decide) k hj)),fun i d hd => ?_⟩,Zai h.ans (fun k hj=>hk.block k (h.ans.lt k hj).2 (Zfr h.ans hq (by decide) k hj))⟩
 ·have e:b=q:=e
  subst e
  rw [h.box] at hq
  simp at hq
 ·obtain ⟨x0,x1,x2,x3,y0,y1,y2,y3,y4,g⟩:=hrow.all i d hd
  exact ⟨x0,x1,x2,x3,y0,y1,y2,y3,y4,g.keep hk hS⟩
theorem FrT.put {w w1 w2:World} {q:Nat} (h:FrT w w1) (hk:Kept (only q) w1 w2) (hq:w.heap.size≤q):FrT w w2:=fun k cl t fr e ht=>by
 have h1:=h k cl t fr e ht
 exact (hk.block k (Zab h1) (fun e'=>by have e':k=q:=e'; have:=Zab e; omega)).trans h1
theorem box4 {w:World} {b:Nat} {u0 u1 u2 u3:Value} {t:TypeId} (h:w.heap[b]?=some (.cells #[u0,u1,u2,u3] t (0,0))) :
  w.cell? ⟨b,0,none⟩=some u0∧w.cell? ⟨b,1,none⟩=some u1∧w.cell? ⟨b,2,none⟩=some u2∧w.cell? ⟨b,3,none⟩=some u3∧∀ i,w.frozen? ⟨b,i,none⟩=false :=
 ⟨Zaa h 0 _ rfl,Zaa h 1 _ rfl,Zaa h 2 _ rfl,Zaa h 3 _ rfl,fun i=>Zad h i⟩
def Zxb (w0 w:World) (b:Nat) (cv nv:Value) (s:ByteArray) (p:Nat) (n:ND) (r:List (ND × Nat)) (A:List (List UInt8)) (L:Nat) (N:Option (Nat × Cls)) (e:Ending) (w':World):Prop:=FrT w w' ∧
 ((N=none∧e = .returned (.tuple #[.int .i64 0,.agg #[.slice none 0 0,.slice none 0 0,.slice none 0 0,.int .i64 0],.int .i64 0])∧HoIn w0 w' b cv nv s p ((n,L)::r) A) ∨
 (∃ j c,N=some (j,c)∧∃ g1 g2 g3 v1 v2 v3 q1 q2 q3,∃ uu o:Nat,e = .returned (.tuple #[.int .i64 j,.agg #[.slice g1 g2 g3,.slice v1 v2 v3,.slice q1 q2 q3,.int .i64 uu],.int .i64 o])∧HoIn w0 w' b cv nv s p ((n,j+1)::r) A∧((o=2∧(tryN n c j).2=3)∨(o=1∧((tryN n c j).2=1∨(tryN n c j).2=2)∧CNode w' (.slice g1 g2 g3) (.slice v1 v2 v3) (.slice q1 q2 q3) (.int .i64 uu) (tryN n c j).1))))
theorem Yhg (w0 w:World) (b:Nat) (ca:Option Addr) (cc:Nat) (nv:Value) (s:ByteArray) (p:Nat) (n:ND) (k:Nat) (r:List (ND × Nat)) (A:List (List UInt8)) (cs:List Cls) (xs:List (List Value)) (h:HoIn w0 w b (.slice ca cs.length cc) nv s p ((n,k)::r) A) (hP:ProgIn w0 (.slice ca cs.length cc) cs xs) (hg:n.goals≠[]) (hk:k≤cs.length) (hrl:r.length≤20000) (hcs:∀ c ∈ cs,COk c∧CNm c) (hcf:∀ c ∈ cs,CFew c) (hcl:cs.length≤24) :
  Calls Tryz.prog 138 #[.pointer (some ⟨b,0,none⟩)] w (Zxb w0 w b (.slice ca cs.length cc) nv s p n r A cs.length (Zgd cs n (cs.length - k) k)):=by
 obtain ⟨N,hN⟩:∃ N,N=Zgd cs n (cs.length - k) k:=⟨_,rfl⟩
 rw [← hN]
 have hb4:∃ wa wc,w.cell? ⟨b,4,none⟩=some (.slice wa (r.length+1) wc)∧b<w.heap.size:=by
  obtain ⟨wa,wc,aa,ac,h⟩:=h
  exact ⟨wa,wc,Zaa h.box 4 _ rfl,Zab h.box⟩
 obtain ⟨wa,wc,b4,hbl⟩:=hb4
 have H:=Zac h
 have HP:=Zac hP
 have Hg:=Zac hg
 have Hcs:=Zac hcs
 have Hcf:=Zac hcf
 have HN:=Zac hN
 clear h hP hg hcs hcf hN
 go_enter Tryz.func138,Tryz.ntmps138
 go_wp2
 go_loopg [6] (cs.length+1) (fun gk tv wr=>∃ k':Nat,k'≤cs.length∧cs.length - k'<gk∧Zgd cs n (cs.length - k') k'=N∧HoIn w0 wr b (.slice ca cs.length cc) nv s p ((n,k')::r) A∧FrT w wr∧wr.heap[w.heap.size]?=some (.cells #[.slice none 0 0,.slice none 0 0,.slice none 0 0,.int .i64 0] 87 (0,0)))
 case atStart=>exact ⟨k,hk,by omega,HN.out.symm,H.out.grow (Ext.of (by repeat' (first | with_reducible(first|exact Qx _ _|apply Kept.drew|apply Kept.drewN|apply Qz|refine Qy ?_ ?_ _)|exact fun h=>absurd h (by simp <;> omega)))),FrT.of_ext (Ext.of (by repeat' (first | with_reducible(first|exact Qx _ _|apply Kept.drew|apply Kept.drewN|apply Qz|refine Qy ?_ ?_ _)|exact fun h=>absurd h (by simp <;> omega)))),heap_alloc_new w _⟩
 case round =>
  clear b4 hk
  obtain ⟨k,hk,hgk,hnx,⟨wa,wc,aa,ac,h⟩,hF,hres⟩:=hrel
  have hbx:=h.box
  simp only [Qf] at hbx
  obtain ⟨b0,b1,b2,b3,b4,b5,bf⟩:=box6 hbx
  obtain ⟨ys,hrow⟩:=h.row
  simp only [Qf,List.reverse_cons] at hrow
  have ho:=hrow.owns
  rw [Qg,List.length_reverse,Qn] at ho
  obtain ⟨wb,wcap,wcur,hwe,_,hwb,hwcap⟩:=Zao ho (by omega)
  simp only [Value.slice.injEq] at hwe
  obtain ⟨rfl,_,rfl⟩:=hwe
  obtain ⟨x0,x1,x2,x3,y0,y1,y2,y3,y4,hnode⟩:=hrow.all r.length (n,k) (by rw [Qd (by simp)]; simp)
  have c4:=Zag ho _ _ y4
  simp only at c4
  have hwf:=fun i=>Zad hwb i
  have hbl':=Zab hbx
  have hwbl:=Zab hwb
  have hrl':(0:Int)≤(r.length:Int):=by omega
  have hrlt:r.length<r.length+1:=by omega
  have hrlt':(r.length:Int)<(r.length:Int)+1:=by omega
  have Hres:=Zac hres
  have HF:=Zac hF
  have Hh:=Zac h
  have hz:=Zab hres
  have hlow:w0.heap.size≤w.heap.size:=by
   obtain ⟨_,_,_,_,h⟩:=H.out
   exact h.ext.size
  by_cases hlt:k<cs.length
  ·have hlt':(k:Int)<(cs.length:Int):=by omega
   clear hbx hrow ho hwb y0 y1 y2 y3 y4 hnode h hF hres
   go_wp2_with fail
   go_quiet (fail)
   go_wp2_with fail
   obtain ⟨W4,hW4⟩:∃ W4,W4=(wr.drewN nq).setCell ⟨wb,r.length * 5+4,none⟩ (.int .i64 ((k:Int)+1)):=⟨_,rfl⟩
   rw [← hW4]
   have hE0:Ext wr (wr.drewN nq):=Ext.of ((Qx _ wr).drewN _)
   obtain ⟨hC4,hF4⟩:=(Hh.out.grow hE0).bump (k+1)
   rw [show ((k+1:Nat):Int)=(k:Int)+1 by omega,← hW4] at hC4 hF4
   have hFw:FrT wr W4:=(FrT.of_ext hE0).trans hF4
   have hbx4:=hC4.box
   simp only [Qf] at hbx4
   clear b0 b1 b2 b3 b4 b5 bf c4 hwf
   obtain ⟨b0,b1,b2,b3,b4,b5,bf⟩:=box6 hbx4
   obtain ⟨ys4,hrow4⟩:=hC4.row
   simp only [Qf,List.reverse_cons] at hrow4
   have ho4:=hrow4.owns
   rw [Qg,List.length_reverse,Qn] at ho4
   obtain ⟨x0,x1,x2,x3,y0,y1,y2,y3,y4,hnode⟩:=hrow4.all r.length (n,k+1) (by rw [Qd (by simp)]; simp)
   obtain ⟨n1,hN1,rfl,hOk,hNm,hFe,hSm⟩:=hnode
   obtain ⟨ga,gcap,rfl⟩:=hN1.goals.shape
   obtain ⟨va',vcap',rfl⟩:=hN1.vals.shape
   obtain ⟨ra',rcap',rfl⟩:=hN1.done.shape
   simp only [Ql] at hN1 y0 y1 y2
   have c0:=Zag ho4 _ _ y0
   have c1:=Zag ho4 _ _ y1
   have c2:=Zag ho4 _ _ y2
   have c3:=Zag ho4 _ _ y3
   obtain ⟨c,hc⟩:∃ c,cs[k]?=some c:=⟨_,Qb hlt⟩
   have hP4:=HP.out.ext hC4.ext
   obtain ⟨lb,lcap,lcur,hle,_,hlb,_⟩:=Zao hP4.owns (by omega)
   simp only [Value.slice.injEq] at hle
   obtain ⟨rfl,_,rfl⟩:=hle
   obtain ⟨cv0,cv1,cv2,l0,l1,l2,hcl2⟩:=hP4.cell hc
   obtain ⟨d0,d1,rfl⟩:=Zae hcl2.head
   obtain ⟨d2,d3,rfl⟩:=hcl2.body.shape
   obtain ⟨d4,d5,rfl⟩:=Zae hcl2.names
   have hbl4:=Zab hbx4
   have hwbl4:wb<W4.heap.size:=World.block_lt_of_cell? W4 ⟨wb,r.length * 5,none⟩ c0
   have hlbl:lb<W4.heap.size:=World.block_lt_of_cell? W4 ⟨lb,k * 3,none⟩ l0
   obtain ⟨hco,hcm⟩:=Hcs.out c (Qh hc)
   have HIc:Hid (∀ Z u,Ext W4.drew u→(∀ k,Z k→W4.heap.size≤k∧k<u.heap.size)→Calls Tryz.prog 97 #[.agg #[.slice ga n1.goals.length gcap,.slice va' n1.vals.length vcap',.slice ra' n1.done.length rcap',.int .i64 n1.vars],.agg #[.slice d0 c.head.length d1,.slice d2 c.body.length d3,.slice d4 c.names.length d5]] u fun e u'=>∃ r,e = .returned r∧Ext u u'∧TryX n1 c k Z r u'):=fun Z u hu hZ=>by
    have hwu:Ext W4 u:=hu.undrew
    refine (Zrp u _ _ _ _ _ _ n1 c k hOk hco (hN1.ext hwu) (hcl2.ext hwu)).mono ?_
    intro e u' h
    exact h.toX (fun j hj=>(hZ j hj).2)
   have Hco:=Zac hco
   have HOk:=Zac hOk
   have HNm:=Zac hNm
   have HFe:=Zac hFe
   have HSm:=Zac hSm
   have Hcm:=Zac hcm
   have HCf:Hid (CFew c):=Hcf.out c (Qh hc)
   have HC4:=Zac hC4
   have HF4:=Zac (HF.out.trans hFw)
   have Hres4:=Zac (hFw _ _ _ _ Hres.out (by simp [HoTy]))
   have Hnx:Hid ((if (tryN n c k).2=0 then Zgd cs n (cs.length - (k+1)) (k+1) else some (k,c))=N):=by
    show _=_
    rw [← hnx,show cs.length - k=(cs.length - (k+1))+1 by omega,Zgd,hc]
   have hk2:k+1≤cs.length:=hlt
   clear hW4 hE0 hC4 hF4 hFw hbx4 hrow4 ho4 y0 y1 y2 y3 y4 hN1 hP4 hcl2 hlb hco hOk hNm hFe hSm hcm hnx hc
   refine Zjm (by kernel_rfl) [.pur (.pointer (some ⟨b,0,none⟩)),.pur (.pointer (some ⟨b,0,none⟩)),.pur (.pointer (some ⟨b,4,none⟩)),.pur (.slice (some ⟨wb,0,none⟩) (r.length+1) wc),.pur (.int .i64 r.length),.pur (.pointer (some ⟨wb,r.length * 5,none⟩)),.pur (.pointer (some ⟨wb,r.length * 5,none⟩)),.pur (.agg #[.slice ga n1.goals.length gcap,.slice va' n1.vals.length vcap',.slice ra' n1.done.length rcap',.int .i64 n1.vars]),
    .pur (.pointer (some ⟨b,0,none⟩)),.pur (.pointer (some ⟨b,0,none⟩)),.pur (.pointer (some ⟨b,0,none⟩)),.pur (.slice (some ⟨lb,0,none⟩) cs.length cc),.pur (.int .i64 k),.pur (.pointer (some ⟨lb,k * 3,none⟩)),.pur (.agg #[.slice d0 c.head.length d1,.slice d2 c.body.length d3,.slice d4 c.names.length d5]),
    .cal,.post (fun v=>v),.post (Zgw 0),.post (Zgw 1),.alo 87 #[.slice none 0 0,.slice none 0 0,.slice none 0 0,.int .i64 0] 20 (fun v=>cellsOf (Zgw 0 v)),.sto 19,.post (Zgw 1)] 15 (by kernel_rfl) (TryX n1 c k) 97 _ TryX.stable HIc.out ?_ rfl (by decide) ?_
   ·refine ⟨fun vc β u hu => ?_,fun vc β u hu => ?_,fun vc β u hu => ?_,fun vc β u hu => ?_,fun vc β u hu => ?_,fun vc β u hu => ?_,fun vc β u hu => ?_,fun vc β u hu => ?_,fun vc β u hu => ?_,fun vc β u hu => ?_,fun vc β u hu => ?_,fun vc β u hu => ?_,fun vc β u hu => ?_,fun vc β u hu => ?_,fun vc β u hu => ?_,fun vc β u => ?_,?_,?_,?_,fun vc β u => ?_,?_,?_,trivial⟩
    all_goals try (simp [pa,Kd.val,go_sem,hu.up b0,hu.up b4,hu.up c0,hu.up c1,hu.up c2,hu.up c3,hu.up l0,hu.up l1,hu.up l2,hlt]; done)
    all_goals try (simp [pa,Kd.val,go_sem]; done)
    all_goals try (rintro vc β Z u ⟨g1,g2,g3,v1,v2,v3,q1,q2,q3,uu,qq,rfl,_⟩; simp [pa,Kd.val,go_sem,Zgw]; done)
    all_goals try (simp [pa,Kd.val,go_sem]; intro h; omega)
    rintro vc β Z u t z sx cl he ⟨g1,g2,g3,v1,v2,v3,q1,q2,q3,uu,qq,rfl,_⟩ hb
    simp at he
    obtain ⟨rfl,rfl,rfl,rfl⟩:=he
    have z0:=Zaa hb 0 _ rfl
    have z1:=Zaa hb 1 _ rfl
    have z2:=Zaa hb 2 _ rfl
    have z3:=Zaa hb 3 _ rfl
    have zf:=fun i=>Zad hb i
    refine ⟨_,?_,Zaf (Zaf (Zaf (Zaf hb 0 _) 1 _) 2 _) 3 _,((((Qx (only (β 19)) u).put 0 _).put 1 _).put 2 _).put 3 _⟩
    simp [pa,Kd.val,go_sem,z0,z1,z2,z3,zf,Zgw]
   rintro vc β w5 hext5 ⟨g1,g2,g3,v1,v2,v3,q1,q2,q3,uu,qq,rfl,hqq⟩ hbox _
   have hext5:=hext5.undrew
   obtain ⟨hb0,hbx⟩:=hbox 19 _ _ _ _ rfl
   have hbx':w5.heap[β 19]?=some (.cells #[.slice g1 g2 g3,.slice v1 v2 v3,.slice q1 q2 q3,.int .i64 uu] 87 (0,0)):=hbx
   generalize hbe:β 19=bt at *
   have HC5:=Zac (HC4.out.grow hext5)
   have HF5:=Zac (HF4.out.trans (FrT.of_ext hext5))
   have hres5:=(hext5.block _ (Zab Hres4.out)).trans Hres4.out
   have Hres5:=Zac hres5
   clear b0 b1 b2 b3 b4 b5 bf c0 c1 c2 c3 l0 l1 l2
   simp only [paAll,pa,Kd.val,if_true,Act.put,Zgw]
   rw [hbe]
   rcases hqq with ⟨rfl,hq⟩ | ⟨rfl,ch,hq⟩ | ⟨rfl,ch,q0,hq12,hq,rfl,rfl,hg',hv',hr'⟩
   ·have hq0:(tryN n c k).2=0:=by
     rcases hq with h | h
     ·exact absurd (List.eq_nil_of_length_eq_zero (by rw [← HSm.out.gl,h]; rfl)) Hg.out
     ·exact (Zga HOk.out HSm.out Hco.out h).1.symm
    have Hn5:Hid (Zgd cs n (cs.length - (k+1)) (k+1)=N):=by show _=_; rw [← Hnx.out,if_pos hq0]
    clear hbx hbx' hbox hext5 hres5 hq hq0
    go_wp2
    go_roundg (cs.length - k)
    case measure=>omega
    case rel=>exact ⟨k+1,hk2,by omega,Hn5.out,⟨_,_,_,_,HC5.out⟩,HF5.out,Hres5.out⟩
   ·have hq3:(tryN n c k).2=3:=(Zga HOk.out HSm.out Hco.out hq).1.symm
    have Hfin:Hid (∀ w6,Kept (only w.heap.size) w5 w6→Zxb w0 w b (.slice (some ⟨lb,0,none⟩) cs.length cc) nv s p n r A cs.length N (.returned (.tuple #[.int .i64 k,.agg #[.slice g1 g2 g3,.slice v1 v2 v3,.slice q1 q2 q3,.int .i64 uu],.int .i64 2])) w6):=fun w6 hK=>by
     refine ⟨HF5.out.put hK (Qe _),Or.inr ⟨k,c,?_,g1,g2,g3,v1,v2,v3,q1,q2,q3,uu,2,rfl,⟨_,_,_,_,HC5.out.other hK Hres5.out hlow⟩,Or.inl ⟨rfl,hq3⟩⟩⟩
     rw [← Hnx.out,if_neg (by omega)]
    obtain ⟨r0,r1,r2,r3,rf⟩:=box4 hres5
    obtain ⟨z0,z1,z2,z3,zf⟩:=box4 hbx'
    have hrl5:=Zab hres5
    have hbtl:=Zab hbx'
    clear hbx hbx' hbox hext5 hres5 hq hq3
    go_wp2_with fail
    go_region
    all_goals
     go_wp2
     refine bodyPost_ret (v := .tuple #[.int .i64 k,.agg #[.slice g1 g2 g3,.slice v1 v2 v3,.slice q1 q2 q3,.int .i64 uu],.int .i64 2]) (by simp [results,Tryz.results138,go_sem,r0,r1,r2,r3,rf]) rfl ?_
     exact Hfin.out _ (by repeat (first | exact Qx _ _ | apply Qz | apply Kept.put | apply Kept.drew))
   ·obtain ⟨e1,e2⟩:=Zga HOk.out HSm.out Hco.out hq
    obtain ⟨hOk2,hSm2⟩:=e2 hq12
    have hk12:(tryN n c k).2=1∨(tryN n c k).2=2:=by rw [← e1]; exact hq12
    have hNm2:=Yek hq hq12 HNm.out Hcm.out
    have hFw2:=Zwf hq hq12 HFe.out HCf.out
    obtain ⟨vs1,hg1,_⟩:=hg'
    obtain ⟨vs2,hv1,_⟩:=hv'
    obtain ⟨vs3,hr1,_⟩:=hr'
    have hCN:CNode w5 (.slice g1 ch.goals.length g3) (.slice v1 v2 v3) (.slice q1 q2 q3) (.int .i64 ch.vars) (tryN n c k).1:=⟨ch,⟨⟨vs1,hg1⟩,⟨vs2,hv1⟩,⟨vs3,hr1⟩⟩,rfl,hOk2,hNm2,hFw2,hSm2⟩
    have hS5:OffCode (only w.heap.size) w5:=fun j e=>by
     have e:j=w.heap.size:=e
     subst e
     exact ⟨_,_,_,Hres5.out,by simp [Zcm]⟩
    obtain ⟨G,hG⟩:∃ G,G=ch.goals.length:=⟨_,rfl⟩
    obtain ⟨uu,huu⟩:∃ uu,uu=ch.vars:=⟨_,rfl⟩
    rw [← hG,← huu] at hCN
    rw [← hG] at hbx'
    rw [← huu] at hbx'
    have Hfin:Hid (∀ w6,Kept (only w.heap.size) w5 w6→Zxb w0 w b (.slice (some ⟨lb,0,none⟩) cs.length cc) nv s p n r A cs.length N (.returned (.tuple #[.int .i64 k,.agg #[.slice g1 G g3,.slice v1 v2 v3,.slice q1 q2 q3,.int .i64 uu],.int .i64 1])) w6):=fun w6 hK=>by
     refine ⟨HF5.out.put hK (Qe _),Or.inr ⟨k,c,?_,g1,G,g3,v1,v2,v3,q1,q2,q3,uu,1,rfl,⟨_,_,_,_,HC5.out.other hK Hres5.out hlow⟩,Or.inr ⟨rfl,hk12,hCN.keep hK hS5⟩⟩⟩
     rw [← Hnx.out,if_neg (by omega)]
    obtain ⟨r0,r1,r2,r3,rf⟩:=box4 hres5
    obtain ⟨z0,z1,z2,z3,zf⟩:=box4 hbx'
    have hrl5:=Zab hres5
    have hbtl:=Zab hbx'
    rw [← hG,← huu]
    clear hbx hbx' hbox hext5 hres5 hq hq12 hk12 e1 e2 hOk2 hSm2 hNm2 hFw2 hg1 hv1 hr1 hCN hS5 hG huu
    go_wp2_with fail
    go_region
    all_goals
     go_wp2
     refine bodyPost_ret (v := .tuple #[.int .i64 k,.agg #[.slice g1 G g3,.slice v1 v2 v3,.slice q1 q2 q3,.int .i64 uu],.int .i64 1]) (by simp [results,Tryz.results138,go_sem,r0,r1,r2,r3,rf]) rfl ?_
     exact Hfin.out _ (by repeat (first | exact Qx _ _ | apply Qz | apply Kept.put | apply Kept.drew))
  ·have he:k=cs.length:=by omega
   have hlt':¬ (k:Int)<(cs.length:Int):=by omega
   obtain ⟨r0,r1,r2,r3,rf⟩:=box4 hres
   have Hn:Hid (N=none):=by show _=_; rw [← hnx,he,Nat.sub_self]; rfl
   clear hbx hrow ho hwb y0 y1 y2 y3 y4 hnode h hF hres
   go_wp2_with fail
   go_quiet (fail)
   go_wp2
   refine bodyPost_ret (v := .tuple #[.int .i64 0,.agg #[.slice none 0 0,.slice none 0 0,.slice none 0 0,.int .i64 0],.int .i64 0]) (by simp [results,Tryz.results138,go_sem,r0,r1,r2,r3,rf]) rfl ?_
   have hK:Kept (only w.heap.size) wr (((((wr.drewN nq).setCell ⟨w.heap.size,0,none⟩ (.slice none 0 0)).setCell ⟨w.heap.size,1,none⟩ (.slice none 0 0)).setCell ⟨w.heap.size,2,none⟩ (.slice none 0 0)).setCell ⟨w.heap.size,3,none⟩ (.int .i64 0)):=(((((Qx _ wr).drewN _).put 0 _).put 1 _).put 2 _).put 3 _
   exact ⟨HF.out.put hK (Qe _),Or.inl ⟨Hn.out,rfl,_,_,_,_,he ▸ Hh.out.other hK Hres.out hlow⟩⟩
theorem Zyv {cs:List Cls} {n:ND}:∀ {f k j:Nat} {c:Cls},Zgd cs n f k=some (j,c)→cs[j]?=some c∧j<k+f:=by
 intro f
 induction f with
 | zero=>intro k j c h; simp [Zgd] at h
 | succ f ih =>
  intro k j c h
  rw [Zgd] at h
  cases hc:cs[k]? with
  | none=>rw [hc] at h; simp at h
  | some d =>
   rw [hc] at h
   simp only at h
   split at h
   ·obtain ⟨h1,h2⟩:=ih h
    exact ⟨h1,by omega⟩
   ·simp at h
    obtain ⟨rfl,rfl⟩:=h
    exact ⟨hc,by omega⟩
structure HoP (w0:World) (ca:Option Addr) (cc:Nat) (nv:Value) (cs:List Cls) (names:Names):Prop where
 prog:∃ xs,ProgIn w0 (.slice ca cs.length cc) cs xs
 ok:∀ c ∈ cs,COk c∧CNm c
 cf:∀ c ∈ cs,CFew c
 cl:cs.length≤24
 row:w0.ownsRow 0 9 1 nv names.length (strs names)
 few:names.length≤60
 short:∀ x ∈ names,x.length≤8
theorem HoP.enter {w0 w:World} {b:Nat} {ca:Option Addr} {cc:Nat} {nv:Value} {s:ByteArray} {p:Nat} {way:List (ND × Nat)} {A:List (List UInt8)} {cs:List Cls} {names:Names} {gv vv rv uv:Value} {n:ND} (hq:HoP w0 ca cc nv cs names) (h:HoIn w0 w b (.slice ca cs.length cc) nv s p way A) (hn:CNode w gv vv rv uv n) (hvl:n.vals.length=names.length) (hs:s.size≤20000) (hp:p≤s.size) (hA:A.length≤20000) (hwl:way.length≤20000) :
  Calls Tryz.prog 103 #[.pointer (some ⟨b,0,none⟩),.agg #[gv,vv,rv,uv]] w (Yhf w0 w b (.slice ca cs.length cc) nv s (Zco names s.data.toList n p way A)):=by
 by_cases hg:n.goals=[]
 ·exact Zwz w0 w b _ nv s p way A names gv vv rv uv n h hn hg hq.row hvl hq.few hq.short hs hp hA
 ·exact Zxa w0 w b _ nv s p way A names gv vv rv uv n h hn hg hs hp hwl
theorem Ykm (w0 w:World) (b:Nat) (ca:Option Addr) (cc:Nat) (nv:Value) (s:ByteArray) (p:Nat) (n:ND) (k:Nat) (r:List (ND × Nat)) (A:List (List UInt8)) (cs:List Cls) (names:Names) (hq:HoP w0 ca cc nv cs names) (h:HoIn w0 w b (.slice ca cs.length cc) nv s p ((n,k)::r) A) (hg:n.goals≠[]) (hvl:n.vals.length=names.length) (hk:k≤cs.length) (hs:s.size≤20000) (hp:p≤s.size) (hA:A.length≤20000) (hrl:r.length+1≤20000) :
  Calls Tryz.prog 104 #[.pointer (some ⟨b,0,none⟩)] w (Yhf w0 w b (.slice ca cs.length cc) nv s (goM cs names s.data.toList n k p r A)):=by
 obtain ⟨xs,hP⟩:=hq.prog
 have HNx:=Zac (Yhg w0 w b ca cc nv s p n k r A cs xs h hP hg hk (by omega) hq.ok hq.cf hq.cl)
 obtain ⟨M,hM⟩:∃ M,M=goM cs names s.data.toList n k p r A:=⟨_,rfl⟩
 have hin:∀ j c,Zgd cs n (cs.length - k) k=some (j,c)→j<24:=fun j c h=>by
  have:=(Zyv h).2
  have:=hq.cl
  omega
 have hm:=hM
 unfold goM at hm
 rw [← hM]
 obtain ⟨N,hN⟩:∃ N,N=Zgd cs n (cs.length - k) k:=⟨_,rfl⟩
 rw [← hN] at hm hin HNx
 have Hm:=Zac hm
 have Hq:=Zac hq
 have Hin:=Zac hin
 clear h hg hq hP hM hm hN hin
 go_enter Tryz.func104,Tryz.ntmps104
 go_wp2_with fail
 refine HNx.out.mono ?_
 rintro e w1 ⟨hF1,⟨hN0,rfl,h1⟩ | ⟨j,c,hN1,g1,g2,g3,v1,v2,v3,q1,q2,q3,uu,o,rfl,h1,ho⟩⟩
 ·obtain ⟨W,hW⟩:∃ W,W=w1.alloc (.cells #[.slice none 0 0,.slice none 0 0,.slice none 0 0,.int .i64 0] 87):=⟨_,rfl⟩
  have hE:Ext w1 W:=by rw [hW]; exact (Ext.of (by repeat' (first | with_reducible(first|exact Qx _ _|apply Kept.drew|apply Kept.drewN|apply Qz|refine Qy ?_ ?_ _)|exact fun h=>absurd h (by simp <;> omega))))
  have HL:=Zac (Yby w0 W b _ nv s p (n,cs.length) r A (h1.grow hE) hs hp (by omega))
  have Hm1:Hid (M=if s.data.toList[p]?=some 41 then ⟨true,p+1,r,A⟩ else ⟨false,p,(n,cs.length)::r,A⟩):=by show _=_; rw [Hm.out,hN0]
  have HF1:=Zac (hF1.trans (FrT.of_ext hE))
  have HW:=Zac hW
  clear h1 hF1 hE hW hN0 HNx Hm
  go_wp2_with fail
  rw [← HW.out]
  refine HL.out.mono ?_
  rintro e w2 ⟨hF2,⟨hc,rfl,h2⟩ | ⟨hc,rfl,h2⟩⟩
  ·have Hm2:Hid (M=⟨true,p+1,r,A⟩):=by show _=_; rw [Hm1.out,if_pos hc]
   have HF2:=Zac (HF1.out.trans hF2)
   have H2:=Zac h2
   clear hF2 h2 hc HL
   go_wp2
   go_ret
   rw [Hm2.out]
   exact ⟨HF2.out,rfl,H2.out⟩
  ·have Hm2:Hid (M=⟨false,p,(n,cs.length)::r,A⟩):=by show _=_; rw [Hm1.out,if_neg hc]
   have HF2:=Zac (HF1.out.trans hF2)
   have H2:=Zac h2
   clear hF2 h2 hc HL
   go_wp2
   go_ret
   rw [Hm2.out]
   exact ⟨HF2.out,rfl,H2.out⟩
 ·obtain ⟨W,hW⟩:∃ W,W=w1.alloc (.cells #[.slice g1 g2 g3,.slice v1 v2 v3,.slice q1 q2 q3,.int .i64 uu] 87):=⟨_,rfl⟩
  have hE:Ext w1 W:=by rw [hW]; exact (Ext.of (by repeat' (first | with_reducible(first|exact Qx _ _|apply Kept.drew|apply Kept.drewN|apply Qz|refine Qy ?_ ?_ _)|exact fun h=>absurd h (by simp <;> omega))))
  have hjl:=Hin.out j c hN1
  have HF1:=Zac (hF1.trans (FrT.of_ext hE))
  have H1:=Zac (h1.grow hE)
  have Hm1:=Hm.out
  rw [hN1] at Hm1
  simp only at Hm1
  rcases ho with ⟨rfl,h3⟩ | ⟨rfl,h12,hCN⟩
  ·have Hm2:Hid (M=⟨false,p,(n,j+1)::r,A⟩):=by show _=_; rw [Hm1,if_pos (Or.inl h3)]
   have HW:=Zac hW
   clear h1 hF1 hE hW hN1 HNx Hm Hm1 h3 Hin Hq
   go_wp2
   go_ret
   rw [← HW.out,Hm2.out]
   exact ⟨HF1.out,rfl,H1.out⟩
  ·obtain ⟨V,hV⟩:∃ V,V=(Zak (s.data.toList.drop p)).1:=⟨_,rfl⟩
   obtain ⟨Z,hZ⟩:∃ Z,Z=(Zak (s.data.toList.drop p)).2:=⟨_,rfl⟩
   have hnz:=Zdt (s.data.toList.drop p)
   rw [List.length_drop,show s.data.toList.length=s.size by simp,← hV,← hZ] at hnz
   obtain ⟨hz1,hz2,hz3⟩:=hnz
   have HAt:=Zac (fun u=>Yga s p u (by omega) (by omega))
   rw [← hV,← hZ] at HAt
   rw [← hV,← hZ] at Hm1
   have hbW:W.heap[w1.heap.size]?=some (.cells #[.slice g1 g2 g3,.slice v1 v2 v3,.slice q1 q2 q3,.int .i64 uu] 87 (0,0)):=by rw [hW]; exact heap_alloc_new w1 _
   have HbW:=Zac hbW
   have HCN:=Zac (hCN.ext hE)
   have HW:=Zac hW
   have hvl2:(tryN n c j).1.vals.length=names.length:=by rw [Zkk h12]; exact hvl
   have hn3:(tryN n c j).2≠3:=by omega
   obtain ⟨wa,wc,aa,ac,hC⟩:=H1.out
   obtain ⟨b0,b1,b2,b3,b4,b5,bf⟩:=box6 hC.box
   have hbl:=Zab hC.box
   have hwW:=Zab hbW
   have HC:=Zac hC
   have HmA:=Zac Hm1
   clear h1 hF1 hE hW hN1 HNx Hm Hm1 Hin hV hZ hbW hCN hC h12
   go_wp2_with fail
   rw [← HW.out]
   go_quiet ((go_at_call 96; exact Calls.quiet_of_same (HAt.out _)))
   have hEq:Ext W (W.drewN nq):=Ext.of ((Qx _ W).drewN _)
   by_cases hz0:Z=0
   ·have Hm2:Hid (M=⟨false,p,(n,j+1)::r,A⟩):=by show _=_; rw [HmA.out,if_pos (Or.inr (Or.inl hz0))]
    have H2:=Zac (H1.out.grow hEq)
    have HF2:=Zac (HF1.out.trans (FrT.of_ext hEq))
    subst hz0
    clear hEq
    go_wp2
    go_ret
    rw [Hm2.out]
    exact ⟨HF2.out,rfl,H2.out⟩
   ·have hk1:(((p:Int)+(Z:Int)) == (p:Int))=false:=by rw [Qu]; omega
    by_cases hv:V=j
    ·subst hv
     have Hm2:Hid (M=Zco names s.data.toList (tryN n c V).1 (p+Z) ((n,V+1)::r) A):=by show _=_; rw [HmA.out,if_neg (by rintro (h | h | h); exact hn3 h; exact hz0 h; exact h rfl)]
     have hk2:((V:Int) != (V:Int))=false:=by simp
     obtain ⟨w5,hw5⟩:∃ w5,w5=(W.drewN nq).setCell ⟨b,3,none⟩ (.int .i64 ((p:Int)+(Z:Int))):=⟨_,rfl⟩
     have hK5:Kept (only b) W w5:=by rw [hw5]; exact ((Qx _ _).drewN _).put 3 _
     obtain ⟨hC5,hF5⟩:=HC.out.upd (p':=p+Z) hK5 (by rw [hw5,show ((p+Z:Nat):Int)=(p:Int)+(Z:Int) by omega]; exact Zaf (w:=W.drewN nq) HC.out.box 3 _) HC.out.row
     have HEn:=Zac (Hq.out.enter (way:=(n,V+1)::r) (A:=A) (p:=p+Z) ⟨_,_,_,_,hC5⟩ (HCN.out.fr hF5) hvl2 hs (by omega) hA (by rw [Qf]; omega))
     have HF5:=Zac (HF1.out.trans hF5)
     have hb5:=hF5 _ _ _ _ HbW.out (by simp [HoTy])
     obtain ⟨z0,z1,z2,z3,zf⟩:=box4 hb5
     have hne:b≠w1.heap.size:=fun e=>by
      have h1:=HbW.out
      rw [← e,HC.out.box] at h1
      simp at h1
     have Hw5:=Zac hw5
     have hbl5:=Zab hb5
     obtain ⟨y0,y1,y2,y3,yf⟩:=box4 HbW.out
     clear hEq hK5 hC5 hF5 hb5 hw5 HAt HmA
     go_wp2_with fail
     rw [← Hw5.out]
     refine HEn.out.mono ?_
     rintro e w6 ⟨hF6,rfl,h6⟩
     have H6:=Zac h6
     have HF6:=Zac (HF5.out.trans hF6)
     rw [← Hm2.out] at H6
     have e1:(Zco names s.data.toList (tryN n c V).1 (p+Z) ((n,V+1)::r) A)=M:=Hm2.out.symm
     rw [e1]
     clear h6 hF6 HEn Hm2 e1 b0 b1 b2 b3 b4 b5 bf z0 z1 z2 z3 zf y0 y1 y2 y3 yf
     go_wp2
     go_ret
     exact ⟨HF6.out,rfl,H6.out⟩
    ·have hk2:((V:Int) != (j:Int))=true:=by rw [bne_iff_ne]; omega
     have Hm2:Hid (M=⟨false,p,(n,j+1)::r,A⟩):=by show _=_; rw [HmA.out,if_pos (Or.inr (Or.inr hv))]
     have H2:=Zac (H1.out.grow hEq)
     have HF2:=Zac (HF1.out.trans (FrT.of_ext hEq))
     clear hEq hv
     go_wp2
     go_ret
     rw [Hm2.out]
     exact ⟨HF2.out,rfl,H2.out⟩
structure WayOk (cs:List Cls) (names:Names) (l:List UInt8) (M:HM):Prop where
 way:∀ y ∈ M.way,y.1.goals≠[]∧y.2≤cs.length∧y.1.vals.length=names.length
 le:M.at'≤l.length
 cnt:M.ans.length+M.way.length≤M.at'
theorem Zuq {cs:List Cls} {names:Names} {l:List UInt8} {n:ND} {p:Nat} {way:List (ND × Nat)} {A:List (List UInt8)} (h:WayOk cs names l ⟨true,p,way,A⟩) (hn:n.vals.length=names.length):WayOk cs names l (Zco names l n p way A)∧((Zco names l n p way A).ok=true→p<(Zco names l n p way A).at'):=by
 obtain ⟨h1,h2,h3⟩:=h
 simp only at h1 h2 h3
 unfold Zco
 split
 ·split
  ·rename_i hc
   have:=(Qa.1 hc).1
   exact ⟨⟨h1,this,by simp only [Qg,Qn]; omega⟩,fun _=>Nat.lt_succ_self _⟩
  ·exact ⟨⟨h1,h2,h3⟩,fun e=>by simp at e⟩
 ·rename_i hg
  split
  ·rename_i hc
   have:=(Qa.1 hc).1
   refine ⟨⟨fun y hy => ?_,this,by simp only [Qf]; omega⟩,fun _=>Nat.lt_succ_self _⟩
   rcases Qp.1 hy with rfl | hy
   ·exact ⟨hg,Qm _,hn⟩
   ·exact h1 y hy
  ·exact ⟨⟨h1,h2,h3⟩,fun e=>by simp at e⟩
theorem Yov {cs:List Cls} {names:Names} {l:List UInt8} {n:ND} {k p:Nat} {r:List (ND × Nat)} {A:List (List UInt8)} (h:WayOk cs names l ⟨true,p,(n,k)::r,A⟩):WayOk cs names l (goM cs names l n k p r A)∧((goM cs names l n k p r A).ok=true→p<(goM cs names l n k p r A).at'):=by
 obtain ⟨h1,h2,h3⟩:=h
 simp only [Qf] at h1 h2 h3
 have hh:=h1 (n,k) (by simp)
 have hr:∀ y ∈ r,y.1.goals≠[]∧y.2≤cs.length∧y.1.vals.length=names.length:=fun y hy=>h1 y (by simp [hy])
 have hcons:∀ k',k'≤cs.length→∀ y ∈ (n,k')::r,y.1.goals≠[]∧y.2≤cs.length∧y.1.vals.length=names.length:=fun k' hk' y hy=>by
  rcases Qp.1 hy with rfl | hy
  ·exact ⟨hh.1,hk',hh.2.2⟩
  ·exact hr y hy
 unfold goM
 cases hN:Zgd cs n (cs.length - k) k with
 | none =>
  simp only
  split
  ·rename_i hc
   have:=(Qa.1 hc).1
   exact ⟨⟨hr,this,by simp only; omega⟩,fun _=>Nat.lt_succ_self _⟩
  ·exact ⟨⟨hcons _ (Qe _),h2,by simp only [Qf]; omega⟩,fun e=>by simp at e⟩
 | some jc =>
  obtain ⟨j,c⟩:=jc
  obtain ⟨hc,_⟩:=Zyv hN
  have hj:=(Qa.1 hc).1
  simp only
  split
  ·exact ⟨⟨hcons _ hj,h2,by simp only [Qf]; omega⟩,fun e=>by simp at e⟩
  ·rename_i hw
   have hs:=Zdt (l.drop p)
   rw [List.length_drop] at hs
   have h12:(tryN n c j).2=1∨(tryN n c j).2=2:=by
    have h0:(tryN n c j).2≠0:=by
     have:∀ {f k:Nat},Zgd cs n f k=some (j,c)→(tryN n c j).2≠0:=by
      intro f
      induction f with
      | zero=>intro k h; simp [Zgd] at h
      | succ f ih =>
       intro k h
       rw [Zgd] at h
       cases hc:cs[k]? with
       | none=>rw [hc] at h; simp at h
       | some d =>
        rw [hc] at h
        simp only at h
        split at h
        ·exact ih h
        ·simp at h
         obtain ⟨rfl,rfl⟩:=h
         assumption
     exact this hN
    have h3:(tryN n c j).2≠3:=fun h=>hw (Or.inl h)
    have:=Zhf n c j
    omega
   have:=Zuq (cs:=cs) (names:=names) (l:=l) (n:=(tryN n c j).1) (p:=p+(Zak (l.drop p)).2) (way:=(n,j+1)::r) (A:=A) ⟨hcons _ hj,by simp only; omega,by simp only [Qf]; omega⟩ (by rw [Zkk h12]; exact hh.2.2)
   exact ⟨this.1,fun e=>by have:=this.2 e; omega⟩
def Zrw (w0 w:World) (R:HN) (e:Ending) (w':World):Prop:=FrT w w'∧Ext w0 w' ∧
 ((R.wrong=true∧e = .returned (.tuple #[.slice none 0 0,.agg #[.int .i64 7,.int .i64 R.at']]))∨(R.wrong=false∧∃ va vc,e = .returned (.tuple #[.slice va R.ans.length vc,.agg #[.int .i64 0,.int .i64 0]])∧w'.ownsRow w0.heap.size 9 1 (.slice va R.ans.length vc) R.ans.length (strs R.ans)))
theorem Zod (w0 w:World) (b:Nat) (ca:Option Addr) (cc:Nat) (nv:Value) (s:ByteArray) (cs:List Cls) (names:Names) (gv vv rv uv:Value) (n:ND) (R:HN) (hq:HoP w0 ca cc nv cs names) (h:HoIn w0 w b (.slice ca cs.length cc) nv s 0 [] []) (hn:CNode w gv vv rv uv n) (hvl:n.vals.length=names.length) (hs:s.size≤20000) (hR:Zol cs names s.data.toList (Zco names s.data.toList n 0 [] []) R) :
  Calls Tryz.prog 82 #[.pointer (some ⟨b,0,none⟩),.agg #[gv,vv,rv,uv]] w (Zrw w0 w R):=by
 obtain ⟨ga,gc,va',vl',vc',ra,rl,rc,u,rfl,rfl,rfl,rfl,hu4⟩:=hn.shape
 obtain ⟨z,hz⟩:∃ z,z=n.goals.length:=⟨_,rfl⟩
 rw [← hz] at hn ⊢
 obtain ⟨W,hW⟩:∃ W,W=(w.alloc (.cells #[.slice ga z gc,.slice va' vl' vc',.slice ra rl rc,.int .i64 u] 87)).alloc (.cells #[.int .i64 0,.int .i64 0] 91):=⟨_,rfl⟩
 have hEW:Ext w W:=by rw [hW]; exact (Ext.of (by repeat' (first | with_reducible(first|exact Qx _ _|apply Kept.drew|apply Kept.drewN|apply Qz|refine Qy ?_ ?_ _)|exact fun h=>absurd h (by simp <;> omega))))
 have hbW:W.heap[w.heap.size+1]?=some (.cells #[.int .i64 0,.int .i64 0] 91 (0,0)):=by rw [hW]; exact Zdm (by simp) _
 have hsl:s.data.toList.length=s.size:=by simp
 have HEn:=Zac (hq.enter (h.grow hEW) (hn.ext hEW) hvl hs (Qm _) (by simp) (by simp))
 have hok:=Zuq (cs:=cs) (names:=names) (l:=s.data.toList) (n:=n) (p:=0) (way:=[]) (A:=[]) ⟨fun y hy=>by simp at hy,Qm _,by simp⟩ hvl
 have Hok:=Zac hok.1
 obtain ⟨M,hM⟩:∃ M,M=Zco names s.data.toList n 0 [] []:=⟨_,rfl⟩
 rw [← hM] at HEn hR Hok
 have HR:=Zac hR
 have Hq:=Zac hq
 have HEW:=Zac hEW
 have HbW:=Zac hbW
 have HW:=Zac hW
 have Hsl:=Zac hsl
 have hlow:w0.heap.size≤w.heap.size:=by
  obtain ⟨_,_,_,_,h⟩:=h
  exact h.ext.size
 clear h hn hq hR hEW hbW hW hsl hok hM hz hvl
 go_enter Tryz.func82,Tryz.ntmps82
 go_wp2_with fail
 rw [← HW.out]
 refine HEn.out.mono ?_
 rintro e w1 ⟨hF1,rfl,h1⟩
 have H1:=Zac h1
 have HF1:=Zac hF1
 clear h1 hF1 HEn
 go_wp2
 go_loopg [6] (s.size+2) (fun gk hv wr=>∃ M:HM,hv = .bool M.ok∧Zol cs names s.data.toList M R∧WayOk cs names s.data.toList M∧(if M.ok then s.size - M.at'+1 else 0)<gk∧HoIn w0 wr b (.slice ca cs.length cc) nv s M.at' M.way M.ans∧FrT W wr)
 case atStart=>exact ⟨M,rfl,HR.out,Hok.out,by split <;> omega,H1.out,HF1.out⟩
 case round =>
  obtain ⟨⟨ok,p,way,A⟩,rfl,hG,hO,hgk,⟨wa,wc,aa,ac,hC⟩,hF⟩:=hrel
  simp only at hG hO hgk hC
  have hle:=hO.le
  have hcnt:=hO.cnt
  rw [Hsl.out] at hle
  simp only at hle hcnt
  have hbx:=hC.box
  obtain ⟨b0,b1,b2,b3,b4,b5,bf⟩:=box6 hbx
  have hbl:=Zab hbx
  have hf:=hF _ _ _ _ HbW.out (by simp [HoTy])
  obtain ⟨f0,f1,ff⟩:=box2 hf
  have hfl:=Zab hf
  have HC:=Zac hC
  have HF:=Zac hF
  have Hf:=Zac hf
  clear hC hF hf hbx
  cases ok with
  | false =>
   obtain ⟨hw,ha⟩:=hG.2 rfl
   simp only at ha
   have Hfin:Hid (∀ w2,Kept (only (w.heap.size+1)) wr w2→Zrw w0 w R (.returned (.tuple #[.slice none 0 0,.agg #[.int .i64 7,.int .i64 p]])) w2):=fun w2 hK=>by
    refine ⟨((FrT.of_ext HEW.out).trans HF.out).put hK (by omega),Zeb HC.out.ext hK (by omega),Or.inl ⟨hw,by rw [ha]⟩⟩
   clear hG hO hgk hw ha
   go_wp2_with fail
   go_region
   all_goals
    go_wp2
    refine bodyPost_ret (v := .tuple #[.slice none 0 0,.agg #[.int .i64 7,.int .i64 p]]) (by simp [results,Tryz.results82,go_sem,f0,f1,ff]) rfl ?_
    exact Hfin.out _ (by repeat (first | exact Qx _ _ | apply Qz | apply Kept.put | apply Kept.drew))
  | true =>
   cases way with
   | nil =>
    have hr:=Zxx (hG.1 rfl)
    simp only at hr
    have Hfin:Hid (∀ w2,Kept (only (w.heap.size+1)) wr w2→Zrw w0 w R (.returned (.tuple #[.slice aa A.length ac,.agg #[.int .i64 0,.int .i64 0]])) w2):=fun w2 hK=>by
     refine ⟨((FrT.of_ext HEW.out).trans HF.out).put hK (by omega),Zeb HC.out.ext hK (by omega),Or.inr ⟨by rw [hr],aa,ac,by rw [hr],?_⟩⟩
     rw [hr]
     exact Zai HC.out.ans (fun k hj=>hK.block k (HC.out.ans.lt k hj).2 (Zfr HC.out.ans Hf.out (by decide) k hj))
    clear hG hO hgk hr
    go_wp2
    refine bodyPost_ret (v := .tuple #[.slice aa A.length ac,.agg #[.int .i64 0,.int .i64 0]]) (by simp [results,Tryz.results82,go_sem,f0,f1,ff]) rfl ?_
    exact Hfin.out _ (by repeat (first | exact Qx _ _ | apply Qz | apply Kept.put | apply Kept.drew))
   | cons y r =>
    obtain ⟨n2,k2⟩:=y
    obtain ⟨hg1,hg2,hg3⟩:=hO.way (n2,k2) (by simp)
    have HGo:=Zac (Ykm w0 wr b ca cc nv s p n2 k2 r A cs names Hq.out ⟨_,_,_,_,HC.out⟩ hg1 hg3 hg2 hs hle (by omega) (by simp only [Qf] at hcnt; omega))
    have HGm:=Zac (Znj (hG.1 rfl))
    obtain ⟨hO2,hlt2⟩:=Yov hO
    obtain ⟨M2,hM2⟩:∃ M2,M2=goM cs names s.data.toList n2 k2 p r A:=⟨_,rfl⟩
    rw [← hM2] at HGo HGm hO2 hlt2
    have HO2:=Zac hO2
    have Hlt2:=Zac hlt2
    simp only [Qf] at b4 hcnt
    have hrl:(0:Int)<(r.length:Int)+1:=by omega
    have hgk2:s.size - p+1<gk:=by simpa using hgk
    clear hG hO hgk hg1 hg2 hg3 hO2 hlt2 hM2
    go_wp2_with fail
    refine HGo.out.mono ?_
    rintro e w2 ⟨hF2,rfl,h2⟩
    have H2:=Zac h2
    have HF2:=Zac (HF.out.trans hF2)
    clear h2 hF2 HGo b0 b1 b2 b3 b4 b5 bf f0 f1 ff
    go_wp2
    go_roundg (s.size - p+1)
    case measure=>omega
    case rel =>
     refine ⟨M2,rfl,HGm.out,HO2.out,?_,H2.out,HF2.out⟩
     split
     ·rename_i e
      have h1:=Hlt2.out e
      have h2:=HO2.out.le
      rw [Hsl.out] at h2
      omega
     ·omega
def Zoe (p q t:ByteArray) (w:World) (e:Ending) (w':World):Prop:=Ext w w'∧∃ va vc,e = .returned (.tuple #[.slice va (allN p q t).1.length vc,.agg #[.int .i64 (allN p q t).2.1,.int .i64 (allN p q t).2.2]])∧w'.ownsRow w.heap.size 9 1 (.slice va (allN p q t).1.length vc) (allN p q t).1.length (strs (allN p q t).1)
theorem Zof {p q t:ByteArray} {w w':World} {er pl:Nat} (h:allN p q t=([],er,pl)) (hE:Ext w w'):Zoe p q t w (.returned (.tuple #[.slice none 0 0,.agg #[.int .i64 er,.int .i64 pl]])) w':=by
 refine ⟨hE,none,0,?_,?_⟩
 ·rw [h]; rfl
 ·rw [h]; exact World.ownsRow_nil _ _ _ _
theorem Zxc (p q t:ByteArray) (w:World) (hp:p.size≤maxLen) (hq:q.size≤maxLen) (ht:t.size≤maxLen):Calls Tryz.prog 60 #[.string p,.string q,.string t] w (Zoe p q t w):=by
 obtain ⟨W0,hW0⟩:∃ W0,W0=w.alloc (.cells #[.int .i64 0,.int .i64 0] 91):=⟨_,rfl⟩
 have HB:=Zac (Znr p q W0 hp hq)
 have hE0:Ext w W0:=by rw [hW0]; exact (Ext.of (by repeat' (first | with_reducible(first|exact Qx _ _|apply Kept.drew|apply Kept.drewN|apply Qz|refine Qy ?_ ?_ _)|exact fun h=>absurd h (by simp <;> omega))))
 have hb0:W0.heap[w.heap.size]?=some (.cells #[.int .i64 0,.int .i64 0] 91 (0,0)):=by rw [hW0]; exact heap_alloc_new w _
 have hs0:W0.heap.size=w.heap.size+1:=by rw [hW0]; simp
 have HW0:=Zac hW0
 have HE0:=Zac hE0
 have Hb0:=Zac hb0
 unfold maxLen at ht
 clear hp hq hW0 hE0 hb0
 go_enter Tryz.func60,Tryz.ntmps60
 go_wp2_with fail
 rw [← HW0.out]
 refine HB.out.mono ?_
 rintro e w1 ⟨hE1,hB⟩
 have hs1:=hE1.size
 have hb1:=(hE1.block _ (by omega)).trans Hb0.out
 obtain ⟨f0,f1,ff⟩:=box2 hb1
 have hfl:=Zab hb1
 have HE1:=Zac (HE0.out.trans (hE1.mono HE0.out.size))
 have Hb1:=Zac hb1
 clear hE1 hb1 HB
 have Hno:Hid (∀ w2 er pl,allN p q t=([],er,pl)→Kept (only w.heap.size) w1 w2→Zoe p q t w (.returned (.tuple #[.slice none 0 0,.agg #[.int .i64 (er:Nat),.int .i64 (pl:Nat)]])) w2):=fun w2 er pl ha hK=>Zof ha (Zeb HE1.out hK (Qe _))
 rcases hB with ⟨hno,rfl⟩ | ⟨⟨cs,hsome⟩,hno,rfl⟩ | ⟨cs,a,l1,lc,xs,h1,h2,h3,b1,bc,n1,nc,hsome,hask,rfl,hP,hT,hns⟩
 ·have Hh:Hid (allN p q t=([],4,0)):=by show _=_; simp [allN,hno]
  clear hno
  go_wp2
  refine bodyPost_ret (v := .tuple #[.slice none 0 0,.agg #[.int .i64 4,.int .i64 0]]) (by simp [results,Tryz.results60,go_sem,f0,f1,ff,hfl]) rfl ?_
  exact Hno.out _ 4 0 Hh.out (by repeat (first | exact Qx _ _ | apply Qz | apply Kept.put | apply Kept.drew))
 ·have Hh:Hid (allN p q t=([],5,0)):=by show _=_; simp [allN,hno,hsome]
  clear hno hsome
  go_wp2
  refine bodyPost_ret (v := .tuple #[.slice none 0 0,.agg #[.int .i64 5,.int .i64 0]]) (by simp [results,Tryz.results60,go_sem,f0,f1,ff,hfl]) rfl ?_
  exact Hno.out _ 5 0 Hh.out (by repeat (first | exact Qx _ _ | apply Qz | apply Kept.put | apply Kept.drew))
 ·by_cases ht2:20000<t.size
  ·have Hh:Hid (allN p q t=([],1,0)):=by show _=_; simp [allN,hsome,hask,ht2]
   have ht3:(20000:Int)<(t.size:Int):=by omega
   clear hP hT hns hsome hask ht2
   go_wp2
   refine bodyPost_ret (v := .tuple #[.slice none 0 0,.agg #[.int .i64 1,.int .i64 0]]) (by simp [results,Tryz.results60,go_sem,f0,f1,ff,hfl]) rfl ?_
   exact Hno.out _ 1 0 Hh.out (by repeat (first | exact Qx _ _ | apply Qz | apply Kept.put | apply Kept.drew))
  ·have ht3:¬ (20000:Int)<(t.size:Int):=by omega
   obtain ⟨W2,hW2⟩:∃ W2,W2=w1.alloc (.cells #[.slice h1 h2 h3,.slice b1 a.1.length bc,.slice n1 a.2.length nc] 107):=⟨_,rfl⟩
   have hE2:Ext w1 W2:=by rw [hW2]; exact (Ext.of (by repeat' (first | with_reducible(first|exact Qx _ _|apply Kept.drew|apply Kept.drewN|apply Qz|refine Qy ?_ ?_ _)|exact fun h=>absurd h (by simp <;> omega))))
   have hbW2:W2.heap[w1.heap.size]?=some (.cells #[.slice h1 h2 h3,.slice b1 a.1.length bc,.slice n1 a.2.length nc] 107 (0,0)):=by rw [hW2]; exact heap_alloc_new w1 _
   have hs2:W2.heap.size=w1.heap.size+1:=by rw [hW2]; simp
   have HCf:=Zac (Zru t W2 (by omega))
   have HW2:=Zac hW2
   cases hsh:Zfl t.data.toList with
   | some pl =>
    have Hh:Hid (allN p q t=([],6,pl)):=by show _=_; simp [allN,hsome,hask,ht2,hsh]
    unfold Zwx at HCf
    rw [hsh] at HCf
    simp only at HCf
    have HE2:=Zac hE2
    have hb2:=(hE2.block _ hfl).trans Hb1.out
    have Hb2:=Zac hb2
    clear hP hT hns hsome hask ht2 hsh hE2 hbW2 hW2 hb2
    go_wp2_with fail
    rw [← HW2.out]
    refine HCf.out.mono ?_
    rintro e w3 ⟨hE3,rfl⟩
    have hs3:=hE3.size
    have hb3:=(hE3.block _ (by omega)).trans Hb2.out
    have HE3:=Zac (HE2.out.trans (hE3.mono HE2.out.size))
    clear hE3 HCf f0 f1 ff
    obtain ⟨f0,f1,ff⟩:=box2 hb3
    have Hfin:Hid (∀ w4,Kept (only w.heap.size) w3 w4→Zoe p q t w (.returned (.tuple #[.slice none 0 0,.agg #[.int .i64 6,.int .i64 pl]])) w4):=fun w4 hK=>Zof Hh.out (Zeb (HE1.out.trans (HE3.out.mono HE1.out.size)) hK (Qe _))
    have hfl3:=Zab hb3
    clear hb3
    go_wp2_with fail
    go_region
    all_goals
     go_wp2
     refine bodyPost_ret (v := .tuple #[.slice none 0 0,.agg #[.int .i64 6,.int .i64 pl]]) (by simp [results,Tryz.results60,go_sem,f0,f1,ff,hfl3]) rfl ?_
     exact Hfin.out _ (by repeat (first | exact Qx _ _ | apply Qz | apply Kept.put | apply Kept.drew))
   | none =>
    obtain ⟨R,hR⟩:∃ R,R=Zld cs a t.data.toList:=⟨_,rfl⟩
    have hG:=Ztq cs a hsh
    rw [← hR] at hG
    have Hh:Hid (allN p q t=if R.wrong=true then ([],7,R.at') else (R.ans,0,0)):=by show _=_; simp [allN,hsome,hask,ht2,hsh,hR]
    unfold Zwx at HCf
    rw [hsh] at HCf
    simp only at HCf
    obtain ⟨_,_,_,hcs,hcl⟩:=Zej hsome
    obtain ⟨_,_,_,hOk,hNm,ha1,ha2,ha3,ha8⟩:=Zdx hask
    have ha6:=Znu hask
    have hFw:=Zwh hask
    have hHoP:HoP w1 l1 lc (.slice n1 a.2.length nc) cs a.2:=⟨⟨xs,hP⟩,hcs,Zrq hsome,hcl,hns,ha6,ha8⟩
    have HTop:Hid (∀ u,Ext w1 u→Calls Tryz.prog 51 #[.agg #[.slice h1 h2 h3,.slice b1 a.1.length bc,.slice n1 a.2.length nc]] u _):=fun u hu=>Zro u (.slice h1 h2 h3) (.slice b1 a.1.length bc) (.slice n1 a.2.length nc) a.1 a.2 ⟨_,_,_,rfl⟩ (hT.ext hu) (Zai hns (fun j hj=>hu.block j (hns.lt j hj).2)) (by omega) (by omega) (Yle hOk ha3)
    have Hst:Hid (∀ u g1 gc v1 vc b,HoIn w1 u b (.slice l1 cs.length lc) (.slice n1 a.2.length nc) t 0 [] []→TermsIn u (.slice g1 a.1.length gc) a.1→TermsIn u (.slice v1 a.2.length vc) ((List.range a.2.length).map vr)→Calls Tryz.prog 82 #[.pointer (some ⟨b,0,none⟩),.agg #[.slice g1 a.1.length gc,.slice v1 a.2.length vc,.slice none 0 0,.int .i64 a.2.length]] u (Zrw w1 u R)):=fun u g1 gc v1 vc b hI hg hv=>by
     have hCN:CNode u (.slice g1 a.1.length gc) (.slice v1 a.2.length vc) (.slice none 0 0) (.int .i64 a.2.length) (topN a):=by
      refine ⟨topN a,⟨?_,hv,⟨[],TermsAt.nil _ _⟩⟩,rfl,hOk,hNm,hFw,Same.refl hOk⟩
      have:(topN a).goals.map (·.1)=a.1:=by unfold topN; rw [List.map_map]; exact (List.map_congr_left (fun _ _=>rfl)).trans (List.map_id _)
      rw [this]; exact hg
     exact Zod w1 u b l1 lc _ t cs a.2 _ _ _ _ (topN a) R hHoP hI hCN (by simp [topN]) (by omega) hG
    have HE2:=Zac hE2
    have Hb2:=Zac ((hE2.block _ hfl).trans Hb1.out)
    have HbW2:=Zac hbW2
    clear hP hT hns hsome hask ht2 hsh hE2 hbW2 hW2 hcs hOk hNm ha1 ha2 ha3 ha6 ha8 hFw hHoP hG hR
    go_wp2_with fail
    rw [← HW2.out]
    refine HCf.out.mono ?_
    rintro e w3 ⟨hE3,rfl⟩
    have hs3:=hE3.size
    have Hb3:=Zac ((hE3.block _ (by omega)).trans Hb2.out)
    have hc3:=(hE3.block _ (by omega)).trans HbW2.out
    have HE3:=Zac (HE2.out.trans (hE3.mono HE2.out.size))
    obtain ⟨W5,hW5⟩:∃ W5,W5=(w3.alloc (.cells #[.int .i64 0,.int .i64 0] 91)).alloc (.cells #[.slice l1 cs.length lc,.slice n1 a.2.length nc,.string t,.int .i64 0,.slice none 0 0,.slice none 0 0] 142):=⟨_,rfl⟩
    have hE5:Ext w3 W5:=by rw [hW5]; exact (Ext.of (by repeat' (first | with_reducible(first|exact Qx _ _|apply Kept.drew|apply Kept.drewN|apply Qz|refine Qy ?_ ?_ _)|exact fun h=>absurd h (by simp <;> omega))))
    have hb5:W5.heap[w3.heap.size+1]?=some (.cells #[.slice l1 cs.length lc,.slice n1 a.2.length nc,.string t,.int .i64 0,.slice none 0 0,.slice none 0 0] 142 (0,0)):=by rw [hW5]; exact heap_alloc2_new w3 _ _
    have hE15:Ext w1 W5:=HE3.out.trans (hE5.mono HE3.out.size)
    have HI5:Hid (HoIn w1 W5 (w3.heap.size+1) (.slice l1 cs.length lc) (.slice n1 a.2.length nc) t 0 [] []):=⟨none,0,none,0,hE15,by omega,hb5,⟨[],⟨World.ownsRow_nil _ _ _ _,fun i d h=>by simp at h⟩⟩,World.ownsRow_nil _ _ _ _⟩
    obtain ⟨c0,c1,c2,cf⟩:=box3' hc3
    have hcl3:=Zab hc3
    have HT5:=Zac (HTop.out W5 hE15)
    have Hb5:=Zac ((hE5.block _ (by omega)).trans Hb3.out)
    have HE15:=Zac hE15
    have HW5:=Zac hW5
    have hs5:=hE5.size
    clear hE3 HCf f0 f1 ff hc3 hE5 hb5 hE15 hW5 HTop
    go_wp2_with fail
    rw [← HW5.out]
    refine HT5.out.mono ?_
    rintro e w6 ⟨hE6,g1,gc,v1,vc,rfl,hg,hv⟩
    have hs6:=hE6.size
    obtain ⟨W7,hW7⟩:∃ W7,W7=w6.alloc (.cells #[.slice g1 a.1.length gc,.slice v1 a.2.length vc,.slice none 0 0,.int .i64 a.2.length] 87):=⟨_,rfl⟩
    have hE7:Ext w6 W7:=by rw [hW7]; exact (Ext.of (by repeat' (first | with_reducible(first|exact Qx _ _|apply Kept.drew|apply Kept.drewN|apply Qz|refine Qy ?_ ?_ _)|exact fun h=>absurd h (by simp <;> omega))))
    have hE57:Ext W5 W7:=hE6.trans (hE7.mono hE6.size)
    have H7:=Zac (Hst.out W7 g1 gc v1 vc (w3.heap.size+1) (HI5.out.grow hE57) (hg.ext hE7) (hv.ext hE7))
    have Hb7:=Zac ((hE57.block _ (Zab Hb5.out)).trans Hb5.out)
    have HW7:=Zac hW7
    clear hE6 hg hv hE7 hE57 hW7 Hst HT5 c0 c1 c2 cf
    go_wp2_with fail
    rw [← HW7.out]
    refine H7.out.mono ?_
    rintro e w8 ⟨hF8,hE8,hout⟩
    have hb8:=hF8 _ _ _ _ Hb7.out (by simp [HoTy])
    obtain ⟨f0,f1,ff⟩:=box2 hb8
    have hfl8:=Zab hb8
    have HEw:=Zac (HE1.out.trans (hE8.mono HE1.out.size))
    have Hb8:=Zac hb8
    clear hF8 hE8 hb8 H7
    rcases hout with ⟨hw,rfl⟩ | ⟨hw,va,vc',rfl,ho⟩
    ·have Hfin:Hid (∀ w9,Kept (only w.heap.size) w8 w9→Zoe p q t w (.returned (.tuple #[.slice none 0 0,.agg #[.int .i64 7,.int .i64 R.at']])) w9):=fun w9 hK=>Zof (by rw [Hh.out,if_pos hw]) (Zeb HEw.out hK (Qe _))
     clear hw
     go_wp2
     refine bodyPost_ret (v := .tuple #[.slice none 0 0,.agg #[.int .i64 7,.int .i64 R.at']]) (by simp [results,Tryz.results60,go_sem,f0,f1,ff,hfl8]) rfl ?_
     exact Hfin.out _ (by repeat (first | exact Qx _ _ | apply Qz | apply Kept.put | apply Kept.drew))
    ·have Hfin:Hid (∀ w9,Kept (only w.heap.size) w8 w9→Zoe p q t w (.returned (.tuple #[.slice va R.ans.length vc',.agg #[.int .i64 0,.int .i64 0]])) w9):=fun w9 hK=>by
      have e:allN p q t=(R.ans,0,0):=by rw [Hh.out,if_neg (by rw [hw]; simp)]
      refine ⟨Zeb HEw.out hK (Qe _),va,vc',by rw [e]; rfl,?_⟩
      rw [e]
      exact Zbe (Zai ho (fun k hj=>hK.block k (ho.lt k hj).2 (Zfr ho Hb8.out (by decide) k hj))) HE1.out.size
     clear hw ho
     go_wp2
     refine bodyPost_ret (v := .tuple #[.slice va R.ans.length vc',.agg #[.int .i64 0,.int .i64 0]]) (by simp [results,Tryz.results60,go_sem,f0,f1,ff,hfl8]) rfl ?_
     exact Hfin.out _ (by repeat (first | exact Qx _ _ | apply Qz | apply Kept.put | apply Kept.drew))
theorem Yno (p q t:ByteArray):((allN p q t).2.1≠0→(allN p q t).1=[])∧((allN p q t).2.1=0→(allN p q t).2.2=0):=by
 unfold allN
 split
 ·exact ⟨fun _=>rfl,fun h=>by simp at h⟩
 ·split
  ·exact ⟨fun _=>rfl,fun h=>by simp at h⟩
  ·split
   ·exact ⟨fun _=>rfl,fun h=>by simp at h⟩
   ·split
    ·exact ⟨fun _=>rfl,fun h=>by simp at h⟩
    ·split
     ·exact ⟨fun _=>rfl,fun h=>by simp at h⟩
     ·exact ⟨fun h=>absurd rfl h,fun _=>rfl⟩
theorem Ykn (p q t:ByteArray) (w:World) (hp:p.size≤maxLen) (hq:q.size≤maxLen) (ht:t.size≤maxLen):Calls Tryz.prog 36 #[.string p,.string q,.string t] w (Ztp p q t w):=by
 have HA:=Zac (Zxc p q t w hp hq ht)
 unfold Zoe at HA
 obtain ⟨hX3,hX4⟩:=Yno p q t
 obtain ⟨X,hX⟩:∃ X,X=allN p q t:=⟨_,rfl⟩
 rw [← hX] at HA hX3 hX4
 have HX:=Zac hX
 clear hp hq ht hX
 obtain ⟨A,er,pl⟩:=X
 simp only at HA hX3 hX4
 go_enter Tryz.func36,Tryz.ntmps36
 go_wp2_with fail
 refine HA.out.mono ?_
 rintro e w1 ⟨hE1,va,vc,rfl,ho⟩
 have hs1:=hE1.size
 have HE1:=Zac hE1
 have Ho:=Zac ho
 clear hE1 ho HA
 by_cases he:er=0
 ·obtain rfl:=hX4 he
  subst he
  have Hfin:Hid (∀ o,Ztp p q t w (.returned (.tuple #[.slice va A.length vc,.int .i64 0,.int .i64 0])) (w1.alloc o)):=fun o=>by
   have hEo:Ext w1 (w1.alloc o):=(Ext.of (by repeat' (first | with_reducible(first|exact Qx _ _|apply Kept.drew|apply Kept.drewN|apply Qz|refine Qy ?_ ?_ _)|exact fun h=>absurd h (by simp <;> omega))))
   refine ⟨HE1.out.trans (hEo.mono hs1),va,vc,by rw [← HX.out]; rfl,?_⟩
   rw [← HX.out]
   exact Zai Ho.out (fun k hk=>hEo.block k (Ho.out.lt k hk).2)
  clear hX3 hX4
  go_wp2
  go_ret3
  exact Hfin.out _
 ·have hb:((er:Int) != 0)=true:=by rw [bne_iff_ne]; omega
  obtain rfl:=hX3 he
  have Hfin:Hid (∀ w2,Ext w1 w2→Ztp p q t w (.returned (.tuple #[.slice none 0 0,.int .i64 er,.int .i64 pl])) w2):=fun w2 hE2=>Yeo HX.out.symm (HE1.out.trans (hE2.mono hs1))
  clear hX3 hX4 he
  go_wp2_with fail
  go_quiet (fail)
  go_wp2
  go_ret3
  exact Hfin.out _ (Ext.of (by repeat' (first | with_reducible(first|exact Qx _ _|apply Kept.drew|apply Kept.drewN|apply Qz|refine Qy ?_ ?_ _)|exact fun h=>absurd h (by simp <;> omega))))
theorem Yko (P:List (GT × List GT)) (hc:∀ c ∈ P,ClFine c∧c.1.hd≠Zgk) (hl:P.length≤23) (hs:(Zby P).length≤700) (w:World) :
  Calls Tryz.prog 18 #[.string ⟨(Zby P).toArray⟩,.int .i64 P.length] w fun e w'=>e = .returned (.bool true)∧Ext w w':=by
 obtain ⟨hp,ha⟩:=Zob P hc hl hs
 obtain ⟨hy,hall⟩:=Ygp P hc hl hs
 obtain ⟨n,hn⟩:∃ n,n=P.length:=⟨_,rfl⟩
 obtain ⟨D,hD⟩:∃ D:ByteArray,D=⟨(Lib.decDigits n).toArray⟩:=⟨_,rfl⟩
 obtain ⟨S0,hS0⟩:∃ S0:ByteArray,S0=⟨(Zby P).toArray⟩:=⟨_,rfl⟩
 obtain ⟨S,hS⟩:∃ S:ByteArray,S=S0++⟨#[32,115,117,114,101,46]⟩:=⟨_,rfl⟩
 have hS':S=⟨(Zby P++[32,115,117,114,101,46]).toArray⟩:=by
  rw [hS,hS0]
  show (⟨(Zby P).toArray⟩:ByteArray)++⟨[32,115,117,114,101,46].toArray⟩=_
  rw [Zbi]
 obtain ⟨T,hT⟩:∃ T:ByteArray,T=⟨#[40]⟩++D++⟨#[33,41]⟩:=⟨_,rfl⟩
 have hT':T=⟨([40]++Lib.decDigits n++[33]++[41]).toArray⟩:=by
  rw [hT,hD]
  show (⟨[40].toArray⟩:ByteArray)++⟨(Lib.decDigits n).toArray⟩++⟨[33,41].toArray⟩=_
  rw [Zbi,Zbi]
  simp
 rw [← hn] at ha hy hall ⊢
 rw [← hS'] at hp hy hall
 rw [← hD] at hy
 rw [← hT'] at hall
 rw [← hS0]
 have hss:S.size≤800:=by rw [hS']; simp [ByteArray.size]; omega
 have hs0:S0.size≤700:=by rw [hS0]; simpa [ByteArray.size] using hs
 have hds:D.size≤2:=by rw [hD]; have:=Zkm (k:=n) (by omega); simpa [ByteArray.size] using this
 have hts:T.size≤10:=by rw [hT']; have:=Zkm (k:=n) (by omega); simp [ByteArray.size]; omega
 have HI:=Zac (fun u=>Zmb n u (by omega))
 rw [← hD] at HI
 have HEn:Hid (∀ u,Calls Tryz.prog 25 #[.string S,.string ⟨#[115,117,114,101,46]⟩] u fun e w'=>Ext u w'∧∃ aa ac wa wc,e = .returned (.tuple #[.agg #[.slice aa 1 ac,.slice wa 1 wc,.int .i64 ((n:Int)+1),.int .i64 2,.string T],.bool true]) ∧
   w'.ownsRow u.heap.size 9 1 (.slice aa 1 ac) 1 (strs [[121,101,115]])∧w'.ownsRow u.heap.size 9 1 (.slice wa 1 wc) 1 (strs [Lib.decDigits n])):=fun u=>by
  have:=Ygj S ⟨#[115,117,114,101,46]⟩ u _ Zer (by simp only [maxLen]; omega) (by simp [maxLen,ByteArray.size]) hp Zmi
  rw [ha] at this
  refine this.mono ?_
  rintro e w' ⟨h1,aa,ac,wa,wc,rfl,h2,h3⟩
  refine ⟨h1,aa,ac,wa,wc,?_,h2,h3⟩
  have e1:(Zdd Zer (Zds n 2).status (Zds n 2).found (Zds n 2).tree).2.2=[40]++Lib.decDigits n++[33]++[41]:=rfl
  simp only [e1]
  rw [← hT']
  rfl
 have HY:Hid (∀ u,Calls Tryz.prog 19 #[.string S,.string ⟨#[115,117,114,101,46]⟩,.string D] u fun e w'=>e = .returned (.tuple #[.string ⟨#[121,101,115]⟩,.int .i64 0,.int .i64 0])∧Ext u w'):=fun u=>by
  have:=Zyn S ⟨#[115,117,114,101,46]⟩ D u (by simp only [maxLen]; omega) (by simp [maxLen,ByteArray.size]) (by simp only [maxLen]; omega)
  rw [hy] at this
  exact this
 have HAl:Hid (∀ u,Calls Tryz.prog 36 #[.string S,.string ⟨#[115,117,114,101,46]⟩,.string T] u fun e w'=>Ext u w'∧∃ va vc,e = .returned (.tuple #[.slice va 1 vc,.int .i64 0,.int .i64 0])∧w'.ownsRow u.heap.size 9 1 (.slice va 1 vc) 1 (strs [[121,101,115]])):=fun u=>by
  have:=Ykn S ⟨#[115,117,114,101,46]⟩ T u (by simp only [maxLen]; omega) (by simp [maxLen,ByteArray.size]) (by simp only [maxLen]; omega)
  unfold Ztp at this
  rw [hall] at this
  exact this
 have hSq:S0++⟨#[32,115,117,114,101,46]⟩=S:=hS.symm
 have hTq:(⟨#[40]⟩:ByteArray)++D++⟨#[33,41]⟩=T:=hT.symm
 have HD:=Zac hD
 have hn23:n≤23:=by omega
 clear hp ha hy hall hS hS' hT hT' hD hS0 hs hc hn hl
 go_enter Tryz.func18,Tryz.ntmps18
 go_wp2_with fail
 refine (HI.out _).mono ?_
 rintro e u1 ⟨rfl,rfl⟩
 go_wp2_with fail
 refine (HEn.out _).mono ?_
 rintro e w2 ⟨hE2,aa,ac,wa,wc,rfl,ha2,hw2⟩
 obtain ⟨g,y,rfl,hg,hy,cg⟩:=Zrs (i:=0) ha2 (by decide)
 simp at hy
 subst hy
 obtain ⟨g',y',rfl,hg',hy',cg'⟩:=Zrs (i:=0) hw2 (by decide)
 simp at hy'
 subst hy'
 rw [← HD.out] at cg'
 have Hans:=Zac ha2
 have HE2:=Zac hE2
 clear hE2 ha2 hw2
 go_wp2_with fail
 obtain ⟨V,hV⟩:∃ V,V=w2.alloc (.cells #[.slice (some ⟨g,0,none⟩) 1 ac,.slice (some ⟨g',0,none⟩) 1 wc,.int .i64 ((n:Int)+1),.int .i64 2,.string T] 49):=⟨_,rfl⟩
 have hEV:Ext w2 V:=by rw [hV]; exact (Ext.of (by repeat' (first | with_reducible(first|exact Qx _ _|apply Kept.drew|apply Kept.drewN|apply Qz|refine Qy ?_ ?_ _)|exact fun h=>absurd h (by simp <;> omega))))
 have hbV:V.heap[w2.heap.size]?=some (.cells #[.slice (some ⟨g,0,none⟩) 1 ac,.slice (some ⟨g',0,none⟩) 1 wc,.int .i64 ((n:Int)+1),.int .i64 2,.string T] 49 (0,0)):=by rw [hV]; exact heap_alloc_new w2 _
 have Hat:Hid (∀ u,Ext V u→u.heap[w2.heap.size]?=some (.cells #[.slice (some ⟨g,0,none⟩) 1 ac,.slice (some ⟨g',0,none⟩) 1 wc,.int .i64 ((n:Int)+1),.int .i64 2,.string T] 49 (0,0))∧u.cell? ⟨g,0,none⟩=some (.string ⟨#[121,101,115]⟩)∧u.cell? ⟨g',0,none⟩=some (.string D)∧g<u.heap.size∧g'<u.heap.size∧u.ownsRow u1.heap.size 9 1 (.slice (some ⟨g,0,none⟩) 1 ac) 1 (strs [[121,101,115]])):=fun u hu=>by
  have hs1:=hEV.size
  have hs2:=hu.size
  have k1:u.heap[w2.heap.size]?=V.heap[w2.heap.size]?:=hu.block _ (Zab hbV)
  refine ⟨k1.trans hbV,(hu.cell (p:=⟨g,0,none⟩) (by show g<_; omega)).trans ((hEV.cell (p:=⟨g,0,none⟩) hg).trans cg),(hu.cell (p:=⟨g',0,none⟩) (by show g'<_; omega)).trans ((hEV.cell (p:=⟨g',0,none⟩) hg').trans cg'),by omega,by omega,?_⟩
  exact Zai Hans.out (fun k hk=>(hu.block k (by have:=(Hans.out.lt k hk).2; omega)).trans (hEV.block k (Hans.out.lt k hk).2))
 have HEV:Hid (Ext u1 V):=HE2.out.trans (hEV.mono HE2.out.size)
 rw [← hV]
 clear hV hEV hbV cg cg' hg hg'
 refine (HY.out V).mono ?_
 rintro e w3 ⟨rfl,hE3⟩
 obtain ⟨k1,k2,k3,k4,k5,k6⟩:=Hat.out w3 hE3
 have b4:=Zaa k1 4 _ rfl
 have bl:=Zab k1
 have HE3:=Zac hE3
 clear hE3 k1 k2 k3 k4 k5 k6
 go_wp2_with fail
 refine (HAl.out w3).mono ?_
 rintro e w4 ⟨hE4,va,vc,rfl,hv4⟩
 have hE4':Ext V w4:=HE3.out.trans (hE4.mono HE3.out.size)
 obtain ⟨k1,k2,k3,k4,k5,k6⟩:=Hat.out w4 hE4'
 have c0:=Zaa k1 0 _ rfl
 have c1:=Zaa k1 1 _ rfl
 have cl:=Zab k1
 have HSa:=Zac (Yjx w4 w3.heap.size u1.heap.size va vc [[121,101,115]] (some ⟨g,0,none⟩) ac [[121,101,115]] hv4 k6 (by decide) (by decide))
 have HE4:Hid (Ext u1 w4):=HEV.out.trans (hE4'.mono HEV.out.size)
 clear hE4 hE4' hv4 k1 k6 b4 bl
 go_wp2_with fail
 refine HSa.out.mono ?_
 rintro e w5 ⟨rfl,hE5⟩
 have HE5:Hid (Ext u1 w5):=HE4.out.trans (hE5.mono HE4.out.size)
 clear hE5
 go_wp2
 go_ret
 exact ⟨rfl,HE5.out⟩
structure RlsAt (u:World) (B0:Nat) (v:Value) (R:List (At3 × List At3)) (xs:List Value):Prop where
 owns:u.ownsRow B0 82 4 v R.length xs
 all:∀ (k:Nat) (x:At3 × List At3),R[k]?=some x→∃ (a:Option Addr) (c:Nat),xs[k * 4]?=some (.int .i64 x.1.1)∧xs[k * 4+1]?=some (.int .i64 x.1.2.1)∧xs[k * 4+2]?=some (.int .i64 x.1.2.2)∧xs[k * 4+3]?=some (.slice a x.2.length c)∧u.ownsRow B0 45 3 (.slice a x.2.length c) x.2.length (x.2.flatMap atC)∧RlOk x
theorem RlsAt.nil (u:World) (B0:Nat):RlsAt u B0 (.slice none 0 0) [] []:=⟨World.ownsRow_nil _ _ _ _,fun k x h=>by simp at h⟩
theorem RlsAt.keep {u u':World} {B0:Nat} {v:Value} {R:List (At3 × List At3)} {xs:List Value} (h:RlsAt u B0 v R xs) (hk:∀ k,B0≤k→k<u.heap.size→u'.heap[k]?=u.heap[k]?):RlsAt u' B0 v R xs :=
 ⟨Zai h.owns (fun k e=>hk k (h.owns.lt k e).1 (h.owns.lt k e).2),fun k x hx=>by
  obtain ⟨a,c,y0,y1,y2,y3,y4,y5⟩:=h.all k x hx
  exact ⟨a,c,y0,y1,y2,y3,Zai y4 (fun k e=>hk k (y4.lt k e).1 (y4.lt k e).2),y5⟩⟩
theorem RlsAt.rules {u:World} {B0:Nat} {v:Value} {R:List (At3 × List At3)} {xs:List Value} (h:RlsAt u B0 v R xs):RulesIn u v R xs :=
 ⟨Zbe h.owns (Qm _),fun k x hx=>by
  obtain ⟨a,c,y0,y1,y2,y3,y4,y5⟩:=h.all k x hx
  exact ⟨a,c,y0,y1,y2,y3,⟨Zbe y4 (Qm _),y5.2.1⟩,y5.1,by have:=y5.2.2; omega⟩⟩
theorem RlsAt.ok {u:World} {B0:Nat} {v:Value} {R:List (At3 × List At3)} {xs:List Value} (h:RlsAt u B0 v R xs):∀ x ∈ R,RlOk x:=fun x hx=>by
 obtain ⟨k,hk⟩:=List.mem_iff_getElem?.1 hx
 obtain ⟨_,_,_,_,_,_,_,y⟩:=h.all k x hk
 exact y
theorem RlsAt.more {U w':World} {B0:Nat} {v v':Value} {R:List (At3 × List At3)} {xs:List Value} {x:At3 × List At3} {a:Option Addr} {c:Nat} (h:RlsAt U B0 v R xs) (hb:U.ownsRow B0 45 3 (.slice a x.2.length c) x.2.length (x.2.flatMap atC)) (ho:RlOk x)
  (hA:Appended U B0 82 4 v (R.length+1) (xs++[.int .i64 x.1.1,.int .i64 x.1.2.1,.int .i64 x.1.2.2,.slice a x.2.length c]) v' w'):RlsAt w' B0 v' (R++[x]) (xs++[.int .i64 x.1.1,.int .i64 x.1.2.1,.int .i64 x.1.2.2,.slice a x.2.length c]):=by
 have hl:=h.owns.1
 have hkeep:∀ {vv:Value} {n:Nat} {zs:List Value},U.ownsRow B0 45 3 vv n zs→w'.ownsRow B0 45 3 vv n zs:=fun hr=>Zai hr (fun k e=>hA.kept.block k (hr.lt k e).2 (fun e2=>by
  obtain ⟨c1,h1⟩:=Zbx hr k e
  obtain ⟨c2,h2⟩:=Zbx h.owns k e2
  rw [h1] at h2
  simp at h2))
 refine ⟨by simpa using hA.owns,fun k y hy => ?_⟩
 rcases Nat.lt_or_ge k R.length with hk | hk
 ·rw [Qc hk] at hy
  obtain ⟨a',c',y0,y1,y2,y3,y4,y5⟩:=h.all k y hy
  refine ⟨a',c',?_,?_,?_,?_,hkeep y4,y5⟩
  ·rw [Qc (by omega)]; exact y0
  ·rw [Qc (by omega)]; exact y1
  ·rw [Qc (by omega)]; exact y2
  ·rw [Qc (by omega)]; exact y3
 ·obtain rfl:k=R.length:=by
   have:=(Qa.1 hy).1
   simp at this
   omega
  simp at hy
  subst hy
  refine ⟨a,c,?_,?_,?_,?_,hkeep hb,ho⟩
  ·rw [Qd (by omega),hl]; simp
  ·rw [Qd (by omega),hl,show R.length * 4+1 - R.length * 4=1 by omega]; simp
  ·rw [Qd (by omega),hl,show R.length * 4+2 - R.length * 4=2 by omega]; simp
  ·rw [Qd (by omega),hl,show R.length * 4+3 - R.length * 4=3 by omega]; simp
theorem Tryz.infoRule:(Tryz.prog.info? 82).map (fun i=>(i.zero,i.size,i.bytes))=some (some (.agg #[.int .i64 0,.int .i64 0,.int .i64 0,.slice none 0 0]),4,48):=by kernel_rfl
theorem Zrx (w:World) (B b:Nat) (ra:Option Addr) (rl rc:Nat) (h:RawIn w B b ra rl rc):Calls Tryz.prog 14 #[.pointer (some ⟨b,0,none⟩)] w fun e w'=>∃ (a:Option Addr) (c:Nat) (R:List (At3 × List At3)) (xs:List Value),1≤R.length∧R.length≤8∧e = .returned (.slice a R.length c)∧RlsAt w' w.heap.size (.slice a R.length c) R xs∧Kept (only b) w w'∧RawIn w' B b ra rl rc:=by
 have hbl:b<w.heap.size∧B≤b:=by obtain ⟨q,h⟩:=h; exact ⟨Zab h.box,h.le⟩
 have HT:=Zac (Zdp w B b ra rl rc h 8 ⟨by omega,by omega⟩)
 clear h
 go_enter Tryz.func14,Tryz.ntmps14
 go_wp2_with fail
 refine HT.out.mono ?_
 rintro e w1 ⟨v,hv,rfl,hK,hR⟩
 have HK:Hid (Kept (only b) w w1∧RawIn w1 B b ra rl rc):=⟨hK,hR⟩
 obtain ⟨n,hn,hn2,hn1⟩:∃ n:Nat,(1:Int)+(v:Int)=(n:Int)∧n≤8∧1≤n:=⟨1+v,by omega,by omega,by omega⟩
 clear hK hR HT
 go_wp2
 go_loopw [3,5] (fun sv i u=>∃ (k:Nat) (a:Option Addr) (c:Nat) (R:List (At3 × List At3)) (xs:List Value),k=R.length∧R.length≤n∧i = .int .i64 k∧sv = .slice a R.length c∧RlsAt u w.heap.size (.slice a R.length c) R xs∧Kept (only b) w u∧RawIn u B b ra rl rc) (fun _ i _=>n - (intOf i).toNat)
 case atStart=>exact ⟨0,none,0,[],[],rfl,Qm _,rfl,rfl,RlsAt.nil _ _,HK.out.1,HK.out.2⟩
 case round =>
  obtain ⟨k,a,c,R,xs,hkR,hRn,rfl,rfl,hrls,hKu,hRu⟩:=hrel
  have Hrls:=Zac hrls
  have HKu:=Zac hKu
  have HkR:=Zac hkR
  have hsw:=hKu.size
  clear hrls hKu
  by_cases hlt:k<n
  ·have HT2:=Zac (Zdp wr B b ra rl rc hRu 3 ⟨by omega,by omega⟩)
   clear hRu hkR
   go_wp2_with fail
   refine HT2.out.mono ?_
   rintro e w2 ⟨p,hp,rfl,hK2,hR2⟩
   have HA:=Zac (Zng w2 B b ra rl rc hR2 p hp)
   have HK2:=Zac hK2
   clear hK2 hR2 HT2
   go_wp2_with fail
   refine HA.out.mono ?_
   rintro e w3 ⟨x,hx,hxp,rfl,hK3,hR3⟩
   have HK3:Hid (Kept (only b) wr w3):=HK2.out.trans hK3
   have hs3:=HK3.out.size
   have Hx:=Zac hx
   have hE3:Ext w3 ((w3.alloc (.cells #[.int .i64 x.1,.int .i64 x.2.1,.int .i64 x.2.2] 45)).alloc (.cells #[.int .i64 x.1,.int .i64 x.2.1,.int .i64 x.2.2,.slice none 0 0] 82)):=(Ext.of (by repeat' (first | with_reducible(first|exact Qx _ _|apply Kept.drew|apply Kept.drewN|apply Qz|refine Qy ?_ ?_ _)|exact fun h=>absurd h (by simp <;> omega))))
   have HT3:=Zac (Zdp ((w3.alloc (.cells #[.int .i64 x.1,.int .i64 x.2.1,.int .i64 x.2.2] 45)).alloc (.cells #[.int .i64 x.1,.int .i64 x.2.1,.int .i64 x.2.2,.slice none 0 0] 82)) B b ra rl rc (hR3.ext hE3) 3 ⟨by omega,by omega⟩)
   have HE3:=Zac hE3
   clear hK3 hR3 HA hxp hx HK2 hE3
   go_wp2_with fail
   refine HT3.out.mono ?_
   rintro e w4 ⟨kk,hkk,rfl,hK4,hR4⟩
   have hbx:w4.heap[w3.heap.size+1]?=some (.cells #[.int .i64 x.1,.int .i64 x.2.1,.int .i64 x.2.2,.slice none 0 0] 82 (0,0)):=by
    have:=hK4.block (w3.heap.size+1) (by simp) (fun e=>by have e:w3.heap.size+1=b:=e; omega)
    rw [this]
    have:=heap_alloc_new (w3.alloc (.cells #[.int .i64 x.1,.int .i64 x.2.1,.int .i64 x.2.2] 45)) (.cells #[.int .i64 x.1,.int .i64 x.2.1,.int .i64 x.2.2,.slice none 0 0] 82)
    simpa using this
   have hs4:w3.heap.size+2≤w4.heap.size:=by
    have:=hK4.size
    simpa using this
   have HK4:Hid (Kept (only b) wr w4):=(HK3.out.trans (Zrb HE3.out)).trans hK4
   have HR4:=Zac hR4
   have Hbx:=Zac hbx
   clear hK4 hR4 HT3 HK3 HE3 hbx
   obtain ⟨wo,hwo⟩:∃ wo,wo=wr:=⟨_,rfl⟩
   subst hwo
   go_wp2
   go_loopw [10] (fun j u=>∃ (m:Nat) (y:List At3) (a':Option Addr) (c':Nat),m=y.length∧j = .int .i64 m∧y.length≤kk∧u.heap[w3.heap.size+1]?=some (.cells #[.int .i64 x.1,.int .i64 x.2.1,.int .i64 x.2.2,.slice a' y.length c'] 82 (0,0))∧u.ownsRow w4.heap.size 45 3 (.slice a' y.length c') y.length (y.flatMap atC)∧(∀ z ∈ y,AtOk z)∧Kept (fun i=>i=b∨i=w3.heap.size+1) w4 u∧RawIn u B b ra rl rc) (fun j _=>kk - (intOf j).toNat)
   case atStart=>exact ⟨0,[],none,0,rfl,rfl,Qm _,Hbx.out,World.ownsRow_nil _ _ _ _,by simp,Qx _ _,HR4.out⟩
   case round =>
    obtain ⟨m,y,a',c',hmy,rfl,hyk,hbox,hrow,hok,hKi,hRi⟩:=hrel
    have Hrow:=Zac hrow
    have Hok:=Zac hok
    have HKi:=Zac hKi
    have Hmy:=Zac hmy
    have Hbox:=Zac hbox
    have hs5:=hKi.size
    clear hrow hok hKi
    by_cases hlt2:m<kk
    ·have HT4:=Zac (Zdp wr B b ra rl rc hRi 3 ⟨by omega,by omega⟩)
     clear hRi hmy hbox
     go_wp2_with fail
     refine HT4.out.mono ?_
     rintro e w5 ⟨p',hp',rfl,hK5,hR5⟩
     have HA2:=Zac (Zng w5 B b ra rl rc hR5 p' hp')
     have HK5:=Zac hK5
     clear hK5 hR5 HT4
     go_wp2_with fail
     refine HA2.out.mono ?_
     rintro e w6 ⟨z,hz,hzp,rfl,hK6,hR6⟩
     have HK6:Hid (Kept (only b) wr w6):=HK5.out.trans hK6
     have hs6:=HK6.out.size
     have Hz:=Zac hz
     obtain ⟨U,hU⟩:∃ U,U=w6.alloc (.cells #[.int .i64 z.1,.int .i64 z.2.1,.int .i64 z.2.2] 45):=⟨_,rfl⟩
     have hEU:Ext w6 U:=by rw [hU]; exact (Ext.of (by repeat' (first | with_reducible(first|exact Qx _ _|apply Kept.drew|apply Kept.drewN|apply Qz|refine Qy ?_ ?_ _)|exact fun h=>absurd h (by simp <;> omega))))
     have hb6:w6.heap[w3.heap.size+1]?=some (.cells #[.int .i64 x.1,.int .i64 x.2.1,.int .i64 x.2.2,.slice a' y.length c'] 82 (0,0)):=(HK6.out.block _ (by omega) (fun e=>by have e:w3.heap.size+1=b:=e; omega)).trans Hbox.out
     have HbU:Hid (U.heap[w3.heap.size+1]?=some (.cells #[.int .i64 x.1,.int .i64 x.2.1,.int .i64 x.2.2,.slice a' y.length c'] 82 (0,0))):=(hEU.block _ (Zab hb6)).trans hb6
     have d3:=Zaa hb6 3 _ rfl
     have dl:=Zab hb6
     have df:=fun i=>Zad hb6 i
     have HrU:Hid (U.ownsRow w4.heap.size 45 3 (.slice a' y.length c') y.length (y.flatMap atC)):=Zai Hrow.out (fun j hj=>(hEU.block j (by have:=(Hrow.out.lt j hj).2; omega)).trans (HK6.out.block j (Hrow.out.lt j hj).2 (fun e=>by have e:j=b:=e; have:=(Hrow.out.lt j hj).1; omega)))
     have HRU:=Zac (hR6.ext hEU)
     have hsU:=hEU.size
     have HU:=Zac hU
     have HEU:=Zac hEU
     clear hK6 hR6 hEU HA2 hzp hz hb6 HK5
     go_wp2_with (at_builtin; rw [← HU.out]; go_loud (refine Zal U rfl (.tmp 41) (.tmp 43) 31 rfl w4.heap.size 45 Tryz.infoAtom Tryz.underlying31 rfl (by decide) (.slice a' y.length c') y.length (y.flatMap atC) rfl HrU.out #[.int .i64 z.1,.int .i64 z.2.1,.int .i64 z.2.2] rfl (by rw [HU.out]; simp) rfl (by simp [Value.oneCell']) ?_ ?_ ?_))
     ·omega
     ·omega
     intro v7 w7 hA7
     rw [← HU.out] at hA7
     obtain ⟨a7,c7,rfl⟩:=Zae hA7.owns
     have hb7:w7.heap[w3.heap.size+1]?=some (.cells #[.int .i64 x.1,.int .i64 x.2.1,.int .i64 x.2.2,.slice a' y.length c'] 82 (0,0)):=(hA7.kept.block _ (Zab HbU.out) (fun e=>by have:=(HrU.out.lt _ e).1; omega)).trans HbU.out
     have e3:=Zaa hb7 3 _ rfl
     have el:=Zab hb7
     have ef:=fun i=>Zad hb7 i
     have Hb7:=Zac hb7
     have HA7:=Zac hA7
     clear hA7 hb7 d3 dl df
     have Hend:Hid (∀ u:Value,u = .slice a7 (y.length+1) c7→∀ Z,Z=w7.setCell ⟨w3.heap.size+1,3,none⟩ u→Z.heap[w3.heap.size+1]?=some (.cells #[.int .i64 x.1,.int .i64 x.2.1,.int .i64 x.2.2,.slice a7 (y++[z]).length c7] 82 (0,0))∧Z.ownsRow w4.heap.size 45 3 (.slice a7 (y++[z]).length c7) (y++[z]).length ((y++[z]).flatMap atC)∧Kept (fun i=>i=b∨i=w3.heap.size+1) w4 Z∧RawIn Z B b ra rl rc):=fun u hu Z hZ=>by
      have hKz:Kept (fun i=>i=w3.heap.size+1) w7 Z:=by rw [hZ]; exact Qy (S:=fun i=>i=w3.heap.size+1) (p:=⟨w3.heap.size+1,3,none⟩) (Qx _ _) (fun _=>(rfl:w3.heap.size+1=w3.heap.size+1)) u
      have hrow7:w7.ownsRow w4.heap.size 45 3 (.slice a7 (y++[z]).length c7) (y++[z]).length ((y++[z]).flatMap atC):=by simpa [atC] using HA7.out.owns
      have hRI7:RawIn w7 B b ra rl rc:=HRU.out.keep (S:=Zbn (.slice a' y.length c')) HA7.out.kept (fun e=>by have:=(HrU.out.lt b e).1; omega) (fun j e=>by have:=(HrU.out.lt j e).1; omega)
      refine ⟨?_,Zai hrow7 (fun j hj=>hKz.block j (hrow7.lt j hj).2 (fun e=>by have:=(hrow7.lt j hj).1; omega)),?_,hRI7.keep hKz (fun e=>by omega) (fun j e=>by omega)⟩
      ·rw [hZ,hu]
       have:=Zaf Hb7.out 3 (.slice a7 (y.length+1) c7)
       simpa using this
      ·exact ((((HKi.out.then HK6.out (fun i hi e=>Or.inl e)).trans (Zrb HEU.out)).then HA7.out.kept (fun i hi e=>by have:=(HrU.out.lt i e).1; omega))).then hKz (fun i hi e=>Or.inr e)
     clear HA7 Hb7
     go_wp2
     go_roundw
     case rel =>
      obtain ⟨f1,f2,f3,f4⟩:=Hend.out _ rfl _ rfl
      refine ⟨m+1,y++[z],a7,c7,by simp [Hmy.out],by go_num,by have:=Hmy.out; simp; omega,f1,f2,fun q hq => ?_,f3,f4⟩
      rcases Qk.1 hq with hq | hq
      ·exact Hok.out q hq
      ·simp at hq
       subst hq
       exact Hz.out
     case measure=>simp [intOf]; omega
    ·have hb0:=Zaa hbox 0 _ rfl
     have hb1:=Zaa hbox 1 _ rfl
     have hb2:=Zaa hbox 2 _ rfl
     have hb3:=Zaa hbox 3 _ rfl
     have hbl2:=Zab hbox
     have hbf:=fun i=>Zad hbox i
     have hrls2:RlsAt wr w.heap.size (.slice a R.length c) R xs:=Hrls.out.keep (fun i h1 h2=>by
      have e1:=HK4.out.block i h2 (fun e=>by have e:i=b:=e; omega)
      have e2:=HKi.out.block i (by omega) (fun e=>by omega)
      rw [e2,e1])
     have Hrls2:=Zac hrls2
     have HRi:=Zac hRi
     have hRl:R.length≤8:=by omega
     clear hrls2 hRi hbox hmy
     go_wp2_with (at_builtin; go_loud (refine Zal wr rfl (.tmp 46) (.tmp 48) 29 rfl w.heap.size 82 Tryz.infoRule Tryz.underlying29 rfl (by decide) (.slice a R.length c) R.length xs rfl Hrls2.out.owns #[.int .i64 x.1,.int .i64 x.2.1,.int .i64 x.2.2,.slice a' y.length c'] (N:=wr.heap.size) rfl (by simp) rfl (by simp [Value.oneCell']) ?_ ?_ ?_))
     ·omega
     ·omega
     intro v8 w8 hA8
     have Hend:Hid (∃ a8 c8,v8 = .slice a8 (R++[(x,y)]).length c8∧RlsAt w8 w.heap.size (.slice a8 (R++[(x,y)]).length c8) (R++[(x,y)]) (xs++[.int .i64 x.1,.int .i64 x.2.1,.int .i64 x.2.2,.slice a' y.length c'])∧Kept (only b) w w8∧RawIn w8 B b ra rl rc):=by
      have hm:=Hrls2.out.more (x:=(x,y)) (Zbe Hrow.out (by omega)) ⟨Hx.out,Hok.out,by simp only; omega⟩ hA8
      obtain ⟨a8,c8,e8⟩:=Zae hm.owns
      refine ⟨a8,c8,e8,e8 ▸ hm,?_,HRi.out.keep (S:=Zbn (.slice a R.length c)) hA8.kept (fun e=>by have:=(Hrls2.out.owns.lt b e).1; omega) (fun j e=>by have:=(Hrls2.out.owns.lt j e).1; omega)⟩
      exact ((HKu.out.trans HK4.out).then HKi.out (fun i hi e=>by rcases e with e | e; exact e; omega)).then hA8.kept (fun i hi e=>by have:=(Hrls2.out.owns.lt i e).1; omega)
     clear hA8 hb0 hb1 hb2 hb3 hbl2 hbf
     go_wp2
     go_roundw
     case rel =>
      obtain ⟨a8,c8,e8,f1,f2,f3⟩:=Hend.out
      exact ⟨k+1,a8,c8,R++[(x,y)],_,by simp [HkR.out],by have:=HkR.out; simp; omega,by go_num,e8,f1,f2,f3⟩
     case measure=>simp [intOf]; omega
  ·have HRu:=Zac hRu
   clear hRu hkR
   go_wp2
   go_ret
   exact ⟨a,c,R,xs,by have:=HkR.out; omega,by omega,rfl,Hrls.out,HKu.out,HRu.out⟩
theorem Yow (l:List UInt8):(⟨l.toArray⟩:ByteArray).size=l.length:=by simp [ByteArray.size]
theorem Ybz {R:List (At3 × List At3)} (h:∀ r ∈ R,RlOk r):∀ c ∈ R.map rlG,ClFine c∧c.1.hd≠Zgk:=fun c hc=>by
 refine ⟨Zpz h c hc,?_⟩
 obtain ⟨y,hy,rfl⟩:=List.mem_map.1 hc
 show [symP y.1.1]≠Zgk
 intro e
 have:=congrArg List.length e
 simp [Zgk] at this
set_option maxHeartbeats 8000000 in
theorem Yca (w:World) (ra:Option Addr) (rl rc:Nat) (X:ByteArray) (hX:X.size≤maxLen) (hlen:rl≤9223372036854775807) (hraw:∀ i,i<rl→∃ (k off:Nat) (c:Int),ra=some ⟨k,off,none⟩∧k<w.heap.size∧w.cell? ⟨k,off+i,none⟩=some (.int .i64 c) ∧ -9223372036854775808≤c∧c<9223372036854775808) :
  Calls Tryz.prog 10 #[.slice ra rl rc,.string X] w fun e w'=>e = .returned (.bool true)∧Ext w w':=by
 have hE0:Ext w (w.alloc (.cells #[.slice ra rl rc,.int .i64 0] 28)):=(Ext.of (by repeat' (first | with_reducible(first|exact Qx _ _|apply Kept.drew|apply Kept.drewN|apply Qz|refine Qy ?_ ?_ _)|exact fun h=>absurd h (by simp <;> omega))))
 have HR:Hid (RawIn (w.alloc (.cells #[.slice ra rl rc,.int .i64 0] 28)) w.heap.size w.heap.size ra rl rc):=⟨0,Qe _,heap_alloc_new w _,Qm _,hlen,fun i hi=>by
  obtain ⟨k,off,c,h1,h2,h3,h4⟩:=hraw i hi
  exact ⟨k,off,c,h1,h2,(hE0.cell (p:=⟨k,off+i,none⟩) h2).trans h3,h4⟩⟩
 have HA:=Zac (Zrx _ w.heap.size w.heap.size ra rl rc HR.out)
 have HE0:=Zac hE0
 have HX:=Zac hX
 clear hraw hE0 hlen hX
 go_enter Tryz.func10,Tryz.ntmps10
 go_wp2_with fail
 refine HA.out.mono ?_
 rintro e w1 ⟨a1,c1,R,xs,hR1,hR8,rfl,hrls,hK1,hRw1⟩
 have HF:=Zac (Yii w1 w.heap.size w.heap.size ra rl rc hRw1)
 have HE1:Hid (Ext w w1):=HE0.out.trans (hK1.below (by simp) (fun k e=>by have e:k=w.heap.size:=e; omega))
 have Hrls:=Zac hrls
 clear hK1 hRw1 HA hrls HR HE0
 go_wp2_with fail
 refine HF.out.mono ?_
 rintro e w2 ⟨a2,c2,l,hl1,hl2,rfl,hat,hge2,hK2,hRw2⟩
 have HE2:Hid (Ext w w2):=HE1.out.trans (hK2.below HE1.out.size (fun k e=>by have e:k=w.heap.size:=e; omega))
 have hrls2:=Hrls.out.keep (u':=w2) (fun k h1 h2=>hK2.block k h2 (fun e=>by have e:k=w.heap.size:=e; simp at h1; omega))
 have hrules:RulesIn w2 (.slice a1 R.length c1) R xs:=hrls2.rules
 have HRt:=Zac (Zrc w2 a1 c1 R xs hrules (by omega))
 have hok:=hrls2.ok
 have hplen:=Zul R hok
 have HSu:Hid (∀ u,Calls Tryz.prog 18 #[.string ⟨(Zby (R.map rlG)).toArray⟩,.int .i64 R.length] u fun e w'=>e = .returned (.bool true)∧Ext u w'):=fun u=>by
  have:=Yko (R.map rlG) (Ybz hok) (by simp; omega) (by omega) u
  rw [Ql] at this
  exact this
 have HS:=Zac (Zwt hok hR8 hat.ok hl1 hl2 X)
 have HLt:Hid (∀ u,Ext w2 u→Calls Tryz.prog 17 #[.slice a2 l.length c2] u fun e w'=>e = .returned (.string ⟨(Zeq (l.map atG)++[46]).toArray⟩)∧Ext u w'):=fun u hu=>Zlu u a2 c2 l (hat.ext hu) (by omega)
 have HFo:Hid (∀ u,Ext w2 u→Calls Tryz.prog 20 #[.slice a1 R.length c1] u fun e w'=>e = .returned (.pointer (some ⟨u.heap.size,0,none⟩))∧ModelIn w' u.heap.size (Zfo R)∧Ext u w'):=fun u hu=>Zvp u a1 c1 R xs (hrules.ext hu) (by omega)
 have HFs:Hid (∀ u b bs,Ext w2 u→ModelIn u b (Zfo R)→bs.length=(askV l).length→(∀ n,n<27→Zuj n (askV l) bs→hAll (Zfo R) n l=true)→Calls Tryz.prog 21 #[.pointer (some ⟨b,0,none⟩),.slice a2 l.length c2,.string ⟨(Zoo (askV l) bs).toArray⟩] u fun e w'=>e = .returned (.bool true)∧Ext u w'):=fun u b bs hu hm hb hall=>Zwv u b (Zfo R) hm a2 c2 l (hat.ext hu) hl2 bs hb hall
 have hjl:=Zkf l
 obtain ⟨SP,hSP⟩:∃ SP:ByteArray,SP=⟨(Zby (R.map rlG)).toArray⟩:=⟨_,rfl⟩
 obtain ⟨SQ,hSQ⟩:∃ SQ:ByteArray,SQ=⟨(Zeq (l.map atG)++[46]).toArray⟩:=⟨_,rfl⟩
 rw [← hSP] at HRt HSu HS
 rw [← hSQ] at HS HLt
 have HYs:Hid (∀ u,Calls Tryz.prog 19 #[.string SP,.string SQ,.string X] u fun e w'=>e = .returned (.tuple #[.string ⟨(yesN SP SQ X).1.toArray⟩,.int .i64 (yesN SP SQ X).2.1,.int .i64 (yesN SP SQ X).2.2])∧Ext u w'):=fun u=>by
  refine Zyn SP SQ X u ?_ ?_ HX.out
  ·rw [hSP,Yow]
   unfold maxLen
   omega
  ·rw [hSQ,Yow]
   unfold maxLen
   simp
   omega
 clear hat hge2 hK2 hRw2 hrls2 hrules hok hplen hjl hSP hSQ HF Hrls
 go_wp2_with fail
 refine HRt.out.mono ?_
 rintro e w3 ⟨rfl,hE3⟩
 have HE3:=Zac hE3
 clear hE3 HRt
 go_wp2_with fail
 refine (HLt.out w3 HE3.out).mono ?_
 rintro e w4 ⟨rfl,hE4⟩
 have HE4:Hid (Ext w2 w4):=Zaw HE3.out hE4
 clear hE4 HLt
 go_wp2_with fail
 refine (HSu.out w4).mono ?_
 rintro e w5 ⟨rfl,hE5⟩
 have HE5:Hid (Ext w2 w5):=Zaw HE4.out hE5
 clear hE5 HSu
 go_wp2_with fail
 refine (HYs.out w5).mono ?_
 rintro e w6 ⟨rfl,hE6⟩
 have HE6:Hid (Ext w2 w6):=Zaw HE5.out hE6
 clear hE6 HYs
 obtain ⟨ys,hys⟩:∃ ys,ys=(yesN SP SQ X).1:=⟨_,rfl⟩
 obtain ⟨ye,hye⟩:∃ ye,ye=(yesN SP SQ X).2.1:=⟨_,rfl⟩
 obtain ⟨yp,hyp⟩:∃ yp,yp=(yesN SP SQ X).2.2:=⟨_,rfl⟩
 rw [← hys,← hye] at HS
 rw [← hys,← hye,← hyp]
 clear hys hye hyp
 rcases HS.out with ⟨n0,rfl,h167⟩ | ⟨rfl,bs,hbl,rfl,hall⟩
 ·have Hfin:Hid (Ext w w6):=Zaw HE2.out HE6.out
  rcases h167 with rfl | rfl | rfl
  all_goals
   go_wp2
   go_ret
   exact ⟨rfl,Hfin.out⟩
 ·have Hbl:=Zac hbl
  have Hall:=Zac hall
  clear hbl hall
  go_wp2_with fail
  refine (HFo.out w6 HE6.out).mono ?_
  rintro e w7 ⟨rfl,hM7,hE7⟩
  have HE7:Hid (Ext w2 w7):=Zaw HE6.out hE7
  have HM7:=Zac hM7
  clear hM7 hE7
  go_wp2_with fail
  refine (HFs.out w7 _ bs HE7.out HM7.out Hbl.out Hall.out).mono ?_
  rintro e w8 ⟨rfl,hE8⟩
  have Hfin:Hid (Ext w w8):=Zaw HE2.out (Zaw HE7.out hE8)
  clear hE8
  go_wp2
  go_ret
  exact ⟨rfl,Hfin.out⟩
end Go.Proofs.YtlmjilpjmgjjcaaGreatDoor
namespace Go.Proofs.YtlmjilpjmgjjcaaGreatDoor
open Go.ChangeShapes Go.WideShapes Go.ChangeAt Go.WideMaps Go.WideElems Go.RowKit
theorem own_k:ownKnob Tryz.prog.godebug=none:=by kernel_rfl
theorem Zur:laidOutB Tryz.prog=true:=by kernel_rfl
theorem Ycb:Tryz.prog.cellsOf 3=1:=by kernel_rfl
theorem Yox {W:World} {a:Addr} {j:Nat} {v:Value} (h:W.cell? (a.add j)=some v) (hs:a.spot=none):W.cell? ⟨a.block,a.off+j,none⟩=some v:=by
 have e:a.add j=⟨a.block,a.off+j,none⟩:=by
  unfold Addr.add
  obtain ⟨b,o,s⟩:=a
  simp only at hs
  subst hs
  split
  ·rename_i h0; subst h0; rfl
  ·rfl
 rwa [e] at h
theorem Yoy {W:World} {a:Addr} {v:Value} (h:W.cell? a=some v):a.spot=none:=by
 unfold World.cell? at h
 split at h
 ·split at h
  ·cases h
  ·rename_i h1; cases hs:a.spot with
   | none=>rfl
   | some _=>rw [hs] at h1; simp at h1
 ·cases h
theorem Ynp {H:Type} {enc:TypeId × Value→H} {W:World} {a0:Option Addr} {len cap:Nat} {d:DataW H} {ps:List MemPlace}
  (h:DataW.Trod enc Tryz.prog W 0 (fun _=>true) true 25 (.slice a0 len cap) d ps):len≤9223372036854775807∧∀ i,i<len→∃ (k off:Nat) (c:Int),a0=some ⟨k,off,none⟩∧k<W.heap.size∧W.cell? ⟨k,off+i,none⟩=some (.int .i64 c) ∧ -9223372036854775808≤c∧c<9223372036854775808:=by
 obtain ⟨fuel,hf⟩:=h
 rcases Deep.open_slice1 Tryz.underlying25 Ycb hf with ⟨hcs,_⟩ | ⟨a,l,c,m,n,V,D,Pl,hcs,_,hl,hm,hmm,_,hall⟩
 ·simp [Value.cells] at hcs
  obtain ⟨rfl,rfl,rfl⟩:=hcs
  exact ⟨by omega,fun k hk=>absurd hk (by omega)⟩
 ·simp [Value.cells] at hcs
  obtain ⟨rfl,rfl,rfl⟩:=hcs
  simp only [maxLen] at hm
  refine ⟨by omega,fun i hi => ?_⟩
  obtain ⟨hc,ht⟩:=hall i (by rw [hmm]; simp; omega)
  obtain ⟨z,h1,_,h3⟩:=DataW.trod_int Tryz.underlying3 ht
  simp at h1
  rw [h1] at hc
  have hsp:a.spot=none:=by
   obtain ⟨hc0,_⟩:=hall 0 (by rw [hmm]; simp; omega)
   have:=Yoy hc0
   simpa [Addr.add] using this
  have hblk:a.block<W.heap.size:=by
   obtain ⟨hc0,_⟩:=hall 0 (by rw [hmm]; simp; omega)
   have:=World.block_lt_of_cell? W _ hc0
   simpa [Addr.add] using this
  have h4:(decide (IntKind.min .i64≤z) && decide (z≤IntKind.max .i64))=true:=h3
  rw [Bool.and_eq_true,decide_eq_true_eq,decide_eq_true_eq,show IntKind.min .i64 = -9223372036854775808 from rfl,show IntKind.max .i64=9223372036854775807 from rfl] at h4
  refine ⟨a.block,a.off,z,?_,hblk,Yox hc hsp,by omega,by omega⟩
  obtain ⟨b,o,sp⟩:=a
  simp only at hsp
  subst hsp
  rfl
set_option maxRecDepth 100000 in
theorem Yoz {H:Type} {enc:TypeId × Value→H} {W:World} {base:Nat} {v:Value} {d:DataW H} {ps:List MemPlace} (hval:Value.okWide Tryz.prog W .any base 9 v) (h:DataW.Trod enc Tryz.prog W 0 (fun _=>true) true 9 v d ps):∃ s:ByteArray,v = .string s∧s.size≤maxLen:=by
 obtain ⟨s,e,_,_,hs⟩:=Go.ChangeMaps.open_string Tryz.underlying9 hval h
 exact ⟨s,e,hs⟩
theorem Ycc (os:Os) (args:Array Value):laidMetH Tryz.prog Rows.soundRow.laid ((World.doorLaid Tryz.prog 400 os).forCall (fun _ _=>0) ⟨#[],args,[]⟩).memory :=
 laidMetH_of_parts3 (fuel:=8) (laidMet_of_run' 8 (by kernel_rfl) (by kernel_rfl)) (by kernel_rfl) (by kernel_rfl)
set_option maxRecDepth 100000 in
theorem Zus (os:Os) (started:os.Started) (H:Type) (enc:TypeId × Value→H) :
  ReturnsInHanded {} Tryz.checked os 10 .any (fun w args=>(Rows.soundSpec.pre enc Tryz.prog Tryz.f10 [] false w args∧laidMetH Tryz.prog Rows.soundRow.laid w)∧sizedMet enc Tryz.prog Tryz.f10 (OpenSpec.ofChange Rows.soundSpec) false w args)
   (Rows.soundSpec.post enc Tryz.prog Tryz.f10 false true false false):=by
 refine returnsInHanded_of_change_and (C:=Tryz.checked) (X:=fun w _=>laidMetH Tryz.prog Rows.soundRow.laid w) (fun _ _ _ hh h=>h.of_heap hh) own_k started (by kernel_rfl) Tryz.func10
  (ChangeSpec.witness_shaped (enc:=enc) (C:=Tryz.checked) (os:=os) (X:=fun w _=>laidMetH Tryz.prog Rows.soundRow.laid w) false (World.doorLaid Tryz.prog 400 os) #[.slice none 0 0,.string ⟨#[]⟩] 8 rfl (World.shaped_of_RefB (by kernel_rfl) (by kernel_rfl)) (by kernel_rfl) (by kernel_rfl) (by kernel_rfl) (Ycc os _)) ?_
 intro W base args ds gs before hval0 hW _ _ hL _
 have hval:∀ (j:Nat) t v,Tryz.f10.params[j]?=some t→args[j]?=some v→Value.okWide Tryz.prog W .any base t v:=hval0
 have hW':=hW
 obtain ⟨p,q,hA0,hV,rfl,hfz,hnd⟩:=hW
 have hA:DataW.TrodAll enc Tryz.prog W 0 (fun _=>true) true Tryz.f10.params.toList args.toList ds p:=hA0
 rw [Tryz.params10] at hA hval
 obtain ⟨v0,v1,d0,d1,p0,p1,rfl,rfl,rfl,h0,h1⟩:=trodAll_two hA
 obtain ⟨rfl,rfl⟩:=trodVars_none hV
 have lt0:∀ x ∈ p0,x.block<W.heap.size:=by obtain ⟨m,hm⟩:=h0; exact DataW.trod_lt m _ _ _ hm
 have lt1:∀ x ∈ p1,x.block<W.heap.size:=by obtain ⟨m,hm⟩:=h1; exact DataW.trod_lt m _ _ _ hm
 obtain ⟨a0,len0,cap0,rfl⟩:=okWide_slice Tryz.underlying25 (hval 0 25 v0 rfl rfl)
 obtain ⟨n1,rfl,hb1⟩:=Yoz (hval 1 9 v1 rfl rfl) h1
 obtain ⟨hlen,hints⟩:=Ynp h0
 clear hA0 hval0
 refine (Yca W a0 len0 cap0 n1 hb1 hlen hints).mono fun e W' ⟨he,bel⟩ => ?_
 subst he
 exact ⟨_,rfl,_,_,_,[],_,[],hW',trodAll_mk1 (shut_bool Tryz.underlying4 _),trodAll_mk2 (Below.trod Zur (by kernel_rfl) (of_decide_eq_true (by kernel_rfl)) h0 bel lt0) (Below.trod Zur (by kernel_rfl) (of_decide_eq_true (by kernel_rfl)) h1 bel lt1),rfl,bel.frame _,fun h=>by cases h⟩
theorem Yhh:Rows.SoundSaid :=
 OpenClaim.holds_of_wide 10 Tryz.f10 rfl rfl rfl rfl rfl rfl rfl ⟨rfl,rfl,rfl,rfl,rfl⟩ rfl rfl rfl rfl rfl (by kernel_rfl) Tryz.func10 (by kernel_rfl)
  (of_decide_eq_true (by kernel_rfl)) (by unfold Func.isWrapper; first | (rw [if_pos (by decide +kernel)]; kernel_rfl) | (rw [if_neg (by decide +kernel)]; exact ⟨rfl,rfl⟩))
  (fun os started H enc _=>Zus os started H enc)
theorem sound_hold:Rows.SoundCardSaid :=
 Claim7.holds_tied_plain_at .later [] [.data,.data,.data] true Rows.soundCard.stood.harness false
  Yhh (fun _ h=>by cases h) (by kernel_rfl) (fun _ h=>by cases h) sound_row_tie rfl ⟨rfl,rfl⟩ (by kernel_rfl) rfl
  (fun f fn hf hfn=>by
   obtain rfl:f=10:=Option.some.inj ((show Tryz.prog.funcNamed Tryz.f10.name=some 10 by kernel_rfl).symm.trans hf) |>.symm
   obtain rfl:fn=Tryz.f10:=(Option.some.inj (Tryz.func10.symm.trans hfn)).symm
   exact ⟨by kernel_rfl,fun j t ht=>by
    rw [Tryz.params10] at ht
    have hm:t ∈ [25,9]:=by simpa using Array.mem_of_getElem? ht
    have hall:([25,9].all fun u => !Tryz.prog.wantsStandIn u)=true:=by kernel_rfl
    exact (show Tryz.prog.wantsStandIn t=false by simpa using List.all_eq_true.1 hall t hm)⟩)
  (by kernel_rfl)
end Go.Proofs.YtlmjilpjmgjjcaaGreatDoor
