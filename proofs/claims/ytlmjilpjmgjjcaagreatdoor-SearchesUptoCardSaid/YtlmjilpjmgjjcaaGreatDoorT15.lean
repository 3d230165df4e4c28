/-
  PROVED HERE: the given card of the law 'Searches' in its second form: where what it reads is of bulk at most 1048576.
-/
import Derived.Test.YtlmjilpjmgjjcaaGreatDoorT14
import Derived.Deep.DeepHandedRow
set_option linter.unusedSimpArgs false
set_option linter.unusedVariables false
set_option maxRecDepth 20000
set_option maxHeartbeats 16000000
namespace Go.Proofs.YtlmjilpjmgjjcaaGreatDoor
open Go.RowKit
structure LawMid (w:World) (B bW:Nat) (es:List Ent) (la:Option Addr) (lc k:Nat) (e:Ent) (x1:CX) (m1:SN):Prop where
 box:w.heap[bW]?=some (.cells #[.slice la es.length lc,.slice none 0 0,.slice none 0 0] 76 (0,0))
 row:w.ownsRow B 156 12 (.slice la es.length lc) es.length (Zep es)
 rest:∀ (i:Nat) (f:Ent),i≠k->es[i]?=some f->EntOk w B f
 apart0:∀ (i j:Nat) (f g:Ent),i≠j->es[i]?=some f->es[j]?=some g->∀ l,ownS f.b f.x l->¬ ownS g.b g.x l
 code:CSr w e.b x1 e.cs e.a m1
 ref:SRefN w e.s e.cs e.a e.D e.m
 low:∀ l,ownS e.b x1 l->B<=l
 apart:∀ (i:Nat) (f:Ent),i≠k->es[i]?=some f->∀ l,ownS f.b f.x l->¬ ownS e.b x1 l
theorem LawMid.ext {w w':World} {B bW:Nat} {es:List Ent} {la:Option Addr} {lc k:Nat} {e:Ent} {x1:CX} {m1:SN} (h:LawMid w B bW es la lc k e x1 m1) (hE:Ext w w'):LawMid w' B bW es la lc k e x1 m1 :=
 ⟨(hE.block _ (Zac h.box)).trans h.box,Zan h.row (fun j hj=>hE.block j (h.row.lt j hj).2),fun i f hi hf=>(h.rest i f hi hf).ext hE,h.apart0,h.code.ext hE,h.ref.ext hE,h.low,h.apart⟩
theorem LawAt.mid {w w':World} {B bW:Nat} {es:List Ent} {la:Option Addr} {lc k:Nat} {e:Ent} {x1:CX} {m1:SN} (h:LawAt w B bW es la lc) (hk:es[k]?=some e) (hB:B<=w.heap.size) (hK:Kept (ownS e.b e.x) w w') (hC:CSr w' e.b x1 e.cs e.a m1) (hN:Ziq w e.x x1):Below B w w'/\LawMid w' B bW es la lc k e x1 m1:=by
 have he:=h.all k e hk;have hR:OffRef (ownS e.b e.x) w:=fun l hl=>by
  obtain ⟨cl,t,fr,h1,h2⟩:=he.code.own_ty hl;exact ⟨cl,t,fr,h1,by rcases h2 with rfl | rfl <;> simp [Znp]⟩
 have hCd:=he.code.offS;have hty:∀ {l:Nat} {cl:Array Value} {t:TypeId} {fr:Nat × Nat},w.heap[l]?=some (.cells cl t fr)->Ydk t->¬ ownS e.b e.x l:=fun {l cl t fr} h1 h2 ho=>by
  obtain ⟨cl',t',fr',h3,h4⟩:=he.code.own_ty ho;rw [h1] at h3;simp at h3;obtain ⟨_,rfl,_⟩:=h3;rcases h2 with rfl | rfl <;> simp at h4
 refine ⟨hK.below hB (fun l hl=>he.low l hl),(hK.block _ (Zac h.box) (hty h.box (Or.inl rfl))).trans h.box,Zan h.row (fun j hj=>hK.block j (h.row.lt j hj).2 ?_),fun i f hi hf => ?_,h.apart,hC,he.ref.keep hK hR,fun l hl => ?_,fun i f hi hf l hl hl2 => ?_⟩
 ·rcases h.row.2 with ⟨e,_⟩ | ⟨g,cap,cur,e,_,hg,_⟩
  ·rw [e] at hj; simp [Value.ownBlock] at hj
  ·rw [e] at hj;simp [Value.ownBlock] at hj;subst hj;exact hty hg (Or.inr rfl)
 ·exact (h.all i f hf).keep hK hR hCd (fun l hl hl2=>h.apart i k f e hi hf hk l hl hl2)
 ·rcases hl with rfl | hl
  ·exact he.low _ (Or.inl rfl)
  ·rcases hN l hl with h1 | h1
   ·exact he.low l (Or.inr h1)
   ·omega
 ·have hlt:=(h.all i f hf).code.own_lt hl;rcases hl2 with rfl | hl2
  ·exact h.apart i k f e hi hf hk _ hl (Or.inl rfl)
  ·rcases hN l hl2 with h1 | h1
   ·exact h.apart i k f e hi hf hk l hl (Or.inr h1)
   ·omega
theorem Zzv {w:World} {B:Nat} {e:TypeId} {lb n cap size k:Nat} {xs:List Value} (h:w.ownsRow B e size (.slice (some ⟨lb,0,none⟩) n cap) n xs) (v0 v1 v2 v3 v4 v5 v6 v7 v8 v9 v10:Value):(((((((((((w.setCell ⟨lb,k * 12+1,none⟩ (v0)).setCell ⟨lb,k * 12+2,none⟩ (v1)).setCell ⟨lb,k * 12+3,none⟩ (v2)).setCell ⟨lb,k * 12+4,none⟩ (v3)).setCell ⟨lb,k * 12+5,none⟩ (v4)).setCell ⟨lb,k * 12+6,none⟩ (v5)).setCell ⟨lb,k * 12+7,none⟩ (v6)).setCell ⟨lb,k * 12+8,none⟩ (v7)).setCell ⟨lb,k * 12+9,none⟩ (v8)).setCell ⟨lb,k * 12+10,none⟩ (v9)).setCell ⟨lb,k * 12+11,none⟩ (v10)).ownsRow B e size (.slice (some ⟨lb,0,none⟩) n cap) n (Zpf xs (k * 12+1) [v0,v1,v2,v3,v4,v5,v6,v7,v8,v9,v10])/\Kept (Zas (.slice (some ⟨lb,0,none⟩) n cap)) w (((((((((((w.setCell ⟨lb,k * 12+1,none⟩ (v0)).setCell ⟨lb,k * 12+2,none⟩ (v1)).setCell ⟨lb,k * 12+3,none⟩ (v2)).setCell ⟨lb,k * 12+4,none⟩ (v3)).setCell ⟨lb,k * 12+5,none⟩ (v4)).setCell ⟨lb,k * 12+6,none⟩ (v5)).setCell ⟨lb,k * 12+7,none⟩ (v6)).setCell ⟨lb,k * 12+8,none⟩ (v7)).setCell ⟨lb,k * 12+9,none⟩ (v8)).setCell ⟨lb,k * 12+10,none⟩ (v9)).setCell ⟨lb,k * 12+11,none⟩ (v10)):=by
 have h0:=Zcx h (k * 12+1) v0;have h1:=Zcx h0 (k * 12+2) v1;have h2:=Zcx h1 (k * 12+3) v2;have h3:=Zcx h2 (k * 12+4) v3;have h4:=Zcx h3 (k * 12+5) v4;have h5:=Zcx h4 (k * 12+6) v5;have h6:=Zcx h5 (k * 12+7) v6;have h7:=Zcx h6 (k * 12+8) v7;have h8:=Zcx h7 (k * 12+9) v8;have h9:=Zcx h8 (k * 12+10) v9;have h10:=Zcx h9 (k * 12+11) v10;refine ⟨h10,?_⟩;exact ((((((((((((Kept.refl _ w).setCell (p:=⟨lb,k * 12+1,none⟩) (fun _=>(rfl:some lb=some lb)) v0).setCell (p:=⟨lb,k * 12+2,none⟩) (fun _=>(rfl:some lb=some lb)) v1).setCell (p:=⟨lb,k * 12+3,none⟩) (fun _=>(rfl:some lb=some lb)) v2).setCell (p:=⟨lb,k * 12+4,none⟩) (fun _=>(rfl:some lb=some lb)) v3).setCell (p:=⟨lb,k * 12+5,none⟩) (fun _=>(rfl:some lb=some lb)) v4).setCell (p:=⟨lb,k * 12+6,none⟩) (fun _=>(rfl:some lb=some lb)) v5).setCell (p:=⟨lb,k * 12+7,none⟩) (fun _=>(rfl:some lb=some lb)) v6).setCell (p:=⟨lb,k * 12+8,none⟩) (fun _=>(rfl:some lb=some lb)) v7).setCell (p:=⟨lb,k * 12+9,none⟩) (fun _=>(rfl:some lb=some lb)) v8).setCell (p:=⟨lb,k * 12+10,none⟩) (fun _=>(rfl:some lb=some lb)) v9).setCell (p:=⟨lb,k * 12+11,none⟩) (fun _=>(rfl:some lb=some lb)) v10)
theorem LawMid.fin {w:World} {B bW lb:Nat} {es:List Ent} {lc k:Nat} {e:Ent} {x1:CX} {m1:SN} {s2:SC} {D2:List (ND × Nat)} (h:LawMid w B bW es (some ⟨lb,0,none⟩) lc k e x1 m1) (hk:es[k]?=some e) (hB:B<=w.heap.size) (hp:Zcy e.p=some e.cs) (hq:Zfe e.q=some e.a) (hI:InvN e.cs e.a m1) (hR:SRefN w s2 e.cs e.a D2 m1) {v0 v1 v2 v3 v4 v5 v6 v7 v8 v9 v10:Value} (hv:(s2.cells e.cs.length e.a.1.length e.a.2.length D2.length m1.status m1.tries).toList=[v0,v1,v2,v3,v4,v5,v6,v7,v8,v9,v10]) :
  Below B w (((((((((((w.setCell ⟨lb,k * 12+1,none⟩ (v0)).setCell ⟨lb,k * 12+2,none⟩ (v1)).setCell ⟨lb,k * 12+3,none⟩ (v2)).setCell ⟨lb,k * 12+4,none⟩ (v3)).setCell ⟨lb,k * 12+5,none⟩ (v4)).setCell ⟨lb,k * 12+6,none⟩ (v5)).setCell ⟨lb,k * 12+7,none⟩ (v6)).setCell ⟨lb,k * 12+8,none⟩ (v7)).setCell ⟨lb,k * 12+9,none⟩ (v8)).setCell ⟨lb,k * 12+10,none⟩ (v9)).setCell ⟨lb,k * 12+11,none⟩ (v10))/\LawAt (((((((((((w.setCell ⟨lb,k * 12+1,none⟩ (v0)).setCell ⟨lb,k * 12+2,none⟩ (v1)).setCell ⟨lb,k * 12+3,none⟩ (v2)).setCell ⟨lb,k * 12+4,none⟩ (v3)).setCell ⟨lb,k * 12+5,none⟩ (v4)).setCell ⟨lb,k * 12+6,none⟩ (v5)).setCell ⟨lb,k * 12+7,none⟩ (v6)).setCell ⟨lb,k * 12+8,none⟩ (v7)).setCell ⟨lb,k * 12+9,none⟩ (v8)).setCell ⟨lb,k * 12+10,none⟩ (v9)).setCell ⟨lb,k * 12+11,none⟩ (v10)) B bW (es.set k { e with x:=x1,s:=s2,D:=D2,m:=m1 }) (some ⟨lb,0,none⟩) lc:=by
 obtain ⟨hrow,hK⟩:=Zzv (k:=k) h.row v0 v1 v2 v3 v4 v5 v6 v7 v8 v9 v10;have hS1:∀ l,Zas (.slice (some ⟨lb,0,none⟩) es.length lc) l->∃ cl t fr,w.heap[l]?=some (.cells cl t fr)/\Ydk t:=fun l hj=>by
  rcases h.row.2 with ⟨e,_⟩ | ⟨g,cap,cur,e,_,hg,_⟩
  ·simp at e
  ·rw [Zas,e] at hj;simp [Value.ownBlock] at hj;subst hj;exact ⟨_,_,_,hg,Or.inr rfl⟩
 obtain ⟨o1,o2,o3⟩:=Zvi hS1;have hbW:¬ Zas (.slice (some ⟨lb,0,none⟩) es.length lc) bW:=fun hj=>by
  rcases h.row.2 with ⟨e,_⟩ | ⟨g,cap,cur,e,_,hg,_⟩
  ·simp at e
  ·rw [Zas,e] at hj;simp [Value.ownBlock] at hj;subst hj;rw [h.box] at hg;simp at hg
 have hlen:(es.set k { e with x:=x1,s:=s2,D:=D2,m:=m1 }).length=es.length:=by simp
 have hkl:=(List.getElem?_eq_some_iff.1 hk).1;have get:∀ (i:Nat) (f:Ent),(es.set k { e with x:=x1,s:=s2,D:=D2,m:=m1 })[i]?=some f->(i=k/\f = { e with x:=x1,s:=s2,D:=D2,m:=m1 })\/(i≠k/\es[i]?=some f):=fun i f hf=>by
  by_cases hi:i=k
  ·subst hi;rw [List.getElem?_set_self hkl] at hf;simp at hf;exact Or.inl ⟨rfl,hf.symm⟩
  ·rw [List.getElem?_set_ne (fun h=>hi h.symm)] at hf;exact Or.inr ⟨hi,hf⟩
 refine ⟨hK.below hB (fun l hl=>(h.row.lt l hl).1),?_,?_,?_,?_⟩
 ·rw [hlen]; exact (hK.block bW (Zac h.box) hbW).trans h.box
 ·rw [hlen,Zzt (e' := { e with x:=x1,s:=s2,D:=D2,m:=m1 }) hk rfl];have:(({ e with x:=x1,s:=s2,D:=D2,m:=m1 }:Ent).row.drop 1)=[v0,v1,v2,v3,v4,v5,v6,v7,v8,v9,v10]:=by rw [<- hv]; rfl
  rw [this];exact hrow
 ·intro i f hf;rcases get i f hf with ⟨_,rfl⟩ | ⟨hi,hf⟩
  ·exact ⟨h.code.keep hK o2 (o3 h.code),hR.keep hK o1,hI,hp,hq,h.low⟩
  ·have h1:=h.rest i f hi hf;exact h1.keep hK o1 o2 (o3 h1.code)
 ·intro i j f g hij hf hg l hl;rcases get i f hf with ⟨hi,rfl⟩ | ⟨hi,hf⟩
  ·rcases get j g hg with ⟨hj,rfl⟩ | ⟨hj,hg⟩
   ·omega
   ·exact fun hl2=>h.apart j g hj hg l hl2 hl
  ·rcases get j g hg with ⟨hj,rfl⟩ | ⟨hj,hg⟩
   ·exact h.apart i f hi hf l hl
   ·exact h.apart0 i j f g hij hf hg l hl
theorem LawOut.up {w w0:World} {B bW N N':Nat} {e:Ending} {w':World} (h:LawOut w0 B bW N e w') (hE:Below B w w0) (hN:N<=N'):LawOut w B bW N' e w':=by
 obtain ⟨h1,h2,es,la,lc,h3,h4⟩:=h;exact ⟨h1,hE.trans h2,es,la,lc,by omega,h4⟩
theorem Ydm {W:World} {V:Value->Prop} {vs:List Value} {y:World} (h:OneP W V (fun _ y=>y=W) vs y):y=W:=by
 match vs,h with
 | [],h=>exact h
 | [v],h=>exact h.2
theorem Ztf (w:World) (B bW:Nat) (es:List Ent) (la:Option Addr) (lc:Nat) (h:LawAt w B bW es la lc) (hB:B<=bW) (hlen:es.length<=2000000) (n m:Int) (p q x:ByteArray) (hp:p.size<=maxLen) (hq:q.size<=maxLen) :
  Calls Tryz.prog 62 #[.pointer (some ⟨bW,0,none⟩),.agg #[.int .i64 3,.int .i64 n,.int .i64 m,.string p,.string q,.string x]] w (LawOut w B bW (es.length+1)):=by
 have hbl:=Zac h.box;have HB:=Zaa (Zzu (w.alloc (.cells #[.int .i64 3,.int .i64 n,.int .i64 m,.string p,.string q,.string x] 78)) B bW es la lc (h.ext Mxt) hB hlen 3 n m p q x hp hq);have HBl:Hid (Below B w (w.alloc (.cells #[.int .i64 3,.int .i64 n,.int .i64 m,.string p,.string q,.string x] 78))):=(Below.refl _ w).alloc (by omega) _;clear h hp hq;go_enter Tryz.func62,Tryz.ntmps62;go_wp2_with fail;refine HB.out.mono ?_;rintro e w1 h1;have H1:=Zaa h1;obtain ⟨rfl,_⟩:=h1;go_wp2;go_ret;exact H1.out.up HBl.out (Nat.le_refl _)
theorem Ztg (w:World) (B bW:Nat) (la:Option Addr) (lc:Nat) (h:LawAt w B bW [] la lc) (hB:B<=bW) (kd n m:Int) (p q x:ByteArray) (hk:kd≠3) :
  Calls Tryz.prog 62 #[.pointer (some ⟨bW,0,none⟩),.agg #[.int .i64 kd,.int .i64 n,.int .i64 m,.string p,.string q,.string x]] w (LawOut w B bW 1):=by
 have hbl:=Zac h.box;have c0:=Zab h.box 0 _ rfl;have hk':(kd == 3)=false:=by rw [beq_eq_false_iff_ne]; exact hk
 have H:Hid (LawOut w B bW 1 (.returned (.bool true)) (w.alloc (.cells #[.int .i64 kd,.int .i64 n,.int .i64 m,.string p,.string q,.string x] 78))):=⟨rfl,(Below.refl _ w).alloc (by omega) _,[],la,lc,by simp,h.ext Mxt⟩;simp only [List.length_nil] at c0;clear h hk;go_enter Tryz.func62,Tryz.ntmps62;go_wp2;go_ret;exact H.out
theorem Zqu (w:World) (B bW:Nat) (es:List Ent) (la:Option Addr) (lc:Nat) (h:LawAt w B bW es la lc) (hB:B<=bW) (hlen:es.length<=2000000) (hne:es≠[]) (n m:Int) (p q x:ByteArray) (hn : -9223372036854775808<=n/\n<9223372036854775808) (hm : -9223372036854775808<=m/\m<9223372036854775808) :
  Calls Tryz.prog 62 #[.pointer (some ⟨bW,0,none⟩),.agg #[.int .i64 5,.int .i64 n,.int .i64 m,.string p,.string q,.string x]] w (LawOut w B bW (es.length+1)):=by
 have hbl:=Zac h.box;have hes:0<es.length:=List.length_pos_iff.2 hne;obtain ⟨W0,hW0⟩:∃ W0,W0=w.alloc (.cells #[.int .i64 5,.int .i64 n,.int .i64 m,.string p,.string q,.string x] 78):=⟨_,rfl⟩;have hE0:Ext w W0:=by rw [hW0]; exact Mxt
 have hs0:W0.heap.size=w.heap.size+1:=by rw [hW0]; simp
 have hB0:W0.heap[w.heap.size]?=some (.cells #[.int .i64 5,.int .i64 n,.int .i64 m,.string p,.string q,.string x] 78 (0,0)):=by rw [hW0]; exact heap_alloc_new w _
 have hbx0:=(h.ext hE0).box;have c0:=Zab hbx0 0 _ rfl;have c0w:=Zab h.box 0 _ rfl;obtain ⟨k0,k1,k2,k3,k4,k5,kf⟩:=box6 hB0;obtain ⟨L,hL⟩:∃ L,L=es.length:=⟨_,rfl⟩;have HTo:=Zaa (fun k (hk:k<es.length)=>Zvj W0.drew B bW es la lc (h.ext (hE0.trans ⟨rfl,rfl,rfl,Nat.le_refl _,fun _ _=>rfl⟩)) hB k hk n hn hlen);have Hfin:Hid (∀ w',Ext W0.drew w'->LawOut w B bW (es.length+1) (.returned (.bool true)) w'):=fun w' hE=>by
  have hE1:Ext w w':=(hE0.trans ⟨rfl,rfl,rfl,Nat.le_refl _,fun _ _=>rfl⟩:Ext w W0.drew).trans (hE.mono (by show w.heap.size<=W0.heap.size; omega));exact ⟨rfl,hE1.mono (by omega),es,la,lc,by omega,h.ext hE1⟩
 have HL:=Zaa hL;have HPk:=Zaa (Zqt m L W0.drew hm ⟨by omega,by omega⟩);rw [<- hL] at c0 c0w hes hlen;have hLz:((L:Int) == 0)=false:=by rw [beq_eq_false_iff_ne]; omega
 have HW0:=Zaa hW0;have hbl0:bW<W0.heap.size:=by omega
 clear h hE0 hB0 hW0 hL hbx0 hne hn hm;go_enter Tryz.func62,Tryz.ntmps62;go_wp2_with fail;rw [<- HW0.out];refine Zen (by kernel_rfl) [.rd 0 1 (fun _ => .pointer (some ⟨w.heap.size,2,none⟩)),.rd 0 1 (fun _ => .int .i64 m),.rd 0 1 (fun _ => .pointer (some ⟨bW,0,none⟩)),.rd 0 1 (fun _ => .pointer (some ⟨bW,0,none⟩)),.rd 0 1 (fun _ => .pointer (some ⟨bW,0,none⟩)),.rd 0 1 (fun _ => .slice la L lc),.rd 0 1 (fun _ => .int .i64 L),.st 0,.rd 1 1 (fun vs=>vs.getD 0 undef)] 1 7 (by kernel_rfl) (OneP W0.drew (fun v=>∃ r:Nat,r<L/\v = .int .i64 r) (fun _ y=>y=W0.drew)) rfl ?_ ?_
 ·refine ⟨⟨trivial,fun vs y _ hl hS => ?_⟩,⟨trivial,fun vs y _ hl hS => ?_⟩,⟨trivial,fun vs y _ hl hS => ?_⟩,⟨trivial,fun vs y _ hl hS => ?_⟩,⟨trivial,fun vs y _ hl hS => ?_⟩,⟨trivial,fun vs y _ hl hS => ?_⟩,⟨trivial,fun vs y _ hl hS => ?_⟩,⟨trivial,fun vs y hl hS => ?_⟩,⟨trivial,fun vs y hl0 hl hS => ?_⟩,trivial⟩
  all_goals try (obtain rfl:y=W0.drew:=Ydm hS)
  ·simp [phAll,phA,pa,Ph.kd,Ph.val,Kd.val,go_sem]
  ·simp [phAll,phA,pa,Ph.kd,Ph.val,Kd.val,go_sem,k2]
  ·simp [phAll,phA,pa,Ph.kd,Ph.val,Kd.val,go_sem]
  ·simp [phAll,phA,pa,Ph.kd,Ph.val,Kd.val,go_sem]
  ·simp [phAll,phA,pa,Ph.kd,Ph.val,Kd.val,go_sem]
  ·simp [phAll,phA,pa,Ph.kd,Ph.val,Kd.val,go_sem,c0]
  ·simp [phAll,phA,pa,Ph.kd,Ph.val,Kd.val,go_sem]
  ·obtain rfl:=List.length_eq_zero_iff.1 hl;refine .call 88 #[.int .i64 m,.int .i64 L] _ (by simp [phAll,phA,pa,Ph.kd,Ph.val,Kd.val,go_sem]) (HPk.out.mono ?_);rintro e u ⟨r,hr,rfl,rfl⟩;exact ⟨_,rfl,⟨r,by omega,rfl⟩,rfl⟩
  ·obtain ⟨v,rfl⟩:=List.length_eq_one_iff.1 (show vs.length=1 by omega);simp [phAll,phA,pa,Ph.kd,Ph.val,Kd.val,go_sem]
 rintro vs y hl hS;obtain ⟨v,rfl⟩:=List.length_eq_one_iff.1 hl;obtain ⟨⟨r,hr,rfl⟩,rfl⟩:=hS;simp only [phAll,phA,paAll,pa,Ph.kd,Ph.val,Kd.val,List.map_cons,List.map_nil,if_true,Act.put,List.setIfInBounds_toArray,List.set_cons_succ,List.set_cons_zero,List.take_succ_cons,List.take_zero,List.getD_cons_zero];have hr2:r<es.length:=by rw [<- HL.out]; exact hr
 have HTr:=Zaa (HTo.out r hr2);clear hr2 hr;go_wp2_with fail;refine HTr.out.mono ?_;rintro e w2 ⟨rfl,hE2⟩;have HE2:=Zaa hE2;clear hE2;go_wp2;go_ret;exact Hfin.out _ HE2.out
theorem Zww {w:World} {B lb:Nat} {es:List Ent} {lc:Nat} (h:w.ownsRow B 156 12 (.slice (some ⟨lb,0,none⟩) es.length lc) es.length (Zep es)) {k:Nat} {e:Ent} (he:es[k]?=some e):lb<w.heap.size/\(∀ i,w.frozen? ⟨lb,i,none⟩=false)/\w.cell? ⟨lb,k * 12,none⟩=some (.pointer (some ⟨e.b,0,none⟩)) /\
  ∀ j v,(e.s.cells e.cs.length e.a.1.length e.a.2.length e.D.length e.m.status e.m.tries).toList[j]?=some v->w.cell? ⟨lb,k * 12+(j+1),none⟩=some v:=by
 have hk:=(List.getElem?_eq_some_iff.1 he).1;obtain ⟨lb',lcap,lcur,hle,_,hlb,_⟩:=Zal h (by omega);simp only [Value.slice.injEq,Option.some.injEq,Addr.mk.injEq,and_true] at hle;obtain ⟨rfl,_,rfl⟩:=hle;refine ⟨Zac hlb,fun i=>Zae hlb i,?_,fun j v hv => ?_⟩
 ·have:=Zaf h (k * 12+0) _ ((Zkw he 0 (by omega)).trans rfl);simpa using this
 ·have hj:j<11:=by
   have:=(List.getElem?_eq_some_iff.1 hv).1;simpa [SC.cells] using this
  exact Zaf h _ _ ((Zkw he (j+1) (by omega)).trans (by simpa [Ent.row] using hv))
theorem Zqv (w:World) (B bW:Nat) (es:List Ent) (la:Option Addr) (lc:Nat) (h:LawAt w B bW es la lc) (hB:B<=bW) (hlen:es.length<=2000000) (hne:es≠[]) (n m:Int) (p q x:ByteArray) (hn : -9223372036854775808<=n/\n<9223372036854775808) (hm : -9223372036854775808<=m/\m<9223372036854775808) :
  Calls Tryz.prog 62 #[.pointer (some ⟨bW,0,none⟩),.agg #[.int .i64 4,.int .i64 n,.int .i64 m,.string p,.string q,.string x]] w (LawOut w B bW (es.length+1)):=by
 have hbl:=Zac h.box;have hes:0<es.length:=List.length_pos_iff.2 hne;obtain ⟨W0,hW0⟩:∃ W0,W0=w.alloc (.cells #[.int .i64 4,.int .i64 n,.int .i64 m,.string p,.string q,.string x] 78):=⟨_,rfl⟩;have hE0:Ext w W0:=by rw [hW0]; exact Mxt
 have hs0:W0.heap.size=w.heap.size+1:=by rw [hW0]; simp
 have hB0:W0.heap[w.heap.size]?=some (.cells #[.int .i64 4,.int .i64 n,.int .i64 m,.string p,.string q,.string x] 78 (0,0)):=by rw [hW0]; exact heap_alloc_new w _
 have hbx0:=(h.ext hE0).box;have c0:=Zab hbx0 0 _ rfl;have c0w:=Zab h.box 0 _ rfl;obtain ⟨k0,k1,k2,k3,k4,k5,kf⟩:=box6 hB0;obtain ⟨L,hL⟩:∃ L,L=es.length:=⟨_,rfl⟩;have hL1:Hid (LawAt W0.drew B bW es la lc):=h.ext (hE0.trans ⟨rfl,rfl,rfl,Nat.le_refl _,fun _ _=>rfl⟩);have hEw1:Hid (Ext w W0.drew):=hE0.trans ⟨rfl,rfl,rfl,Nat.le_refl _,fun _ _=>rfl⟩;have Hn:=Zaa hn;have HB0:=Zaa hB0;have HL:=Zaa hL;have HPk:=Zaa (Zqt m L W0.drew hm ⟨by omega,by omega⟩);rw [<- hL] at c0 c0w hes hlen;have hLz:((L:Int) == 0)=false:=by rw [beq_eq_false_iff_ne]; omega
 have HW0:=Zaa hW0;have hbl0:bW<W0.heap.size:=by omega
 clear h hE0 hB0 hW0 hL hbx0 hne hn hm;go_enter Tryz.func62,Tryz.ntmps62;go_wp2_with fail;rw [<- HW0.out];refine Zen (by kernel_rfl) [.rd 0 1 (fun _ => .pointer (some ⟨w.heap.size,2,none⟩)),.rd 0 1 (fun _ => .int .i64 m),.rd 0 1 (fun _ => .pointer (some ⟨bW,0,none⟩)),.rd 0 1 (fun _ => .pointer (some ⟨bW,0,none⟩)),.rd 0 1 (fun _ => .pointer (some ⟨bW,0,none⟩)),.rd 0 1 (fun _ => .slice la L lc),.rd 0 1 (fun _ => .int .i64 L),.st 0,.rd 1 1 (fun vs=>vs.getD 0 undef)] 1 7 (by kernel_rfl) (OneP W0.drew (fun v=>∃ r:Nat,r<L/\v = .int .i64 r) (fun _ y=>y=W0.drew)) rfl ?_ ?_
 ·refine ⟨⟨trivial,fun vs y _ hl hS => ?_⟩,⟨trivial,fun vs y _ hl hS => ?_⟩,⟨trivial,fun vs y _ hl hS => ?_⟩,⟨trivial,fun vs y _ hl hS => ?_⟩,⟨trivial,fun vs y _ hl hS => ?_⟩,⟨trivial,fun vs y _ hl hS => ?_⟩,⟨trivial,fun vs y _ hl hS => ?_⟩,⟨trivial,fun vs y hl hS => ?_⟩,⟨trivial,fun vs y hl0 hl hS => ?_⟩,trivial⟩
  all_goals try (obtain rfl:y=W0.drew:=Ydm hS)
  ·simp [phAll,phA,pa,Ph.kd,Ph.val,Kd.val,go_sem]
  ·simp [phAll,phA,pa,Ph.kd,Ph.val,Kd.val,go_sem,k2]
  ·simp [phAll,phA,pa,Ph.kd,Ph.val,Kd.val,go_sem]
  ·simp [phAll,phA,pa,Ph.kd,Ph.val,Kd.val,go_sem]
  ·simp [phAll,phA,pa,Ph.kd,Ph.val,Kd.val,go_sem]
  ·simp [phAll,phA,pa,Ph.kd,Ph.val,Kd.val,go_sem,c0]
  ·simp [phAll,phA,pa,Ph.kd,Ph.val,Kd.val,go_sem]
  ·obtain rfl:=List.length_eq_zero_iff.1 hl;refine .call 88 #[.int .i64 m,.int .i64 L] _ (by simp [phAll,phA,pa,Ph.kd,Ph.val,Kd.val,go_sem]) (HPk.out.mono ?_);rintro e u ⟨r,hr,rfl,rfl⟩;exact ⟨_,rfl,⟨r,by omega,rfl⟩,rfl⟩
  ·obtain ⟨v,rfl⟩:=List.length_eq_one_iff.1 (show vs.length=1 by omega);simp [phAll,phA,pa,Ph.kd,Ph.val,Kd.val,go_sem]
 rintro vs y hl hS;obtain ⟨v,rfl⟩:=List.length_eq_one_iff.1 hl;obtain ⟨⟨r,hr,rfl⟩,rfl⟩:=hS;simp only [phAll,phA,paAll,pa,Ph.kd,Ph.val,Kd.val,List.map_cons,List.map_nil,if_true,Act.put,List.setIfInBounds_toArray,List.set_cons_succ,List.set_cons_zero,List.take_succ_cons,List.take_zero,List.getD_cons_zero];obtain ⟨ee,hee⟩:∃ ee,es[r]?=some ee:=⟨_,List.getElem?_eq_getElem (by rw [<- HL.out]; exact hr)⟩;obtain ⟨lb,rfl,hlb,hlf,p0,hcell⟩:=hL1.out.cell hee;have hEnt:=hL1.out.all r ee hee;obtain ⟨made,err,m1,hBS⟩:=Ydl hEnt.inv hEnt.prog n Hn.out;have HBS:=Zaa hBS;have Hee:=Zaa hee;have HEnt:=Zaa hEnt;have hsD:Ext W0.drew W0.drew.drew:=⟨rfl,rfl,rfl,Nat.le_refl _,fun _ _=>rfl⟩;have HL2:=Zaa (hL1.out.ext hsD);have HSt:=Zaa (hBS.2.1 W0.drew.drew ee.b ee.x (hEnt.code.ext hsD));have hri:(r:Int)<(L:Int):=by omega
 clear hBS hee hEnt hcell hsD;go_wp2_with fail;refine Zen (by kernel_rfl) [.rd 0 1 (fun _ => .pointer (some ⟨bW,0,none⟩)),.rd 0 1 (fun _ => .pointer (some ⟨bW,0,none⟩)),.rd 0 1 (fun _ => .pointer (some ⟨bW,0,none⟩)),.rd 0 0 (fun _ => .slice (some ⟨lb,0,none⟩) L lc),.rd 0 1 (fun _ => .int .i64 r),.rd 0 1 (fun _ => .pointer (some ⟨lb,r * 12,none⟩)),.rd 0 1 (fun _ => .pointer (some ⟨lb,r * 12,none⟩)),.rd 0 0 (fun _ => .pointer (some ⟨ee.b,0,none⟩)),.rd 0 1 (fun _ => .pointer (some ⟨w.heap.size,1,none⟩)),.rd 0 0 (fun _ => .int .i64 n),.st 0,.rd 1 1 (fun _ => .tuple #[.int .i64 made,.int .i64 err]),.rd 1 1 (fun _ => .int .i64 made),.rd 1 1 (fun _ => .int .i64 err),.rd 1 1 (fun _ => .int .i64 made),.rd 1 1 (fun _ => .int .i64 err)] 1 7 (by kernel_rfl) (OneP W0.drew.drew (fun v=>v = .tuple #[.int .i64 made,.int .i64 err]) (fun _ y=>∃ x1,Kept (ownS ee.b ee.x) W0.drew.drew y/\CSr y ee.b x1 ee.cs ee.a m1/\Ziq W0.drew.drew ee.x x1)) rfl ?_ ?_
 ·refine ⟨⟨trivial,fun vs y _ hl hS => ?_⟩,⟨trivial,fun vs y _ hl hS => ?_⟩,⟨trivial,fun vs y _ hl hS => ?_⟩,⟨trivial,fun vs y _ hl hS => ?_⟩,⟨trivial,fun vs y _ hl hS => ?_⟩,⟨trivial,fun vs y _ hl hS => ?_⟩,⟨trivial,fun vs y _ hl hS => ?_⟩,⟨trivial,fun vs y _ hl hS => ?_⟩,⟨trivial,fun vs y _ hl hS => ?_⟩,⟨trivial,fun vs y _ hl hS => ?_⟩,⟨trivial,fun vs y hl hS => ?_⟩,⟨trivial,fun vs y hl0 hl hS => ?_⟩,⟨trivial,fun vs y hl0 hl hS => ?_⟩,⟨trivial,fun vs y hl0 hl hS => ?_⟩,⟨trivial,fun vs y hl0 hl hS => ?_⟩,⟨trivial,fun vs y hl0 hl hS => ?_⟩,trivial⟩
  ·simp [phAll,phA,pa,Ph.kd,Ph.val,Kd.val,go_sem]
  ·simp [phAll,phA,pa,Ph.kd,Ph.val,Kd.val,go_sem]
  ·simp [phAll,phA,pa,Ph.kd,Ph.val,Kd.val,go_sem]
  ·obtain rfl:=hS.at hl;simp [phAll,phA,pa,Ph.kd,Ph.val,Kd.val,go_sem,c0]
  ·simp [phAll,phA,pa,Ph.kd,Ph.val,Kd.val,go_sem]
  ·simp [phAll,phA,pa,Ph.kd,Ph.val,Kd.val,go_sem,hr]
  ·simp [phAll,phA,pa,Ph.kd,Ph.val,Kd.val,go_sem]
  ·obtain rfl:=hS.at hl;have p0':W0.cell? ⟨lb,r * 12,none⟩=some (.pointer (some ⟨ee.b,0,none⟩)):=p0;simp [phAll,phA,pa,Ph.kd,Ph.val,Kd.val,go_sem,p0']
  ·simp [phAll,phA,pa,Ph.kd,Ph.val,Kd.val,go_sem]
  ·obtain rfl:=hS.at hl;simp [phAll,phA,pa,Ph.kd,Ph.val,Kd.val,go_sem,k1]
  ·obtain rfl:=List.length_eq_zero_iff.1 hl;obtain rfl:y=W0.drew.drew:=hS;refine .call 54 #[.pointer (some ⟨ee.b,0,none⟩),.int .i64 n] _ (by simp [phAll,phA,pa,Ph.kd,Ph.val,Kd.val,go_sem]) (HSt.out.mono ?_);rintro e u ⟨rfl,hx⟩;exact ⟨_,rfl,rfl,hx⟩
  ·obtain ⟨v,rfl⟩:=List.length_eq_one_iff.1 (show vs.length=1 by omega);obtain ⟨rfl,_⟩:=hS;simp [phAll,phA,pa,Ph.kd,Ph.val,Kd.val,go_sem]
  ·simp [phAll,phA,pa,Ph.kd,Ph.val,Kd.val,go_sem]
  ·simp [phAll,phA,pa,Ph.kd,Ph.val,Kd.val,go_sem]
  ·simp [phAll,phA,pa,Ph.kd,Ph.val,Kd.val,go_sem]
  ·simp [phAll,phA,pa,Ph.kd,Ph.val,Kd.val,go_sem]
 rintro vs w2 hl hS;obtain ⟨v,rfl⟩:=List.length_eq_one_iff.1 hl;obtain ⟨_,x1,hK2,hC2,hN2⟩:=hS;have hsz0:B<=W0.drew.drew.heap.size:=by show B<=W0.heap.size; omega
 have hstp:¬ ownS ee.b ee.x w.heap.size:=fun ho=>by
  obtain ⟨cl,t,fr,h1,h2⟩:=HEnt.out.code.own_ty ho;have h3:W0.heap[w.heap.size]?=some (.cells cl t fr):=h1;rw [HB0.out] at h3;simp at h3;obtain ⟨_,rfl,_⟩:=h3;simp at h2
 have hB2:w2.heap[w.heap.size]?=some (.cells #[.int .i64 4,.int .i64 n,.int .i64 m,.string p,.string q,.string x] 78 (0,0)):=(hK2.block _ (by show w.heap.size<W0.heap.size; omega) hstp).trans HB0.out;obtain ⟨hBel2,hMid⟩:=HL2.out.mid Hee.out hsz0 hK2 hC2 hN2;have hw2:=hK2.size;have hw2':W0.heap.size<=w2.heap.size:=hw2;have d0:=Zab hMid.box 0 _ rfl;rw [<- HL.out] at d0;obtain ⟨hlb2,hlf2,q0,hcell2⟩:=Zww hMid.row Hee.out;have e1:=Zab hB2 1 _ rfl;have HB2:=Zaa hB2;have HMid:=Zaa hMid;have HBel2:=Zaa ((hEw1.out.mono (by omega):Below B w W0.drew).trans ((⟨rfl,rfl,rfl,Nat.le_refl _,fun _ _=>rfl⟩:Below B W0.drew W0.drew.drew).trans hBel2));obtain ⟨b,xx,ss,D,pp,qq,cs,a,mm⟩:=ee;simp only at *;obtain ⟨la1,lc1,aa1,ac1,na1,nc1,da1,dc1,f0a,f0l,f0c,f1a,f1l,f1c,f2a,f2l,f2c,f3a,f3l,f3c,f4⟩:=ss;simp only [SC.cells] at hcell2;have HI:Hid (∀ X u,Ext w2.drew u->(∀ k,X k->w2.heap.size<=k/\k<u.heap.size/\∃ (i:Nat) (t:TypeId) (z:Array Value) (s:Nat) (cy:Value->Array Value) (cl:Array Value),([.pur (.pointer (some ⟨bW,0,none⟩)),.pur (.pointer (some ⟨bW,0,none⟩)),.pur (.pointer (some ⟨bW,0,none⟩)),.pur (.slice (some ⟨lb,0,none⟩) L lc),.pur (.int .i64 r),.pur (.pointer (some ⟨lb,r * 12,none⟩)),.pur (.pointer (some ⟨lb,r * 12+1,none⟩)),.pur (.agg #[.slice la1 cs.length lc1,.slice aa1 a.1.length ac1,.slice na1 a.2.length nc1,.slice da1 D.length dc1,.int .i64 mm.status,.int .i64 mm.tries,.slice f0a f0l f0c,.slice f1a f1l f1c,.slice f2a f2l f2c,.slice f3a f3l f3c,.int .i64 f4]),.pur (.pointer (some ⟨w.heap.size,1,none⟩)),.pur (.int .i64 n),.cal,.post (fun v=>v),.post (Zdn 0),.post (Zdn 1),.post (Zdn 2),.alo 154 #[.slice none 0 0,.slice none 0 0,.slice none 0 0,.slice none 0 0,.int .i64 0,.int .i64 0,.slice none 0 0,.slice none 0 0,.slice none 0 0,.slice none 0 0,.int .i64 0] 16 (fun v=>cellsOf (Zdn 0 v)),.sto 15,.post (Zdn 1),.post (Zdn 2)]:List Kd)[i]?=some (.alo t z s cy)/\u.heap[k]?=some (.cells cl t (0,0)))->Calls Tryz.prog 89 #[.agg #[.slice la1 cs.length lc1,.slice aa1 a.1.length ac1,.slice na1 a.2.length nc1,.slice da1 D.length dc1,.int .i64 mm.status,.int .i64 mm.tries,.slice f0a f0l f0c,.slice f1a f1l f1c,.slice f2a f2l f2c,.slice f3a f3l f3c,.int .i64 f4],.int .i64 n] u fun e u'=>∃ r,e = .returned r/\Ext u u'/\StepR cs a m1 made err X r u'):=fun X u hu hX=>by
  have hwu:Ext w2 u:=hu.undrew;refine (HBS.out.2.2 u ⟨la1,lc1,aa1,ac1,na1,nc1,da1,dc1,f0a,f0l,f0c,f1a,f1l,f1c,f2a,f2l,f2c,f3a,f3l,f3c,f4⟩ D (HMid.out.ref.ext hwu)).mono ?_;rintro e u' ⟨s',D',rfl,hE',hR'⟩;refine ⟨_,rfl,hE',s',D',rfl,fun y hy hs=>hR'.off_heap (X:=X) (fun k hk => ?_) hy hs⟩;obtain ⟨_,hlt,i,t,z,sx,cx,cl,hi,hb⟩:=hX k hk;have ht:t=154:=by
   have hi':i=15:=by
    by_cases h15:i=15
    ·exact h15
    ·exfalso;have:i<19:=(List.getElem?_eq_some_iff.1 hi).1;have hc:i=0\/i=1\/i=2\/i=3\/i=4\/i=5\/i=6\/i=7\/i=8\/i=9\/i=10\/i=11\/i=12\/i=13\/i=14\/i=16\/i=17\/i=18:=by omega
     rcases hc with rfl | rfl | rfl | rfl | rfl | rfl | rfl | rfl | rfl | rfl | rfl | rfl | rfl | rfl | rfl | rfl | rfl | rfl <;> simp at hi
   subst hi';simp at hi;exact hi.1.symm
  subst ht;exact ⟨_,_,_,(hE'.block k hlt).trans hb,by simp [Znp]⟩
 obtain ⟨st,hst⟩:∃ z,z=mm.status:=⟨_,rfl⟩;obtain ⟨tr,htr⟩:∃ z,z=mm.tries:=⟨_,rfl⟩;obtain ⟨cl,hcl'⟩:∃ z,z=cs.length:=⟨_,rfl⟩;obtain ⟨al,hal'⟩:∃ z,z=a.1.length:=⟨_,rfl⟩;obtain ⟨nl,hnl'⟩:∃ z,z=a.2.length:=⟨_,rfl⟩;obtain ⟨dl,hdl'⟩:∃ z,z=D.length:=⟨_,rfl⟩;have HN:Hid (st=mm.status/\tr=mm.tries/\cl=cs.length/\al=a.1.length/\nl=a.2.length/\dl=D.length):=⟨hst,htr,hcl',hal',hnl',hdl'⟩;rw [<- hst,<- htr,<- hcl',<- hal',<- hnl',<- hdl'] at HI hcell2;have u1:=hcell2 0 _ rfl;have u2:=hcell2 1 _ rfl;have u3:=hcell2 2 _ rfl;have u4:=hcell2 3 _ rfl;have u5:=hcell2 4 _ rfl;have u6:=hcell2 5 _ rfl;have u7:=hcell2 6 _ rfl;have u8:=hcell2 7 _ rfl;have u9:=hcell2 8 _ rfl;have u10:=hcell2 9 _ rfl;have u11:=hcell2 10 _ rfl;have hbl2:bW<w2.heap.size:=by omega
 have hws2:w.heap.size<w2.heap.size:=by omega
 simp only [phAll,phA,paAll,pa,Ph.kd,Ph.val,Kd.val,List.map_cons,List.map_nil,if_true,Act.put,List.setIfInBounds_toArray,List.set_cons_succ,List.set_cons_zero];clear hst htr hcl' hal' hnl' hdl' hK2 hC2 hN2 hstp hB2 hBel2 hMid hcell2 c0 p0 k0 k1 k2 k3 k4 k5 kf hlf HSt HL2 hw2;go_wp2_with fail;refine Zlm (by kernel_rfl) [.pur (.pointer (some ⟨bW,0,none⟩)),.pur (.pointer (some ⟨bW,0,none⟩)),.pur (.pointer (some ⟨bW,0,none⟩)),.pur (.slice (some ⟨lb,0,none⟩) L lc),.pur (.int .i64 r),.pur (.pointer (some ⟨lb,r * 12,none⟩)),.pur (.pointer (some ⟨lb,r * 12+1,none⟩)),.pur (.agg #[.slice la1 cl lc1,.slice aa1 al ac1,.slice na1 nl nc1,.slice da1 dl dc1,.int .i64 st,.int .i64 tr,.slice f0a f0l f0c,.slice f1a f1l f1c,.slice f2a f2l f2c,.slice f3a f3l f3c,.int .i64 f4]),.pur (.pointer (some ⟨w.heap.size,1,none⟩)),.pur (.int .i64 n),.cal,.post (fun v=>v),.post (Zdn 0),.post (Zdn 1),.post (Zdn 2),.alo 154 #[.slice none 0 0,.slice none 0 0,.slice none 0 0,.slice none 0 0,.int .i64 0,.int .i64 0,.slice none 0 0,.slice none 0 0,.slice none 0 0,.slice none 0 0,.int .i64 0] 16 (fun v=>cellsOf (Zdn 0 v)),.sto 15,.post (Zdn 1),.post (Zdn 2)] 10 (by kernel_rfl) (StepR cs a m1 made err) 89 _ StepR.stable HI.out ?_ rfl (by decide) ?_
 ·refine ⟨fun vc β u hu => ?_,fun vc β u hu => ?_,fun vc β u hu => ?_,fun vc β u hu => ?_,fun vc β u hu => ?_,fun vc β u hu => ?_,fun vc β u hu => ?_,fun vc β u hu => ?_,fun vc β u hu => ?_,fun vc β u hu => ?_,fun vc β u => ?_,?_,?_,?_,?_,fun vc β u => ?_,?_,?_,?_,trivial⟩
  all_goals try (simp [pa,Kd.val,go_sem,hu.up d0,hu.up e1,hu.up u1,hu.up u2,hu.up u3,hu.up u4,hu.up u5,hu.up u6,hu.up u7,hu.up u8,hu.up u9,hu.up u10,hu.up u11,hr]; done)
  all_goals try (simp [pa,Kd.val,go_sem]; done)
  all_goals try (rintro vc β Z u ⟨s',D',rfl,_⟩; simp [pa,Kd.val,go_sem,Zdn,SC.val]; done)
  rintro vc β Z u t z sx cl he ⟨s',D',rfl,_⟩ hb;obtain ⟨la2,lc2,aa2,ac2,na2,nc2,da2,dc2,g0a,g0l,g0c,g1a,g1l,g1c,g2a,g2l,g2c,g3a,g3l,g3c,g4⟩:=s';simp only [SC.val] at he ⊢;simp at he;obtain ⟨rfl,rfl,rfl,rfl⟩:=he;obtain ⟨z0,z1,z2,z3,z4,z5,z6,z7,z8,z9,z10,zf⟩:=Zfp hb;refine ⟨_,?_,Zng hb _ _ _ _ _ _ _ _ _ _ _,((((((((((((Kept.refl (only (β 15)) u).put 0 _).put 1 _).put 2 _).put 3 _).put 4 _).put 5 _).put 6 _).put 7 _).put 8 _).put 9 _).put 10 _)⟩;simp [pa,Kd.val,go_sem,z0,z1,z2,z3,z4,z5,z6,z7,z8,z9,z10,zf,Zdn]
 rintro vc β w3 hext3 ⟨s2,D2,rfl,hS2⟩ hbox _;have hext3:=hext3.undrew;have hs3:=hext3.size;have hR3:SRefN w3 s2 cs a D2 m1:=hS2 w3 (fun _ _ _=>rfl) (Nat.le_refl _);obtain ⟨hb0,hbx⟩:=hbox 15 _ _ _ _ rfl;have hMid3:=HMid.out.ext hext3;have hE3d:Ext w3 w3.drew:=⟨rfl,rfl,rfl,Nat.le_refl _,fun _ _=>rfl⟩;obtain ⟨hBfin,hLfin⟩:=(hMid3.ext hE3d).fin (s2:=s2) (D2:=D2) Hee.out (by show B<=w3.heap.size; omega) HEnt.out.prog HEnt.out.ask HBS.out.1 (hR3.ext hE3d) rfl;have Hout:Hid (LawOut w B bW (es.length+1) (.returned (.bool true)) _):=⟨rfl,(HBel2.out.trans (hext3.mono (by omega))).trans ((⟨rfl,rfl,rfl,Nat.le_refl _,fun _ _=>rfl⟩:Below B w3 w3.drew).trans hBfin),_,_,_,by simp,hLfin⟩;have f0:=Zab hMid3.box 0 _ rfl;rw [<- HL.out] at f0;obtain ⟨hlb3,hlf3,_,hcell3⟩:=Zww hMid3.row Hee.out;simp only [SC.cells] at hcell3;have y1:=hcell3 0 _ rfl;have y2:=hcell3 1 _ rfl;have y3:=hcell3 2 _ rfl;have y4:=hcell3 3 _ rfl;have y5:=hcell3 4 _ rfl;have y6:=hcell3 5 _ rfl;have y7:=hcell3 6 _ rfl;have y8:=hcell3 7 _ rfl;have y9:=hcell3 8 _ rfl;have y10:=hcell3 9 _ rfl;have y11:=hcell3 10 _ rfl;obtain ⟨la2,lc2,aa2,ac2,na2,nc2,da2,dc2,g0a,g0l,g0c,g1a,g1l,g1c,g2a,g2l,g2c,g3a,g3l,g3c,g4⟩:=s2;have hbx':w3.heap[β 15]?=some (.cells #[.slice la2 cs.length lc2,.slice aa2 a.1.length ac2,.slice na2 a.2.length nc2,.slice da2 D2.length dc2,.int .i64 m1.status,.int .i64 m1.tries,.slice g0a g0l g0c,.slice g1a g1l g1c,.slice g2a g2l g2c,.slice g3a g3l g3c,.int .i64 g4] 154 (0,0)):=hbx;generalize hbe:β 15=bt at *;obtain ⟨z0,z1,z2,z3,z4,z5,z6,z7,z8,z9,z10,zf⟩:=Zfp hbx';have hbtl:=Zac hbx';have hbl3:bW<w3.heap.size:=by omega
 simp only [paAll,pa,Kd.val,if_true,Act.put,Zdn,SC.val];rw [hbe];clear hext3 hS2 hbox hR3 hb0 hbx hMid3 hE3d hBfin hLfin hbx' hcell3 HI d0 e1 u1 u2 u3 u4 u5 u6 u7 u8 u9 u10 u11 hlf2;simp only [SC.cells] at Hout;go_wp2_with fail;refine Zen (by kernel_rfl) [.rd 0 1 (fun _ => .pointer (some ⟨bW,0,none⟩)),.rd 0 1 (fun _ => .pointer (some ⟨bW,0,none⟩)),.rd 0 1 (fun _ => .pointer (some ⟨bW,0,none⟩)),.rd 0 0 (fun _ => .slice (some ⟨lb,0,none⟩) L lc),.rd 0 1 (fun _ => .int .i64 r),.rd 0 0 (fun _ => .agg #[.slice la2 cs.length lc2,.slice aa2 a.1.length ac2,.slice na2 a.2.length nc2,.slice da2 D2.length dc2,.int .i64 m1.status,.int .i64 m1.tries,.slice g0a g0l g0c,.slice g1a g1l g1c,.slice g2a g2l g2c,.slice g3a g3l g3c,.int .i64 g4]),.rd 0 1 (fun _ => .pointer (some ⟨lb,r * 12,none⟩)),.rd 0 1 (fun _ => .pointer (some ⟨lb,r * 12+1,none⟩)),.st 0] 1 7 (by kernel_rfl) (OneP w3.drew (fun _=>True) (fun _ y=>LawOut w B bW (es.length+1) (.returned (.bool true)) y)) rfl ?_ ?_
 ·refine ⟨⟨trivial,fun vs y _ hl hS => ?_⟩,⟨trivial,fun vs y _ hl hS => ?_⟩,⟨trivial,fun vs y _ hl hS => ?_⟩,⟨trivial,fun vs y _ hl hS => ?_⟩,⟨trivial,fun vs y _ hl hS => ?_⟩,⟨trivial,fun vs y _ hl hS => ?_⟩,⟨trivial,fun vs y _ hl hS => ?_⟩,⟨trivial,fun vs y _ hl hS => ?_⟩,⟨trivial,fun vs y hl hS => ?_⟩,trivial⟩
  ·simp [phAll,phA,pa,Ph.kd,Ph.val,Kd.val,go_sem]
  ·simp [phAll,phA,pa,Ph.kd,Ph.val,Kd.val,go_sem]
  ·simp [phAll,phA,pa,Ph.kd,Ph.val,Kd.val,go_sem]
  ·obtain rfl:=hS.at hl;simp [phAll,phA,pa,Ph.kd,Ph.val,Kd.val,go_sem,f0]
  ·simp [phAll,phA,pa,Ph.kd,Ph.val,Kd.val,go_sem]
  ·obtain rfl:=hS.at hl;simp [phAll,phA,pa,Ph.kd,Ph.val,Kd.val,go_sem,z0,z1,z2,z3,z4,z5,z6,z7,z8,z9,z10]
  ·simp [phAll,phA,pa,Ph.kd,Ph.val,Kd.val,go_sem,hr]
  ·simp [phAll,phA,pa,Ph.kd,Ph.val,Kd.val,go_sem]
  ·obtain rfl:=List.length_eq_zero_iff.1 hl;obtain rfl:y=w3.drew:=hS;exact .skip _ (by simp [phAll,phA,pa,Ph.kd,Ph.val,Kd.val,go_sem,y1,y2,y3,y4,y5,y6,y7,y8,y9,y10,y11,hlf3]) ⟨trivial,Hout.out⟩
 rintro vs y hl hS;obtain ⟨v,rfl⟩:=List.length_eq_one_iff.1 hl;obtain ⟨_,hy⟩:=hS;have Hy:=Zaa hy;simp only [phAll,phA,paAll,pa,Ph.kd,Ph.val,Kd.val,List.map_cons,List.map_nil,if_true,Act.put,List.setIfInBounds_toArray,List.set_cons_succ,List.set_cons_zero];clear hy z0 z1 z2 z3 z4 z5 z6 z7 z8 z9 z10 zf y1 y2 y3 y4 y5 y6 y7 y8 y9 y10 y11 f0;go_wp2;go_ret;exact Hy.out
def Zth (n:Int):Prop := -9223372036854775808<=n/\n<9223372036854775808
def Zvk (w:World) (sv:Value) (N:Nat):Prop:=∃ a len cap,sv = .slice a len cap/\len<=N/\∀ k,k<len->∃ (b off:Nat) (kd n m:Int) (p q x:ByteArray),a=some ⟨b,off,none⟩/\b<w.heap.size /\
 w.cell? ⟨b,off+k * 6,none⟩=some (.int .i64 kd)/\w.cell? ⟨b,off+k * 6+1,none⟩=some (.int .i64 n)/\w.cell? ⟨b,off+k * 6+2,none⟩=some (.int .i64 m) /\
 w.cell? ⟨b,off+k * 6+3,none⟩=some (.string p)/\w.cell? ⟨b,off+k * 6+4,none⟩=some (.string q)/\w.cell? ⟨b,off+k * 6+5,none⟩=some (.string x)/\p.size<=maxLen/\q.size<=maxLen/\x.size<=maxLen/\Zth n/\Zth m
theorem Zzw (w:World) (b:Nat) (lv:Value) (h:w.heap[b]?=some (.cells #[lv,.slice none 0 0,.slice none 0 0] 76 (0,0))) :
  Calls Tryz.prog 39 #[.pointer (some ⟨b,0,none⟩)] w fun e w'=>e = .returned (.bool true)/\w'=w:=by
 have c1:w.cell? ⟨b,1,none⟩=some (.slice none 0 0):=Zab h 1 _ rfl;clear h;go_enter Tryz.func39,Tryz.ntmps39;go_wp2
 go_loop [3] (fun i=>i = .int .i64 0) (fun i=>0)
 case atStart=>rfl
 case round =>
  subst hrel;go_wp2;go_ret;exact ⟨rfl,rfl⟩
theorem Zti (w:World) (B bW:Nat) (es:List Ent) (la:Option Addr) (lc:Nat) (h:LawAt w B bW es la lc) (hB:B<=bW) (hlen:es.length<=2000000) (kd n m:Int) (p q x:ByteArray) (hk:kd=3\/kd=4\/kd=5) (hp:p.size<=maxLen) (hq:q.size<=maxLen) (hn:Zth n) (hm:Zth m) :
  Calls Tryz.prog 62 #[.pointer (some ⟨bW,0,none⟩),.agg #[.int .i64 kd,.int .i64 n,.int .i64 m,.string p,.string q,.string x]] w (LawOut w B bW (es.length+1)):=by
 rcases hk with rfl | hk
 ·exact Ztf w B bW es la lc h hB hlen n m p q x hp hq
 ·by_cases hne:es=[]
  ·subst hne;exact Ztg w B bW la lc h hB kd n m p q x (by omega)
  ·rcases hk with rfl | rfl
   ·exact Zqv w B bW es la lc h hB hlen hne n m p q x hn hm
   ·exact Zqu w B bW es la lc h hB hlen hne n m p q x hn hm
theorem Zvl (w:World) (B bW:Nat) (es:List Ent) (la:Option Addr) (lc:Nat) (h:LawAt w B bW es la lc) (hB:B<=bW) (hlen:es.length<=2000000) (kd n m:Int) (p q x:ByteArray) (hk:kd=3\/kd=4\/kd=5) (hp:p.size<=maxLen) (hq:q.size<=maxLen) (hn:Zth n) (hm:Zth m) :
  Calls Tryz.prog 38 #[.pointer (some ⟨bW,0,none⟩),.agg #[.int .i64 kd,.int .i64 n,.int .i64 m,.string p,.string q,.string x]] w (LawOut w B bW (es.length+1)):=by
 have hbl:=Zac h.box;have HS:=Zaa (Zti (w.alloc (.cells #[.int .i64 kd,.int .i64 n,.int .i64 m,.string p,.string q,.string x] 78)) B bW es la lc (h.ext Mxt) hB hlen kd n m p q x hk hp hq hn hm);have HBl:Hid (Below B w (w.alloc (.cells #[.int .i64 kd,.int .i64 n,.int .i64 m,.string p,.string q,.string x] 78))):=(Below.refl _ w).alloc (by omega) _;clear h hp hq hn hm;rcases hk with rfl | rfl | rfl
 all_goals
  go_enter Tryz.func38,Tryz.ntmps38;go_wp2_with fail;refine HS.out.mono ?_;rintro e w1 h1;have H1:=Zaa h1;obtain ⟨rfl,_⟩:=h1;go_wp2;go_ret;exact H1.out.up HBl.out (Nat.le_refl _)
theorem Zvm (sv:Value) (w:World) (hst:Zvk w sv 1048576) :
  Calls Tryz.prog 13 #[sv,.int .i64 3,.int .i64 5] w fun e w'=>e = .returned (.int .i64 (-1))/\Below w.heap.size w w':=by
 obtain ⟨a,len,cap,rfl,hlen,hcells⟩:=hst;have Hcells:=Zaa hcells;clear hcells;go_enter Tryz.func13,Tryz.ntmps13;go_wp2
 go_loopw [8] (fun i wr=>∃ (k:Nat) (es:List Ent) (la:Option Addr) (lc:Nat),k<=len/\i = .int .i64 k/\Below w.heap.size w wr/\es.length<=k/\LawAt wr w.heap.size w.heap.size es la lc) (fun i _=>len - (intOf i).toNat)
 case atStart=>exact ⟨0,[],none,0,Nat.zero_le _,rfl,(Below.refl _ _).alloc (Nat.le_refl _) _,Nat.le_refl _,LawAt.nil (heap_alloc_new w _)⟩
 case round =>
  obtain ⟨k,es,la,lc,hk,rfl,hbel,hes,hL⟩:=hrel;have hsz:=Zac hL.box;have HLw:=Zaa hL;have Hbel:=Zaa hbel;clear hL
  by_cases hlt:k<len
  ·obtain ⟨b,off,kd,n,m,p,q,x,rfl,hbl,d0,d1,d2,d3,d4,d5,hp,hq,hx,hn,hm⟩:=Hcells.out k hlt;have c0:wr.cell? ⟨b,off+k * 6,none⟩=some (.int .i64 kd):=(hbel.cell (p:=⟨b,off+k * 6,none⟩) hbl).trans d0;have c1:wr.cell? ⟨b,off+k * 6+1,none⟩=some (.int .i64 n):=(hbel.cell (p:=⟨b,off+k * 6+1,none⟩) hbl).trans d1;have c2:wr.cell? ⟨b,off+k * 6+2,none⟩=some (.int .i64 m):=(hbel.cell (p:=⟨b,off+k * 6+2,none⟩) hbl).trans d2;have c3:wr.cell? ⟨b,off+k * 6+3,none⟩=some (.string p):=(hbel.cell (p:=⟨b,off+k * 6+3,none⟩) hbl).trans d3;have c4:wr.cell? ⟨b,off+k * 6+4,none⟩=some (.string q):=(hbel.cell (p:=⟨b,off+k * 6+4,none⟩) hbl).trans d4;have c5:wr.cell? ⟨b,off+k * 6+5,none⟩=some (.string x):=(hbel.cell (p:=⟨b,off+k * 6+5,none⟩) hbl).trans d5;have hE1:Ext wr (wr.alloc (.cells #[.int .i64 kd,.int .i64 n,.int .i64 m,.string p,.string q,.string x] 78)):=Mxt;have HL1:=Zaa (HLw.out.ext hE1);have HB1:=Zaa (hbel.trans (hE1.mono (by omega)));clear d0 d1 d2 d3 d4 d5 hE1 hbel
   by_cases hkd:kd=3\/kd=4\/kd=5
   ·have HS:=Zaa (Zvl _ w.heap.size w.heap.size es la lc HL1.out (Nat.le_refl _) (by omega) kd n m p q x hkd hp hq hn hm);have h1:(3:Int)<=kd:=by omega
    have h2:kd<=(5:Int):=by omega
    clear hkd hn hm hp hq hx;go_wp2_with fail;refine HS.out.mono ?_;rintro e w1 ⟨rfl,hb1,es1,la1,lc1,hes1,hL1⟩;have HL2:=Zaa (Zzw w1 w.heap.size _ hL1.box);have HLw1:=Zaa hL1;have Hb1:=Zaa (HB1.out.trans hb1);clear hb1 hL1 c0 c1 c2 c3 c4 c5;go_wp2_with fail;refine HL2.out.mono ?_;rintro e w2 ⟨rfl,rfl⟩;go_wp2
    go_roundw
    case rel=>exact ⟨k+1,es1,la1,lc1,by omega,by go_num,Hb1.out,by omega,HLw1.out⟩
    case measure=>simp [intOf]; omega
   ·by_cases hlo:(3:Int)<=kd
    ·have h2:¬ kd<=(5:Int):=by omega
     clear hkd hn hm hp hq hx;go_wp2
     go_roundw
     case rel=>exact ⟨k+1,es,la,lc,by omega,by go_num,HB1.out,by omega,HL1.out⟩
     case measure=>simp [intOf]; omega
    ·clear hkd hn hm hp hq hx;go_wp2
     go_roundw
     case rel=>exact ⟨k+1,es,la,lc,by omega,by go_num,HB1.out,by omega,HL1.out⟩
     case measure=>simp [intOf]; omega
  ·clear hbel;go_wp2;go_ret;exact ⟨rfl,Hbel.out⟩
theorem Zqw (sv:Value) (w:World) (hst:Zvk w sv 1048576) :
  Calls Tryz.prog 5 #[sv] w fun e w'=>e = .returned (.bool true)/\Below w.heap.size w w':=by
 have HU:=Zaa (Zvm sv w hst);clear hst;go_enter Tryz.func5,Tryz.ntmps5;go_wp2_with fail;refine HU.out.mono ?_;rintro e w1 ⟨rfl,hb1⟩;have Hb1:=Zaa hb1;clear hb1;go_wp2;go_ret;exact ⟨rfl,Hb1.out⟩
end Go.Proofs.YtlmjilpjmgjjcaaGreatDoor
namespace Go.Proofs.YtlmjilpjmgjjcaaGreatDoor
open Go.ChangeShapes Go.WideShapes Go.ChangeAt Go.WideMaps Go.WideElems Go.RowKit
theorem Yfq {H:Type} (d:DataW H):1<=Rows.uptoBulk d:=by
 cases d with
 | lit l=>cases l <;> simp [Rows.uptoBulk]
 | nil=>simp [Rows.uptoBulk]
 | ptr d=>simp [Rows.uptoBulk]
 | slice elems spare=>simp [Rows.uptoBulk]
 | agg parts=>simp [Rows.uptoBulk]
 | iface t d=>simp [Rows.uptoBulk]
 | map entries=>simp [Rows.uptoBulk]
 | held h=>simp [Rows.uptoBulk]
theorem Yfr {H:Type} (l:List (DataW H)):l.length<=Rows.uptoBulkAll l:=by
 induction l with
 | nil=>simp [Rows.uptoBulkAll]
 | cons x r ih=>have:=Yfq x; simp only [Rows.uptoBulkAll,List.length_cons]; omega
theorem Zpg {H:Type} {enc:TypeId × Value->H} {W:World} {base n':Nat} {spare:Nat->Bool} {held:Bool} {a:Addr} {cs:List Value} {x:DataW H × List MemPlace} {i:Nat} (hcells:∀ i,i<6->W.cell? (a.add i)=cs[i]?) (hlen:cs.length=6) (hi:i<6)
  (h:DataW.trod enc Tryz.prog W base spare held n' 3 ((cs.drop i).take (Tryz.prog.cellsOf 3))=some x):∃ k:Int,W.cell? (a.add i)=some (.int .i64 k)/\Zth k:=by
 obtain ⟨s,h1,_,h3⟩:=DataW.trod_int Tryz.underlying3 h;rw [Zwu] at h1;refine ⟨s,?_,?_⟩
 ·rw [hcells i hi];have:=congrArg (fun l:List Value=>l[0]?) h1;simpa using this
 ·have h4:(decide (IntKind.min .i64<=s) && decide (s<=IntKind.max .i64))=true:=h3;rw [Bool.and_eq_true,decide_eq_true_eq,decide_eq_true_eq,show IntKind.min .i64 = -9223372036854775808 from rfl,show IntKind.max .i64=9223372036854775807 from rfl] at h4;unfold Zth;omega
set_option maxRecDepth 100000 in
theorem Yfs {H:Type} {enc:TypeId × Value->H} {W:World} {a0:Option Addr} {len cap:Nat} {d:DataW H} {ps:List MemPlace}
  (h:DataW.Trod enc Tryz.prog W 0 (fun _=>true) true 22 (.slice a0 len cap) d ps) (hb:Rows.uptoBulk d<=1048576):Zvk W (.slice a0 len cap) 1048576:=by
 obtain ⟨fuel,hf⟩:=h;rcases Deep.open_slice Tryz.underlying22 hf with ⟨hcs,_⟩ | ⟨a,l,c,m,n,D,Pl,hcs,_,hl,hm,hmm,hx,hall⟩
 ·simp [Value.cells] at hcs;obtain ⟨rfl,rfl,rfl⟩:=hcs;exact ⟨none,0,0,rfl,by decide,fun k hk=>absurd hk (by omega)⟩
 ·simp [Value.cells] at hcs;obtain ⟨rfl,rfl,rfl⟩:=hcs;have hlen:len<=1048576:=by
   have hd:d = .slice ((List.range len).map D) ((List.range (m - len)).map fun j=>D (len+j)):=congrArg Prod.fst hx;rw [hd] at hb;have h1:=Yfr ((List.range len).map D);simp only [Rows.uptoBulk] at hb;rw [List.length_map,List.length_range] at h1;omega
  refine ⟨some a,len,cap,rfl,hlen,fun k hk => ?_⟩;obtain ⟨cs,hcells,htrod⟩:=hall k (by rw [hmm]; simp; omega);rw [Zsu] at hcells;obtain ⟨hb,hlen,hcell⟩:=World.cells?_some hcells;obtain ⟨xs,n',_,_,hlen2,hxl,hfld⟩:=DataW.trod_struct Tryz.underlying78 htrod;have hx:∀ i,i<6->∃ x,xs[i]?=some x:=fun i hi=>⟨_,List.getElem?_eq_getElem (by rw [hxl]; exact hi)⟩;obtain ⟨x0,e0⟩:=hx 0 (by omega);obtain ⟨x1,e1⟩:=hx 1 (by omega);obtain ⟨x2,e2⟩:=hx 2 (by omega);obtain ⟨x3,e3⟩:=hx 3 (by omega);obtain ⟨x4,e4⟩:=hx 4 (by omega);obtain ⟨x5,e5⟩:=hx 5 (by omega);obtain ⟨k0,q0⟩:=Yfk hcell hlen (i:=0) (by omega) ((hfld 0 _ rfl).trans e0);obtain ⟨k1,q1,r1⟩:=Zpg hcell hlen (i:=1) (by omega) ((hfld 1 _ rfl).trans e1);obtain ⟨k2,q2,r2⟩:=Zpg hcell hlen (i:=2) (by omega) ((hfld 2 _ rfl).trans e2);obtain ⟨s3,q3,z3⟩:=Zqr hcell hlen (i:=3) (by omega) ((hfld 3 _ rfl).trans e3);obtain ⟨s4,q4,z4⟩:=Zqr hcell hlen (i:=4) (by omega) ((hfld 4 _ rfl).trans e4);obtain ⟨s5,q5,z5⟩:=Zqr hcell hlen (i:=5) (by omega) ((hfld 5 _ rfl).trans e5);have hblk:a.block<W.heap.size:=by
   have:=World.block_lt_of_cell? W _ q1;rw [Deep.add_add] at this;simpa [Addr.add] using this
  have hsp:a.spot=none:=by
   obtain ⟨cs',hcells',_⟩:=hall 0 (by rw [hmm]; simp; omega);rw [Zsu] at hcells';obtain ⟨_,hlen',hcell'⟩:=World.cells?_some hcells';have h1:=hcell' 0 (by omega);rw [List.getElem?_eq_getElem (by omega)] at h1;have h2:=Ydb h1;simpa [Addr.add] using h2
  simp only [Deep.add_add] at q0 q1 q2 q3 q4 q5;obtain ⟨b,o,sp⟩:=a;simp only at hsp;subst hsp;refine ⟨b,o,k0,k1,k2,s3,s4,s5,rfl,hblk,?_,?_,?_,?_,?_,?_,z3,z4,z5,r1,r2⟩
  ·simpa using Zfy q0 rfl
  ·simpa [Nat.add_assoc] using Zfy q1 rfl
  ·simpa [Nat.add_assoc] using Zfy q2 rfl
  ·simpa [Nat.add_assoc] using Zfy q3 rfl
  ·simpa [Nat.add_assoc] using Zfy q4 rfl
  ·simpa [Nat.add_assoc] using Zfy q5 rfl
theorem Zqx (os:Os) (args:Array Value):laidMetH Tryz.prog Rows.searchesUptoRow.laid ((World.doorLaid Tryz.prog 400 os).forCall (fun _ _=>0) ⟨#[],args,[]⟩).memory :=
 laidMetH_of_parts3 (fuel:=8) (laidMet_of_run' 8 (by kernel_rfl) (by kernel_rfl)) (by kernel_rfl) (by kernel_rfl)
theorem Znq (os:Os) {H:Type} (enc:TypeId × Value->H):DataW.whole enc Tryz.prog ((World.doorLaid Tryz.prog 400 os).forCall (fun _ _=>0) ⟨#[],#[.slice none 0 0],[]⟩).memory Tryz.f5.params.toList Rows.searchesSpec.vars false #[Value.slice none 0 0].toList 8=some ([.nil],[],[]):=by kernel_rfl
set_option maxRecDepth 100000 in
theorem Znh (os:Os) (started:os.Started) (H:Type) (enc:TypeId × Value->H) (F:Stop.Interp) :
  ReturnsInHanded {} Tryz.checked os 5 .any ((Rows.OpenSpec.upto Rows.searchesSpec).preRow enc Tryz.prog Tryz.f5 Rows.searchesUptoRow.domain false Rows.searchesUptoRow.laid) (((Rows.OpenSpec.upto Rows.searchesSpec).at F).post enc Tryz.prog Tryz.f5 false true false false):=by
 have hok:Input.okWideB Tryz.prog ((World.doorLaid Tryz.prog 400 os).forCall (fun _ _=>0) ⟨#[],#[.slice none 0 0],[]⟩) 5 ⟨#[],#[.slice none 0 0],[]⟩=true:=by kernel_rfl
 refine returnsInHanded_of_row (C:=Tryz.checked) (s:=Rows.OpenSpec.upto Rows.searchesSpec) own started (by kernel_rfl) Tryz.func5
  ⟨World.doorLaid Tryz.prog 400 os,fun _ _=>0,⟨#[],#[.slice none 0 0],[]⟩,rfl,World.shaped_of_RefB (by kernel_rfl) (by kernel_rfl),(Input.okWide_of_okWideB (base:=0) hok).1,(Input.okWide_of_okWideB hok).2,
   OpenSpec.preRow_of_cond 8 (Znq os enc) (by kernel_rfl) (fun k hk=>by cases hk; kernel_rfl) (by kernel_rfl) (Zqx os _),by
    simp only [Assume.holds];exact ⟨by simp,by simp,fun _=>Modest.zero,by simp,by simp⟩⟩ ?_
 intro W base args ds gs before hval0 hW _ hcond _ hL _ _;have hval:∀ (j:Nat) t v,Tryz.f5.params[j]?=some t->args[j]?=some v->Value.okWide Tryz.prog W .any base t v:=hval0;have hbk:Rows.uptoBulkAll (ds++gs)<=1048576:=of_decide_eq_true (hcond _ rfl);have hW':=hW;obtain ⟨p,q,hA0,hV,rfl,hfz,hnd⟩:=hW;have hA:DataW.TrodAll enc Tryz.prog W 0 (fun _=>true) true Tryz.f5.params.toList args.toList ds p:=hA0;rw [Tryz.params5] at hA hval;obtain ⟨v0,d0,rfl,rfl,h0⟩:=trodAll_one hA;obtain ⟨rfl,rfl⟩:=trodVars_none hV;have lt0:∀ x ∈ p,x.block<W.heap.size:=by obtain ⟨m,hm⟩:=h0; exact DataW.trod_lt m _ _ _ hm
 obtain ⟨a0,len0,cap0,rfl⟩:=okWide_slice Tryz.underlying22 (hval 0 22 v0 rfl rfl);have hst:=Yfs h0 (by simp only [List.append_nil,Rows.uptoBulkAll] at hbk; omega);clear hA0 hval0;refine (Zqw _ W hst).mono fun e W' ⟨he,bel⟩ => ?_;subst he;exact ⟨_,rfl,_,_,_,[],_,[],hW',trodAll_mk1 (shut_bool Tryz.underlying4 _),trodAll_mk1 (Below.trod Yhr (by kernel_rfl) (of_decide_eq_true (by kernel_rfl)) h0 bel lt0),rfl,bel.frame _,fun h=>by cases h⟩
theorem Ztj:Rows.SearchesUptoSaid :=
 OpenClaim.holds_of_cond 5 Tryz.f5 rfl rfl rfl rfl rfl rfl rfl ⟨rfl,rfl,rfl,rfl,rfl⟩ rfl rfl rfl rfl rfl (by kernel_rfl) Tryz.func5 (by kernel_rfl)
  (of_decide_eq_true (by kernel_rfl)) (by unfold Func.isWrapper; first | (rw [if_pos (by decide +kernel)]; kernel_rfl) | (rw [if_neg (by decide +kernel)]; exact ⟨rfl,rfl⟩))
  (fun os started H enc _ F=>by rw [OpenClaim.pre_eq_preRow]; exact Znh os started H enc F)
theorem searches_hold:Rows.SearchesUptoCardSaid :=
 Claim7.holds_tied_plain_at .later [] [.data,.data,.data] true Rows.searchesUptoCard.stood.harness false
  Ztj (fun _ h=>by cases h) (by kernel_rfl) (fun _ h=>by cases h) searchesUpto_row_tie rfl ⟨rfl,rfl⟩ (by kernel_rfl) rfl
  (fun f fn hf hfn=>by
   obtain rfl:f=5:=Option.some.inj ((show Tryz.prog.funcNamed Tryz.f5.name=some 5 by kernel_rfl).symm.trans hf) |>.symm;obtain rfl:fn=Tryz.f5:=(Option.some.inj (Tryz.func5.symm.trans hfn)).symm;exact ⟨by kernel_rfl,fun j t ht=>by
    rw [Tryz.params5] at ht;have hm:t ∈ [22]:=by simpa using Array.mem_of_getElem? ht
    have hall:([22].all fun u => !Tryz.prog.wantsStandIn u)=true:=by kernel_rfl
    exact (show Tryz.prog.wantsStandIn t=false by simpa using List.all_eq_true.1 hall t hm)⟩)
  (by kernel_rfl)
end Go.Proofs.YtlmjilpjmgjjcaaGreatDoor
