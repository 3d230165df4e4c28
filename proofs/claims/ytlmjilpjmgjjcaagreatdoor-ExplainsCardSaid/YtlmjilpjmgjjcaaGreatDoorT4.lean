/-
  PROVED HERE: plain facts: the program's reader lets by what the reference's look lets by, token by token (the conditions stand in each statement).
-/
import Derived.Test.YtlmjilpjmgjjcaaGreatDoorT3
import Derived.BigRegion
import Derived.Deep.RegionLaw
import Derived.Deep.RegionLawGrows
namespace Go.Proofs.YtlmjilpjmgjjcaaGreatDoor
open Go.RowKit
set_option linter.unusedSimpArgs false
set_option linter.unusedVariables false
structure Held (B:Nat) (w w':World):Prop where
 below:Below B w w'
 other:∀ (k:Nat) (cs:Array Value) (T:TypeId) (fr:Nat × Nat),w.heap[k]?=some (.cells cs T fr)→(T=224∨T=91)→w'.heap[k]?=w.heap[k]?
theorem Held.refl (B:Nat) (w:World):Held B w w:=⟨Below.refl _ _,fun _ _ _ _ _ _=>rfl⟩
theorem Held.trans {B:Nat} {a b c:World} (h:Held B a b) (k:Held B b c):Held B a c :=
 ⟨h.below.trans k.below,fun i cs T fr hb hT=>(k.other i cs T fr ((h.other i cs T fr hb hT).trans hb) hT).trans (h.other i cs T fr hb hT)⟩
theorem Held.drew {B:Nat} {a w:World} (h:Held B a w):Held B a w.drew:=⟨h.below.drew,h.other⟩
theorem Held.fresh {B:Nat} {w w':World} (h:Kept Zbg w w') (hB:B≤w.heap.size):Held B w w':=⟨h.below hB (fun _ h=>h.elim),fun k _ _ _ hb _=>h.block k (Zac hb) (fun h=>h)⟩
section
variable {w w':World} {B rb:Nat} {st:RS} {V:RV} {Sa Sb:Nat} {vs:List Value} {xs:List (List Value)}
theorem IsR.below (h:IsR w B rb st V Sa Sb vs xs) {X:Value} {eX:TypeId} {sX nX:Nat} {yX:List Value} (hk:Kept (Zev rb X) w w') (hX:w.ownsRow B eX sX X nX yX) (he:eX≠224∧eX≠91):Held B w w' :=
 ⟨hk.below (Nat.le_of_lt (Nat.lt_of_le_of_lt h.le (Zac h.blk))) (fun k hs=>by
  rcases hs with rfl | hs
  ·exact h.le
  ·exact (hX.lt k hs).1),fun k cs T fr hb hT=>by
  refine hk.block k (Zac hb) (fun hs => ?_)
  rcases hs with rfl | hs
  ·have e:=h.blk
   rw [hb] at e
   simp only [Option.some.injEq,Obj.cells.injEq] at e
   rcases hT with h1 | h1 <;> exact absurd (e.2.1.symm.trans h1) (by decide)
  ·obtain ⟨cur,hc⟩:=Zap hX k hs
   rw [hb] at hc
   simp only [Option.some.injEq,Obj.cells.injEq] at hc
   rcases hT with h1 | h1
   ·exact he.1 (hc.2.1.symm.trans h1)
   ·exact he.2 (hc.2.1.symm.trans h1)⟩
theorem IsR.only (h:IsR w B rb st V Sa Sb vs xs) (hk:Kept (Zev rb (.slice none 0 0)) w w') (st':RS) (hblk:w'.heap[rb]?=some (.cells (Zdg st' V) 169 (0,0)))
  (e1:st'.atom=st.atom) (e2:st'.opn=st.opn) (e3:st'.vars=st.vars) (e4:st'.head=st.head) (e5:st'.body=st.body) (e6:st'.clauses=st.clauses):IsR w' B rb st' V Sa Sb vs xs:=by
 have hX:w.ownsRow B 169 1 (.slice none 0 0) 0 []:=World.ownsRow_nil _ _ _ _
 have r:=h.rest
 refine ⟨hblk,⟨?_,?_,?_,?_,?_,?_,r.ta,r.tb,r.tv,Nat.le_trans r.la hk.size,Nat.le_trans r.lb hk.size⟩,h.le⟩
 ·rw [e1]; exact Zci r.atom hk h.blk hX (by decide) (by decide)
 ·rw [e2]; exact Zci r.opn hk h.blk hX (by decide) (by decide)
 ·rw [e3]; exact Zci r.vars hk h.blk hX (by decide) (by decide)
 ·rw [e4]; exact Zfd r.head hk h.blk hX (Or.inl (by decide))
 ·rw [e5]; exact Zfi r.body hk h.blk hX (Or.inl (by decide)) (Or.inl (by decide))
 ·rw [e6]; exact Zio r.cls hk h.blk hX (Or.inl (by decide)) (Or.inl (by decide)) (by decide) (Or.inl (by decide))
theorem IsR.opened (h:IsR w B rb st V Sa Sb vs xs) (hk:Kept (Zev rb V.o) w w') (l:List Nat) (o':Value) (hblk:w'.heap[rb]?=some (.cells (Zdg { st with opn:=l } { V with o:=o' }) 169 (0,0)))
  (ho:w'.ownsRow B 3 1 o' l.length (ints l.reverse)):IsR w' B rb { st with opn:=l } { V with o:=o' } Sa Sb vs xs:=by
 have r:=h.rest
 exact ⟨hblk,⟨Zci r.atom hk h.blk r.opn (by decide) (by decide),ho,Zci r.vars hk h.blk r.opn (by decide) (by decide),Zfd r.head hk h.blk r.opn (Or.inl (by decide)),
  Zfi r.body hk h.blk r.opn (Or.inl (by decide)) (Or.inl (by decide)),Zio r.cls hk h.blk r.opn (Or.inl (by decide)) (Or.inl (by decide)) (by decide) (Or.inl (by decide)),r.ta,r.tb,r.tv,Nat.le_trans r.la hk.size,Nat.le_trans r.lb hk.size⟩,h.le⟩
theorem IsR.named (h:IsR w B rb st V Sa Sb vs xs) (hk:Kept (Zev rb V.v) w w') (l:Names) (v':Value) (hblk:w'.heap[rb]?=some (.cells (Zdg { st with vars:=l } { V with v:=v' }) 169 (0,0)))
  (ho:w'.ownsRow B 9 1 v' l.length (strs l)) (htv:∀ k,v'.ownBlock=some k→Sb≤k):IsR w' B rb { st with vars:=l } { V with v:=v' } Sa Sb vs xs:=by
 have r:=h.rest
 exact ⟨hblk,⟨Zci r.atom hk h.blk r.vars (by decide) (by decide),Zci r.opn hk h.blk r.vars (by decide) (by decide),ho,Zfd r.head hk h.blk r.vars (Or.inl (by decide)),
  Zfi r.body hk h.blk r.vars (Or.inl (by decide)) (Or.inl (by decide)),Zio r.cls hk h.blk r.vars (Or.inl (by decide)) (Or.inl (by decide)) (by decide) (Or.inr r.tv),r.ta,r.tb,htv,Nat.le_trans r.la hk.size,Nat.le_trans r.lb hk.size⟩,h.le⟩
theorem IsR.atoms (h:IsR w B rb st V Sa Sb vs xs) (hk:Kept (Zev rb V.a) w w') (l:List Sym) (a':Value) (hblk:w'.heap[rb]?=some (.cells (Zdg { st with atom:=l } { V with a:=a' }) 169 (0,0)))
  (ho:w'.ownsRow B 133 3 a' l.length (Zam l)) (hta:∀ k,a'.ownBlock=some k→Sa≤k):IsR w' B rb { st with atom:=l } { V with a:=a' } Sa Sb vs xs:=by
 have r:=h.rest
 exact ⟨hblk,⟨ho,Zci r.opn hk h.blk r.atom (by decide) (by decide),Zci r.vars hk h.blk r.atom (by decide) (by decide),Zfd r.head hk h.blk r.atom (Or.inr r.ta),
  Zfi r.body hk h.blk r.atom (Or.inr r.ta) (Or.inl (by decide)),Zio r.cls hk h.blk r.atom (Or.inr r.ta) (Or.inl (by decide)) (by decide) (Or.inl (by decide)),hta,r.tb,r.tv,Nat.le_trans r.la hk.size,Nat.le_trans r.lb hk.size⟩,h.le⟩
theorem SymRow.more {v:Value} {l:List Sym} {S':Nat} (h:SymRow w B Sa v l) (hS:Sa≤S'):SymRow w B S' v l:=⟨h.1,fun k hk=>Nat.lt_of_lt_of_le (h.2 k hk) hS⟩
theorem BodyRow.more {v:Value} {ls:List (List Sym)} {ws:List Value} {S':Nat} (h:BodyRow w B Sa v ls ws) (hS:Sa≤S'):BodyRow w B S' v ls ws :=
 ⟨h.1,fun i l hl=>by obtain ⟨x,h1,h2⟩:=h.2 i l hl; exact ⟨x,h1,h2.more hS⟩⟩
theorem CCRow.more {v:Value} {cs:List CC} {ys:List (List Value)} {S' T':Nat} (h:CCRow w B Sa Sb v cs ys) (hS:Sa≤S') (hT:Sb≤T'):CCRow w B S' T' v cs ys :=
 ⟨h.1,h.2.1,h.2.2.1,fun i c hc=>by
  obtain ⟨hv,bv,vv,us,e1,e2,e3,e4⟩:=h.2.2.2 i c hc
  exact ⟨hv,bv,vv,us,e1,e2.more hS,e3.more hS,fun k hk=>Nat.lt_of_lt_of_le (e4.1 k hk) hT,e4.2.1,fun k hk=>Nat.lt_of_lt_of_le (e4.2.2 k hk) hT⟩⟩
theorem IsR.headed (h:IsR w B rb st V Sa Sb vs xs) (hk:Kept (Zev rb (.slice none 0 0)) w w') (hblk:w'.heap[rb]?=some (.cells (Zdg { st with head:=st.atom,atom:=[] } { V with h:=V.a,a := .slice none 0 0 }) 169 (0,0))) :
  IsR w' B rb { st with head:=st.atom,atom:=[] } { V with h:=V.a,a := .slice none 0 0 } w'.heap.size Sb vs xs:=by
 have hX:w.ownsRow B 169 1 (.slice none 0 0) 0 []:=World.ownsRow_nil _ _ _ _
 have r:=h.rest
 have hs:Sa≤w'.heap.size:=Nat.le_trans r.la hk.size
 have ha:=Zci r.atom hk h.blk hX (by decide) (by decide)
 exact ⟨hblk,⟨World.ownsRow_nil _ _ _ _,Zci r.opn hk h.blk hX (by decide) (by decide),Zci r.vars hk h.blk hX (by decide) (by decide),⟨ha,fun k e=>(ha.lt k e).2⟩,
  (Zfi r.body hk h.blk hX (Or.inl (by decide)) (Or.inl (by decide))).more hs,(Zio r.cls hk h.blk hX (Or.inl (by decide)) (Or.inl (by decide)) (by decide) (Or.inl (by decide))).more hs (Nat.le_refl _),fun k e=>by simp [Value.ownBlock] at e,r.tb,r.tv,Nat.le_refl _,Nat.le_trans r.lb hk.size⟩,h.le⟩
theorem IsR.bodied (h:IsR w B rb st V Sa Sb vs xs) (hk:Kept (Zev rb V.b) w w') (b':Value) (hblk:w'.heap[rb]?=some (.cells (Zdg { st with body:=st.body++[st.atom],atom:=[] } { V with b:=b',a := .slice none 0 0 }) 169 (0,0)))
  (ho:w'.ownsRow B 105 1 b' (st.body.length+1) (vs++[V.a])) (htb:∀ k,b'.ownBlock=some k→Sb≤k) :
  IsR w' B rb { st with body:=st.body++[st.atom],atom:=[] } { V with b:=b',a := .slice none 0 0 } w'.heap.size Sb (vs++[V.a]) xs:=by
 have r:=h.rest
 have hs:Sa≤w'.heap.size:=Nat.le_trans r.la hk.size
 have ha:=Zci r.atom hk h.blk r.body.1 (by decide) (by decide)
 have hvl:vs.length=st.body.length:=by have:=r.body.1.1; omega
 refine ⟨hblk,⟨World.ownsRow_nil _ _ _ _,Zci r.opn hk h.blk r.body.1 (by decide) (by decide),Zci r.vars hk h.blk r.body.1 (by decide) (by decide),(Zfd r.head hk h.blk r.body.1 (Or.inl (by decide))).more hs,?_,
  (Zio r.cls hk h.blk r.body.1 (Or.inl (by decide)) (Or.inr r.tb) (by decide) (Or.inl (by decide))).more hs (Nat.le_refl _),fun k e=>by simp [Value.ownBlock] at e,htb,r.tv,Nat.le_refl _,Nat.le_trans r.lb hk.size⟩,h.le⟩
 refine ⟨by simpa using ho,fun i l hl => ?_⟩
 rcases Nat.lt_or_ge i st.body.length with hi | hi
 ·simp only at hl
  rw [List.getElem?_append_left hi] at hl
  obtain ⟨x,h1,h2⟩:=r.body.2 i l hl
  exact ⟨x,by rw [List.getElem?_append_left (by omega)]; exact h1,(Zfd h2 hk h.blk r.body.1 (Or.inl (by decide))).more hs⟩
 ·have hi':i=st.body.length:=by
   have:i<(st.body++[st.atom]).length:=(List.getElem?_eq_some_iff.1 hl).1
   simp at this; omega
  subst hi'
  simp at hl
  subst hl
  exact ⟨V.a,by rw [← hvl]; simp,ha,fun k e=>(ha.lt k e).2⟩
theorem IsR.clausd (h:IsR w B rb st V Sa Sb vs xs) (hk:Kept (Zev rb V.c) w w') (c':Value) (st':RS) (hblk:w'.heap[rb]?=some (.cells (Zdg st' { V with c:=c',h := .slice none 0 0,b := .slice none 0 0,v := .slice none 0 0 }) 169 (0,0)))
  (ho:w'.ownsRow B 107 3 c' (st.clauses.length+1) (xs.flatten++[V.h,V.b,V.v]))
  (e1:st'.atom=st.atom) (e2:st'.opn=st.opn) (e3:st'.vars=[]) (e4:st'.head=[]) (e5:st'.body=[]) (e6:st'.clauses=st.clauses++[⟨st.head,st.body,st.vars⟩]) :
  IsR w' B rb st' { V with c:=c',h := .slice none 0 0,b := .slice none 0 0,v := .slice none 0 0 } Sa w'.heap.size [] (xs++[[V.h,V.b,V.v]]):=by
 have r:=h.rest
 have hs:Sb≤w'.heap.size:=Nat.le_trans r.lb hk.size
 have hbd:=Zfi r.body hk h.blk r.cls.1 (Or.inl (by decide)) (Or.inl (by decide))
 have hvd:=Zci r.vars hk h.blk r.cls.1 (by decide) (by decide)
 refine ⟨hblk,⟨?_,?_,?_,?_,?_,?_,r.ta,fun k e=>by simp [Value.ownBlock] at e,fun k e=>by simp [Value.ownBlock] at e,Nat.le_trans r.la hk.size,Nat.le_refl _⟩,h.le⟩
 ·rw [e1]; exact Zci r.atom hk h.blk r.cls.1 (by decide) (by decide)
 ·rw [e2]; exact Zci r.opn hk h.blk r.cls.1 (by decide) (by decide)
 ·rw [e3]; exact World.ownsRow_nil _ _ _ _
 ·rw [e4]; exact ⟨World.ownsRow_nil _ _ _ _,fun k e=>by simp [Value.ownBlock] at e⟩
 ·rw [e5]; exact ⟨World.ownsRow_nil _ _ _ _,fun i l hl=>by simp at hl⟩
 ·rw [e6]
  refine ⟨by simpa using ho,by simp [r.cls.2.1],?_,fun i c hc => ?_⟩
  ·intro x hx
   simp at hx
   rcases hx with hx | rfl
   ·exact r.cls.2.2.1 x hx
   ·rfl
  ·rcases Nat.lt_or_ge i st.clauses.length with hi | hi
   ·rw [List.getElem?_append_left hi] at hc
    obtain ⟨hv,bv,vv,us,d1,d2,d3,d4⟩:=r.cls.2.2.2 i c hc
    exact ⟨hv,bv,vv,us,by rw [List.getElem?_append_left (by rw [r.cls.2.1]; exact hi)]; exact d1,Zfd d2 hk h.blk r.cls.1 (Or.inl (by decide)),Zfi d3 hk h.blk r.cls.1 (Or.inl (by decide)) (Or.inl (by decide)),fun k e=>Nat.lt_of_lt_of_le (d4.1 k e) hs,Zci d4.2.1 hk h.blk r.cls.1 (by decide) (by decide),fun k e=>Nat.lt_of_lt_of_le (d4.2.2 k e) hs⟩
   ·have hi':i=st.clauses.length:=by
     have:i<(st.clauses++[(⟨st.head,st.body,st.vars⟩:CC)]).length:=(List.getElem?_eq_some_iff.1 hc).1
     simp at this; omega
    subst hi'
    simp at hc
    subst hc
    exact ⟨V.h,V.b,V.v,vs,by rw [← r.cls.2.1]; simp,Zfd r.head hk h.blk r.cls.1 (Or.inl (by decide)),hbd,fun k e=>(hbd.1.lt k e).2,hvd,fun k e=>(hvd.lt k e).2⟩
end
def IsRx (w:World) (B rb:Nat) (st:RS):Prop:=∃ V Sa Sb vs xs,IsR w B rb st V Sa Sb vs xs
theorem Zgw {w w1:World} {rb:Nat} {X:Value} (h:Kept (Zbd X) w w1) (i:Nat) (u:Value):Kept (Zev rb X) w (w1.setCell ⟨rb,i,none⟩ u) :=
 Kept.setCell (S:=Zev rb X) (h.mono (fun _ _ e=>Or.inr e)) (p:=⟨rb,i,none⟩) (fun _=>Or.inl rfl) u
theorem Zdo {w w1:World} {rb:Nat} {X:Value} (h:Kept (Zev rb X) w w1) (i:Nat) (u:Value):Kept (Zev rb X) w (w1.setCell ⟨rb,i,none⟩ u) :=
 Kept.setCell (S:=Zev rb X) h (p:=⟨rb,i,none⟩) (fun _=>Or.inl rfl) u
def Ziz (st:RS):RS := { st with opn:=st.opn.tail }
set_option maxRecDepth 10000 in
set_option maxHeartbeats 800000 in
theorem close_any (w:World) (B rb:Nat) (st:RS) (h:IsRx w B rb st) (hl:st.opn.length≤4096) :
  Calls Tryz.prog 170 #[.pointer (some ⟨rb,0,none⟩)] w fun e w'=>e = .returned (.tuple #[])∧IsRx w' B rb (Ziz st)∧Held B w w':=by
 obtain ⟨V,Sa,Sb,vs,xs,h⟩:=h
 obtain ⟨c0,c1,c2,c3,c4,c5,c6,c7,c8⟩:=h.opens.facts
 have hf:=fun i=>Zae h.blk i
 have hrb:=Zac h.blk
 obtain ⟨oa,ocap,hvo⟩:=Zad h.rest.opn
 cases hst:st.opn with
 | nil =>
  rw [hvo] at c4
  simp only [hst,List.length_nil] at c4
  have Hr:Hid (Ziz st=st):=by
   show _=_
   cases st
   simp only at hst
   subst hst
   rfl
  have H:=Zaa h
  clear h hvo hst
  go_enter Tryz.func170,Tryz.ntmps170
  go_wp2
  go_end0
  rw [Hr.out]
  exact ⟨rfl,⟨V,Sa,Sb,vs,xs,H.out⟩,Held.refl _ _⟩
 | cons n r =>
  have hrl:r.length+1≤4096:=by rw [hst] at hl; simpa using hl
  have hop:=h.rest.opn
  rw [hst,hvo,hst] at hop
  obtain ⟨g,gcap,gcur,he,hBg,hg,hcap⟩:=Zal hop (by simp)
  simp only [Value.slice.injEq] at he
  obtain ⟨rfl,_,rfl⟩:=he
  rw [hvo] at c4
  simp only [hst,List.length_cons] at c4 hcap hop
  have hpop:=Zlr (n:=r.length) hop
  have hvo':V.o = .slice (some ⟨g,0,none⟩) (r.length+1) ocap:=by rw [hvo,hst]; rfl
  have H:=Zaa h
  have Hst:=Zaa hst
  have Hpop:=Zaa hpop
  have Hvo:=Zaa hvo'
  clear h hvo hst hop hg hpop hvo'
  go_enter Tryz.func170,Tryz.ntmps170
  go_wp2_with fail
  go_region
  go_end0
  have hk:Kept (Zev rb V.o) w (w.setCell ⟨rb,4,none⟩ (.slice (some ⟨g,0,none⟩) r.length ocap)):=(Kept.refl _ w).setCell (p:=⟨rb,4,none⟩) (fun _=>Or.inl rfl) _
  have hpop':(w.setCell ⟨rb,4,none⟩ (.slice (some ⟨g,0,none⟩) r.length ocap)).ownsRow B 3 1 (.slice (some ⟨g,0,none⟩) r.length ocap) r.length (ints r.reverse):=by
   have e:(ints (n::r).reverse).take r.length=ints r.reverse:=by simp [ints]
   have h2:=Hpop.out
   rw [e] at h2
   exact ((Kept.refl (only rb) w).put 4 _).owns h2 (fun k hko e=>by
    have e:k=rb:=e
    rw [e] at hko
    exact Zah h2 (by decide) H.out.blk hko)
  have hR:=H.out.opened hk r (.slice (some ⟨g,0,none⟩) r.length ocap) (Zai H.out.blk 4 _) hpop'
  have hc:Ziz st = { st with opn:=r }:=by simp [Ziz,Hst.out]
  rw [hc]
  refine ⟨rfl,⟨_,Sa,Sb,vs,xs,⟨hR.blk,⟨hR.rest.atom,hR.rest.opn,hR.rest.vars,hR.rest.head,hR.rest.body,hR.rest.cls,hR.rest.ta,hR.rest.tb,hR.rest.tv,hR.rest.la,hR.rest.lb⟩,hR.le⟩⟩,?_⟩
  exact (H.out.below hk H.out.rest.opn (by decide)).drew
def varS (st:RS) (t:List UInt8):RS := { st with vars:=(Zbo st.vars t).1 }
set_option maxRecDepth 10000 in
set_option maxHeartbeats 800000 in
theorem Zrp (w:World) (B rb:Nat) (st:RS) (t:List UInt8) (h:IsRx w B rb st) (hl:st.vars.length≤4096) :
  Calls Tryz.prog 169 #[.pointer (some ⟨rb,0,none⟩),.string ⟨t.toArray⟩] w fun e w'=>e = .returned (.int .i64 (Zbo st.vars t).2)∧IsRx w' B rb (varS st t)∧Held B w w':=by
 obtain ⟨V,Sa,Sb,vs,xs,h⟩:=h
 obtain ⟨c0,c1,c2,c3,c4,c5,c6,c7,c8⟩:=h.opens.facts
 have hrb:=Zac h.blk
 obtain ⟨va,vcap,hvv⟩:=Zad h.rest.vars
 have hown:=h.rest.vars
 rw [hvv] at c7 hown
 have H:=Zaa h
 have Hown:=Zaa hown
 have Hvv:=Zaa hvv
 have hBw:B≤w.heap.size:=by have:=h.le; omega
 clear h hown hvv
 go_enter Tryz.func169,Tryz.ntmps169
 go_wp2
 go_loop [13] (fun i=>∃ k:Nat,k≤st.vars.length∧i = .int .i64 k∧t ∉ st.vars.take k) (fun i=>st.vars.length - (intOf i).toNat)
 case atStart=>exact ⟨0,Nat.zero_le _,rfl,by simp⟩
 case round =>
  obtain ⟨k,hk,rfl,hnot⟩:=hrel
  have Hnot:=Zaa hnot
  clear hnot
  by_cases hlt:k<st.vars.length
  ·obtain ⟨g,cap',cur,he,hBg,hg,hcp⟩:=Zal Hown.out (by omega)
   simp only [Value.slice.injEq] at he
   obtain ⟨rfl,_,rfl⟩:=he
   obtain ⟨nm,hnm⟩:∃ nm,nm=st.vars[k]:=⟨_,rfl⟩
   have hc:w.cell? ⟨g,k,none⟩=some (.string ⟨nm.toArray⟩):=Zaf Hown.out k _ (by simp [strs,hlt,hnm])
   have Hnm:=Zaa hnm
   clear hg hnm
   go_wp2
   ·have hq:nm=t:=eq_of_beq (by assumption)
    go_ret
    have hr:=Zld hlt (Hnm.out.symm.trans hq) Hnot.out
    rw [varS,hr]
    exact ⟨rfl,⟨V,Sa,Sb,vs,xs,H.out⟩,Held.refl _ _⟩
   ·have hq:nm≠t:=ne_of_beq_false (by assumption)
    go_round
    case rel=>exact ⟨k+1,by omega,by go_num,not_on hlt (fun h=>hq (Hnm.out.trans h)) Hnot.out⟩
    case measure=>simp [intOf]; omega
  ·have Hmiss:=Zaa (Zju hlt Hnot.out)
   go_wp2_with (at_builtin; refine Zaj _ rfl (.tmp 28) (.tmp 30) 47 rfl B 9 Tryz.infoStr Tryz.underlying47 rfl (by decide) _ st.vars.length (strs st.vars) rfl Hown.out _ rfl rfl rfl (Ztf _) ?_ hBw ?_)
   ·omega
   intro v' w1 hap
   obtain ⟨v1a,v1cap,rfl⟩:=Zad hap.owns
   have hnb:¬ Zbd (.slice va st.vars.length vcap) rb:=Zah Hown.out (by decide) H.out.blk
   have hblk1:=(hap.kept.block rb hrb hnb).trans H.out.blk
   have d7:w1.cell? ⟨rb,7,none⟩=some V.v:=Zab hblk1 7 _ rfl
   rw [Hvv.out] at d7
   have df:=fun i=>Zae hblk1 i
   have Hap:=Zaa hap
   have Hblk1:=Zaa hblk1
   clear hap hblk1 c0 c1 c2 c3 c4 c5 c6 c7 c8
   go_wp2
   go_ret
   have hk:Kept (Zev rb V.v) w (w1.setCell ⟨rb,7,none⟩ (.slice v1a (st.vars.length+1) v1cap)):=by
    rw [Hvv.out]
    exact Zgw Hap.out.kept 7 _
   have hrow:(w1.setCell ⟨rb,7,none⟩ (.slice v1a (st.vars.length+1) v1cap)).ownsRow B 9 1 (.slice v1a (st.vars.length+1) v1cap) (st.vars++[t]).length (strs (st.vars++[t])):=by
    have h2:=Hap.out.owns
    have h3:=((Kept.refl (only rb) w1).put 7 (.slice v1a (st.vars.length+1) v1cap)).owns h2 (fun k hko e=>by
     have e:k=rb:=e
     rw [e] at hko
     exact Zah h2 (by decide) Hblk1.out hko)
    simpa [strs] using h3
   have hR:=H.out.named hk (st.vars++[t]) (.slice v1a (st.vars.length+1) v1cap) (Zai Hblk1.out 7 _) hrow (fun k e=>by
    rcases Hap.out.where_ with hw | ⟨g,hw,hg⟩
    ·exact H.out.rest.tv k (by rw [Hvv.out]; exact hw.symm.trans e)
    ·have e2:=hw.symm.trans e
     simp only [Option.some.injEq] at e2
     have:=H.out.rest.lb
     omega)
   rw [varS,Hmiss.out]
   refine ⟨Zhv ?_,⟨_,Sa,Sb,vs,xs,hR⟩,H.out.below hk H.out.rest.vars (by decide)⟩
   omega
theorem Zdj {P:Program} {ops:Array Oper} {o:Oper} {a:Act} {K:Act→World→Prop} {Q:Exit→Act→World→Prop} {E:Prop} {W:World} (w:World) (hg:o.guard=none) (s x:Operand) (t:TypeId)
  (ho:o.op = .call { callee := .builtin .append,args:=#[s,x],argTypes:=#[t,t] })
  (base:Nat) (e:TypeId) {z:Value} {size bytes:Nat}
  (hinfo:(P.info? e).map (fun i=>(i.zero,i.size,i.bytes))=some (some z,size,bytes)) (ht:P.underlying t=some (.slice e)) (hzs:z.cells.size=size) (hsz:0<size)
  (v:Value) (n:Nat) (xs:List Value) (hs:a.eval s=v) (hown:w.ownsRow base e size v n xs)
  (news:Array Value) {N:Nat} (hx:a.eval x = .slice (some ⟨N,0,none⟩) 1 1) (hN:N=w.heap.size) (hl:news.size=size) (h1:∀ u ∈ news.toList,u.oneCell'=true)
  (hbig:(n+1) * (bytes+1)≤140737488355328) (hbase:base≤w.heap.size) (hW:W=w.alloc (.cells news e))
  (h:∀ v' w',Appended w base e size v (n+1) (xs++news.toList) v' w'→K (a.put o.dst v') w'):if Region.wanted o (yielded ops a.tmps)=true then Oper.wp P o a W K Q else E:=by
 have hw:Region.wanted o (yielded ops a.tmps)=true:=by simp [Region.wanted,hg]
 rw [if_pos hw,hW]
 exact Znx w s x t ho base e hinfo ht hzs hsz v n xs hs hown news hx hN hl h1 hbig hbase h
theorem Zrq {w w1:World} {o:Obj} {n rb:Nat} {X:Value} {cs:Array Value} {T:TypeId} (h:Kept (Zbd X) ((w.alloc o).drewN n) w1) (hb:w.heap[rb]?=some (.cells cs T (0,0))) (hx:¬ Zbd X rb):w1.heap[rb]?=some (.cells cs T (0,0)) :=
 (h.block rb (by have:=Zac hb; show rb<(w.alloc o).heap.size; simp; omega) hx).trans (Zag hb o)
def Zcv (st:RS):List Sym:=match st.opn with
 | []=>st.atom
 | n::_=>st.atom.modify n (fun s => { s with args:=s.args+1 })
def addS (st:RS) (s:Sym):RS := { st with atom:=Zcv st++[s] }
theorem Zhc (x:ByteArray) (y z:Int):∀ u ∈ (#[Value.string x,.int .i64 y,.int .i64 z]:Array Value).toList,u.oneCell'=true:=by
 intro u hu
 simp at hu
 rcases hu with rfl | rfl | rfl <;> rfl
theorem add_done {w w1:World} {B rb nd:Nat} {st:RS} {V:RV} {Sa Sb:Nat} {vs:List Value} {xs:List (List Value)} {s:Sym} {o:Obj} {a1:Option Addr} {a1cap:Nat} (H:IsR w B rb st V Sa Sb vs xs)
  (hap:Appended ((w.alloc o).drewN nd) B 133 3 V.a (st.atom.length+1) (Zam st.atom++[.string ⟨s.name.toArray⟩,.int .i64 s.num,.int .i64 s.args]) (.slice a1 (st.atom.length+1) a1cap) w1) :
  IsR (w1.setCell ⟨rb,3,none⟩ (.slice a1 (st.atom.length+1) a1cap)) B rb { st with atom:=st.atom++[s] } { V with a := .slice a1 (st.atom.length+1) a1cap } Sa Sb vs xs∧Held B w (w1.setCell ⟨rb,3,none⟩ (.slice a1 (st.atom.length+1) a1cap)):=by
 have hat:=H.rest.atom
 have hblk1:=Zrq hap.kept H.blk (Zah hat (by decide) H.blk)
 have hk:Kept (Zev rb V.a) w (w1.setCell ⟨rb,3,none⟩ (.slice a1 (st.atom.length+1) a1cap)):=Zgw ((((Kept.refl _ w).alloc _).drewN _).trans hap.kept) 3 _
 have hrow:(w1.setCell ⟨rb,3,none⟩ (.slice a1 (st.atom.length+1) a1cap)).ownsRow B 133 3 (.slice a1 (st.atom.length+1) a1cap) (st.atom++[s]).length (Zam (st.atom++[s])):=by
  have h2:=hap.owns
  have h3:=((Kept.refl (only rb) w1).put 3 (.slice a1 (st.atom.length+1) a1cap)).owns h2 (fun k hko e=>by
   have e:k=rb:=e
   rw [e] at hko
   exact Zah h2 (by decide) hblk1 hko)
  simpa [Zam,Zcd] using h3
 have hta:∀ k,(Value.slice a1 (st.atom.length+1) a1cap).ownBlock=some k→Sa≤k:=by
  intro k hk
  rcases hap.where_ with hw | ⟨g,hw,hg⟩
  ·exact H.rest.ta k (by rw [← hw]; exact hk)
  ·rw [hk] at hw
   simp at hw
   have:=H.rest.la
   have hg':w.heap.size+1≤g:=by simpa using hg
   omega
 exact ⟨H.atoms hk (st.atom++[s]) (.slice a1 (st.atom.length+1) a1cap) (Zai hblk1 3 _) hrow hta,H.below hk hat (by decide)⟩
theorem Zrr {w:World} {B:Nat} {e:TypeId} {g n cap size:Nat} {xs:List Value} (h:w.ownsRow B e size (.slice (some ⟨g,0,none⟩) n cap) n xs) (i:Nat) (u:Value) :
  (w.setCell ⟨g,i,none⟩ u).ownsRow B e size (.slice (some ⟨g,0,none⟩) n cap) n (xs.set i u):=by
 refine ⟨by simpa using h.1,?_⟩
 rcases h.2 with ⟨h1,_⟩ | ⟨g',cap',cur,h1,hb,hg,hn,hc,hs,ht⟩
 ·simp at h1
 ·simp at h1
  obtain ⟨rfl,rfl⟩:=h1
  refine .inr ⟨g,cap,cur.setIfInBounds i u,rfl,hb,Zai hg i u,hn,hc,by simpa using hs,?_⟩
  rw [← ht]
  simp [List.take_set]
theorem syms_bump (l:List Sym) (n:Nat) (s:Sym) (h:l[n]?=some s):Zam (l.modify n (fun s => { s with args:=s.args+1 }))=(Zam l).set (n * 3+2) (.int .i64 ((s.args:Int)+1)):=by
 induction l generalizing n with
 | nil=>simp at h
 | cons a l ih =>
  cases n with
  | zero =>
   simp at h; subst h
   simp [Zam,Zcd,List.modify]
  | succ n =>
   have:=ih n (by simpa using h)
   simp only [List.modify_succ_cons]
   show Zcd a++Zam _=(Zcd a++Zam l).set _ _
   rw [this,List.set_append_right _ _ (by simp [Zcd]; omega)]
   congr 2
   simp [Zcd]
   omega
set_option maxRecDepth 10000 in
set_option maxHeartbeats 1000000 in
theorem add_top (w:World) (B rb:Nat) (st:RS) (s:Sym) (h:IsRx w B rb st) (hb:RBd st) (ho:st.opn=[]) :
  Calls Tryz.prog 168 #[.pointer (some ⟨rb,0,none⟩),.agg #[.string ⟨s.name.toArray⟩,.int .i64 s.num,.int .i64 s.args]] w fun e w'=>e = .returned (.tuple #[])∧IsRx w' B rb (addS st s)∧Held B w w':=by
 obtain ⟨V,Sa,Sb,vs,xs,h⟩:=h
 have hrb:=Zac h.blk
 have hBw:B≤w.heap.size:=by have:=h.le; omega
 obtain ⟨aa,acap,hva⟩:=Zad h.rest.atom
 have hat:=h.rest.atom
 rw [hva] at hat
 have hla:=hb.atom
 have HW:∀ o,ROpen (w.alloc o) B rb st V:=fun o=>h.opens.later (S:=Zbg) ((Kept.refl _ w).alloc o) (fun h=>h) (fun _ _ h=>h) (fun _ _ h=>h)
 have HO:=Zaa (fun o=>Zmn (w.alloc o) B rb st V (HW o) hb.opn hb.atom)
 have hoi:Zfo st = -1:=by simp [Zfo,ho]
 have Hoi:=Zaa hoi
 obtain ⟨c0,c1,c2,c3,c4,c5,c6,c7,c8⟩:=h.opens.facts
 have hf:=fun i=>Zae h.blk i
 rw [hva] at c3
 have H:=Zaa h
 have Hat:=Zaa hat
 have Hva:=Zaa hva
 have Hadd:Hid (addS st s = { st with atom:=st.atom++[s] }):=by show _=_; simp [addS,Zcv,ho]
 clear h hat hva HW ho hoi
 go_enter Tryz.func168,Tryz.ntmps168
 go_wp2_with fail
 refine (HO.out _).mono ?_
 rintro e w1 ⟨rfl,nd,rfl⟩
 rw [Hoi.out]
 go_wp2_with fail
 go_region_law (refine Zdj ((w.alloc (.cells #[.string ⟨s.name.toArray⟩,.int .i64 s.num,.int .i64 s.args] 133)).drewN (nd+1)) rfl (.tmp 24) (.tmp 26) 105 rfl B 133 Tryz.infoSym Tryz.underlying105 rfl (by decide) (.slice aa st.atom.length acap) st.atom.length (Zam st.atom) rfl (Hat.out.alloc _) #[.string ⟨s.name.toArray⟩,.int .i64 s.num,.int .i64 s.args] rfl (by simp) rfl (Zhc _ _ _) (by omega) (by simp; omega) rfl ?_; intro v' w1 hap; obtain ⟨a1,a1cap,rfl⟩:=Zad hap.owns; have hblk1:=Zrq hap.kept H.out.blk (Zah Hat.out (by decide) H.out.blk); have d3:w1.cell? ⟨rb,3,none⟩=some V.a:=Zab hblk1 3 _ rfl; have df:=fun i=>Zae hblk1 i; have Hap:=Zaa hap; have Hblk1:=Zaa hblk1; clear hap hblk1)
 all_goals
  go_end0
  rw [Hadd.out]
  have hap:=Hap.out
  rw [← Hva.out] at hap
  obtain ⟨hR,hB⟩:=add_done H.out hap
  exact ⟨rfl,⟨_,Sa,Sb,vs,xs,hR⟩,hB⟩
theorem IsR.fresh {w w':World} {B rb:Nat} {st:RS} {V:RV} {Sa Sb:Nat} {vs:List Value} {xs:List (List Value)} (h:IsR w B rb st V Sa Sb vs xs) (hk:Kept Zbg w w'):IsR w' B rb st V Sa Sb vs xs :=
 h.only (hk.mono (fun _ _ h=>h.elim)) st ((hk.block rb (Zac h.blk) (fun h=>h)).trans h.blk) rfl rfl rfl rfl rfl rfl
theorem IsR.counted {w:World} {B rb:Nat} {st:RS} {V:RV} {Sa Sb:Nat} {vs:List Value} {xs:List (List Value)} {n g acap:Nat} {r:List Nat} {so:Sym} (h:IsR w B rb st V Sa Sb vs xs) (ho:st.opn=n::r) (hso:st.atom[n]?=some so)
  (hva:V.a = .slice (some ⟨g,0,none⟩) st.atom.length acap):IsR (w.setCell ⟨g,n * 3+2,none⟩ (.int .i64 ((so.args:Int)+1))) B rb { st with atom:=Zcv st } V Sa Sb vs xs∧Held B w (w.setCell ⟨g,n * 3+2,none⟩ (.int .i64 ((so.args:Int)+1))):=by
 have hat:=h.rest.atom
 rw [hva] at hat
 have hgb:¬ rb=g:=fun e=>by subst e; exact Zah hat (by decide) h.blk rfl
 have hrow1:=Zrr hat (n * 3+2) (.int .i64 ((so.args:Int)+1))
 rw [← syms_bump st.atom n so hso] at hrow1
 have hblkW:(w.setCell ⟨g,n * 3+2,none⟩ (.int .i64 ((so.args:Int)+1))).heap[rb]?=some (.cells (Zdg st V) 169 (0,0)):=by
  rw [Below.heap_setCell _ _ _ _ hgb]; exact h.blk
 have hkW:Kept (Zev rb V.a) w (w.setCell ⟨g,n * 3+2,none⟩ (.int .i64 ((so.args:Int)+1))):=(Kept.refl _ w).setCell (p:=⟨g,n * 3+2,none⟩) (fun _=>Or.inr (by rw [hva]; rfl)) _
 have hbl:(Zcv st).length=st.atom.length:=by simp [Zcv,ho]
 have hbs:Zcv st=st.atom.modify n (fun s => { s with args:=s.args+1 }):=by simp [Zcv,ho]
 exact ⟨h.atoms hkW (Zcv st) V.a hblkW (by rw [hbl,hbs,hva]; exact hrow1) h.rest.ta,h.below hkW h.rest.atom (by decide)⟩
theorem Zfs {w w1:World} {n rb:Nat} {X:Value} {cs:Array Value} {T:TypeId} (h:Kept (Zbd X) (w.drewN n) w1) (hb:w.heap[rb]?=some (.cells cs T (0,0))) (hx:¬ Zbd X rb):w1.heap[rb]?=some (.cells cs T (0,0)) :=
 (h.block rb (Zac hb) hx).trans hb
theorem add_done0 {w w1:World} {B rb nd:Nat} {st:RS} {V:RV} {Sa Sb:Nat} {vs:List Value} {xs:List (List Value)} {s:Sym} {a1:Option Addr} {a1cap:Nat} (H:IsR w B rb st V Sa Sb vs xs)
  (hap:Appended (w.drewN nd) B 133 3 V.a (st.atom.length+1) (Zam st.atom++[.string ⟨s.name.toArray⟩,.int .i64 s.num,.int .i64 s.args]) (.slice a1 (st.atom.length+1) a1cap) w1) :
  IsR (w1.setCell ⟨rb,3,none⟩ (.slice a1 (st.atom.length+1) a1cap)) B rb { st with atom:=st.atom++[s] } { V with a := .slice a1 (st.atom.length+1) a1cap } Sa Sb vs xs∧Held B w (w1.setCell ⟨rb,3,none⟩ (.slice a1 (st.atom.length+1) a1cap)):=by
 have hat:=H.rest.atom
 have hblk1:=Zfs hap.kept H.blk (Zah hat (by decide) H.blk)
 have hk:Kept (Zev rb V.a) w (w1.setCell ⟨rb,3,none⟩ (.slice a1 (st.atom.length+1) a1cap)):=Zgw (((Kept.refl _ w).drewN _).trans hap.kept) 3 _
 have hrow:(w1.setCell ⟨rb,3,none⟩ (.slice a1 (st.atom.length+1) a1cap)).ownsRow B 133 3 (.slice a1 (st.atom.length+1) a1cap) (st.atom++[s]).length (Zam (st.atom++[s])):=by
  have h2:=hap.owns
  have h3:=((Kept.refl (only rb) w1).put 3 (.slice a1 (st.atom.length+1) a1cap)).owns h2 (fun k hko e=>by
   have e:k=rb:=e
   rw [e] at hko
   exact Zah h2 (by decide) hblk1 hko)
  simpa [Zam,Zcd] using h3
 have hta:∀ k,(Value.slice a1 (st.atom.length+1) a1cap).ownBlock=some k→Sa≤k:=by
  intro k hk
  rcases hap.where_ with hw | ⟨g,hw,hg⟩
  ·exact H.rest.ta k (by rw [← hw]; exact hk)
  ·rw [hk] at hw
   simp at hw
   have:=H.rest.la
   have hg':w.heap.size≤g:=by simpa using hg
   omega
 exact ⟨H.atoms hk (st.atom++[s]) (.slice a1 (st.atom.length+1) a1cap) (Zai hblk1 3 _) hrow hta,H.below hk hat (by decide)⟩
set_option maxRecDepth 10000 in
set_option maxHeartbeats 1000000 in
theorem add_in (w:World) (B rb:Nat) (st:RS) (s:Sym) (n:Nat) (r:List Nat) (h:IsRx w B rb st) (hb:RBd st) (ho:st.opn=n::r) (hn:n<st.atom.length) :
  Calls Tryz.prog 168 #[.pointer (some ⟨rb,0,none⟩),.agg #[.string ⟨s.name.toArray⟩,.int .i64 s.num,.int .i64 s.args]] w fun e w'=>e = .returned (.tuple #[])∧IsRx w' B rb (addS st s)∧Held B w w':=by
 obtain ⟨V,Sa,Sb,vs,xs,h⟩:=h
 have hrb:=Zac h.blk
 have hBw:B≤w.heap.size:=by have:=h.le; omega
 have hla:=hb.atom
 obtain ⟨so,hso⟩:∃ so,st.atom[n]?=some so:=⟨_,List.getElem?_eq_getElem hn⟩
 have hargs:=hb.args so (List.mem_of_getElem? hso)
 have HW:∀ o,ROpen (w.alloc o) B rb st V:=fun o=>h.opens.later (S:=Zbg) ((Kept.refl _ w).alloc o) (fun h=>h) (fun _ _ h=>h) (fun _ _ h=>h)
 have HO:=Zaa (fun o=>Zmn (w.alloc o) B rb st V (HW o) hb.opn hb.atom)
 have Hoi:Hid (Zfo st=n):=by show _=_; simp [Zfo,ho]; omega
 have H:=Zaa h
 have Ho:=Zaa ho
 have Hso:=Zaa hso
 clear h HW ho hso
 go_enter Tryz.func168,Tryz.ntmps168
 go_wp2_with fail
 refine (HO.out _).mono ?_
 rintro e w1 ⟨rfl,nd,hw1⟩
 rw [Hoi.out]
 have hk1:Kept Zbg w w1:=by rw [hw1]; exact ((Kept.refl _ w).alloc _).drewN _
 have b0:w1.cell? ⟨w.heap.size,0,none⟩=some (.string ⟨s.name.toArray⟩):=by rw [hw1]; exact Zbk w _ _ 0 _ rfl
 have b1:w1.cell? ⟨w.heap.size,1,none⟩=some (.int .i64 s.num):=by rw [hw1]; exact Zbk w _ _ 1 _ rfl
 have b2:w1.cell? ⟨w.heap.size,2,none⟩=some (.int .i64 s.args):=by rw [hw1]; exact Zbk w _ _ 2 _ rfl
 have hsz1:w.heap.size<w1.heap.size:=by rw [hw1]; show w.heap.size<(w.alloc _).heap.size; simp
 clear hw1
 have h1:=H.out.fresh hk1
 obtain ⟨aa,acap,hva⟩:=Zad h1.rest.atom
 have hat:=h1.rest.atom
 rw [hva] at hat
 obtain ⟨g,gcap,gcur,he,hBg,hg,hcap⟩:=Zal hat (by omega)
 simp only [Value.slice.injEq] at he
 obtain ⟨rfl,_,rfl⟩:=he
 have hgl:g<w.heap.size:=(H.out.rest.atom.lt g (by rw [hva]; rfl)).2
 have hgb:¬ rb=g:=fun e=>by subst e; exact Zah hat (by decide) h1.blk rfl
 have cg:w1.cell? ⟨g,n * 3+2,none⟩=some (.int .i64 so.args):=Zaf hat _ _ (by rw [Zbh _ n so Hso.out 2 (by omega)]; rfl)
 have fg:=Zae hg (n * 3+2)
 have c3:w1.cell? ⟨rb,3,none⟩=some V.a:=h1.opens.facts.2.2.2.1
 rw [hva] at c3
 obtain ⟨hR1,hB1⟩:=h1.counted Ho.out Hso.out hva
 have Hat1:Hid ((w1.setCell ⟨g,n * 3+2,none⟩ (.int .i64 ((so.args:Int)+1))).ownsRow B 133 3 (.slice (some ⟨g,0,none⟩) st.atom.length acap) (Zcv st).length (Zam (Zcv st))):=by
  have h2:=hR1.rest.atom
  simp only at h2
  rw [hva] at h2
  exact h2
 have hbl:(Zcv st).length=st.atom.length:=by simp [Zcv,Ho.out]
 have Hbl:=Zaa hbl
 have Hat2:=Hat1.out
 rw [hbl] at Hat2
 have HAT:=Zaa Hat2
 have HB1:=Zaa ((Held.fresh hk1 hBw).trans hB1)
 have H1:=Zaa hR1
 have Hva:=Zaa hva
 have hsz2:B≤w1.heap.size:=by omega
 have hrb1:rb<w1.heap.size:=by omega
 have hg1:g<w1.heap.size:=by omega
 clear h1 hat hva hg hR1 hB1 Hat1 Hat2 hbl hk1
 go_wp2_with fail
 go_region_law (refine Zdj ((w1.setCell ⟨g,n * 3+2,none⟩ (.int .i64 ((so.args:Int)+1))).drewN 1) rfl (.tmp 24) (.tmp 26) 105 rfl B 133 Tryz.infoSym Tryz.underlying105 rfl (by decide) (.slice (some ⟨g,0,none⟩) st.atom.length acap) st.atom.length (Zam (Zcv st)) rfl HAT.out #[.string ⟨s.name.toArray⟩,.int .i64 s.num,.int .i64 s.args] rfl (by simp) rfl (Zhc _ _ _) (by omega) (by simp; omega) rfl ?_; intro v' w2 hap; obtain ⟨a1,a1cap,rfl⟩:=Zad hap.owns; have hblk1:=Zfs hap.kept H1.out.blk (Zah HAT.out (by decide) H1.out.blk); have d3:w2.cell? ⟨rb,3,none⟩=some V.a:=Zab hblk1 3 _ rfl; have df:=fun i=>Zae hblk1 i; have Hap:=Zaa hap; clear hap hblk1)
 all_goals
  go_end0
  have hap:=Hap.out
  rw [← Hva.out] at hap
  rw [← Hbl.out] at hap
  obtain ⟨hR,hB⟩:=add_done0 H1.out hap
  simp only [Hbl.out] at hR hB
  exact ⟨rfl,⟨_,Sa,Sb,vs,xs,hR⟩,HB1.out.trans hB⟩
def Zav (st:RS):RS:=if st.inBody then { st with body:=st.body++[st.atom],atom:=[] } else { st with head:=st.atom,atom:=[] }
theorem Zef (a:Option Addr) (n c:Nat):∀ u ∈ (#[Value.slice a n c]:Array Value).toList,u.oneCell'=true:=by
  intro u hu
  simp at hu
  subst hu
  rfl
set_option maxRecDepth 10000 in
set_option maxHeartbeats 1000000 in
theorem Zjg (w:World) (B rb:Nat) (st:RS) (h:IsRx w B rb st) (hb:RBd st) :
    Calls Tryz.prog 172 #[.pointer (some ⟨rb,0,none⟩)] w fun e w'=>e = .returned (.tuple #[])∧IsRx w' B rb (Zav st)∧Held B w w':=by
  obtain ⟨V,Sa,Sb,vs,xs,h⟩:=h
  have hrb:=Zac h.blk
  have hBw:B≤w.heap.size:=by have:=h.le; omega
  obtain ⟨c0,c1,c2,c3,c4,c5,c6,c7,c8⟩:=h.opens.facts
  have hf:=fun i=>Zae h.blk i
  obtain ⟨aa,acap,hva⟩:=Zad h.rest.atom
  obtain ⟨ba,bcap,hvb⟩:=Zad h.rest.body.1
  have hlb:=hb.body
  have hbr:=h.rest.body.1
  rw [hvb] at hbr c6
  rw [hva] at c3
  obtain ⟨ha,hac,hvh⟩:=Zad h.rest.head.1
  rw [hvh] at c5
  have H:=Zaa h
  have Hbr:=Zaa hbr
  have Hva:=Zaa hva
  have Hvb:=Zaa hvb
  cases hin:st.inBody
  · rw [hin] at c2
    have He:Hid (Zav st = { st with head:=st.atom,atom:=[] }):=by show _=_; simp [Zav,hin]
    clear h hva hvb hbr hvh hin
    go_enter Tryz.func172,Tryz.ntmps172
    go_wp2
    go_end0
    have hk:Kept (Zev rb (.slice none 0 0)) w ((w.setCell ⟨rb,5,none⟩ (.slice aa st.atom.length acap)).setCell ⟨rb,3,none⟩ (.slice none 0 0)):=Zdo (Zdo (Kept.refl _ w) 5 _) 3 _
    have hblk:((w.setCell ⟨rb,5,none⟩ (.slice aa st.atom.length acap)).setCell ⟨rb,3,none⟩ (.slice none 0 0)).heap[rb]?=some (.cells (Zdg { st with head:=st.atom,atom:=[] } { V with h:=V.a,a := .slice none 0 0 }) 169 (0,0)):=by
      rw [Zai (Zai H.out.blk 5 _) 3 _]
      simp [Zdg,Hva.out]
    rw [He.out]
    exact ⟨rfl,⟨_,_,_,_,_,H.out.headed hk hblk⟩,H.out.below hk (World.ownsRow_nil w B 169 1) (by decide)⟩
  · rw [hin] at c2
    have He:Hid (Zav st = { st with body:=st.body++[st.atom],atom:=[] }):=by show _=_; simp [Zav,hin]
    clear h hva hvb hbr hvh hin
    go_enter Tryz.func172,Tryz.ntmps172
    go_wp2_with fail
    go_region_law (refine Zdj (w.drewN 1) rfl (.tmp 11) (.tmp 16) 85 rfl B 105 Tryz.infoSyms Tryz.underlying85 rfl (by decide) (.slice ba st.body.length bcap) st.body.length vs rfl Hbr.out #[.slice aa st.atom.length acap] rfl (by simp) rfl (Zef _ _ _) (by omega) (by simp; omega) rfl ?_; intro v' w2 hap; obtain ⟨b1,b1cap,rfl⟩:=Zad hap.owns; have hblk1:=Zfs hap.kept H.out.blk (Zah Hbr.out (by decide) H.out.blk); have d3:w2.cell? ⟨rb,3,none⟩=some V.a:=Zab hblk1 3 _ rfl; have d6:w2.cell? ⟨rb,6,none⟩=some V.b:=Zab hblk1 6 _ rfl; have df:=fun i=>Zae hblk1 i; have Hap:=Zaa hap; have Hblk1:=Zaa hblk1; clear hap hblk1)
    all_goals
      rw [Hva.out] at d3
      rw [Hvb.out] at d6
      go_wp2
      go_end0
      have hk:Kept (Zev rb V.b) w ((w2.setCell ⟨rb,6,none⟩ (.slice b1 (st.body.length+1) b1cap)).setCell ⟨rb,3,none⟩ (.slice none 0 0)):=by
        rw [Hvb.out]
        exact Zdo (Zgw (((Kept.refl _ w).drewN _).trans Hap.out.kept) 6 _) 3 _
      have hblk:((w2.setCell ⟨rb,6,none⟩ (.slice b1 (st.body.length+1) b1cap)).setCell ⟨rb,3,none⟩ (.slice none 0 0)).heap[rb]?=some (.cells (Zdg { st with body:=st.body++[st.atom],atom:=[] } { V with b := .slice b1 (st.body.length+1) b1cap,a := .slice none 0 0 }) 169 (0,0)):=by
        rw [Zai (Zai Hblk1.out 6 _) 3 _]
        simp [Zdg]
      have hrow:((w2.setCell ⟨rb,6,none⟩ (.slice b1 (st.body.length+1) b1cap)).setCell ⟨rb,3,none⟩ (.slice none 0 0)).ownsRow B 105 1 (.slice b1 (st.body.length+1) b1cap) (st.body.length+1) (vs++[V.a]):=by
        have h2:=Hap.out.owns
        have h3:=(((Kept.refl (only rb) w2).put 6 (.slice b1 (st.body.length+1) b1cap)).put 3 (.slice none 0 0)).owns h2 (fun k hko e=>by
          have e:k=rb:=e
          rw [e] at hko
          exact Zah h2 (by decide) Hblk1.out hko)
        rw [Hva.out]
        simpa using h3
      have htb:∀ k,(Value.slice b1 (st.body.length+1) b1cap).ownBlock=some k→Sb≤k:=by
        intro k hk
        rcases Hap.out.where_ with hw | ⟨g,hw,hg⟩
        · exact H.out.rest.tb k (by rw [Hvb.out,← hw]; exact hk)
        · rw [hk] at hw
          simp at hw
          have:=H.out.rest.lb
          have hg':w.heap.size≤g:=by simpa using hg
          omega
      rw [He.out]
      exact ⟨rfl,⟨_,_,_,_,_,H.out.bodied hk _ hblk hrow htb⟩,H.out.below hk H.out.rest.body.1 (by decide)⟩
end Go.Proofs.YtlmjilpjmgjjcaaGreatDoor
namespace Go.Proofs.YtlmjilpjmgjjcaaGreatDoor
open Go.RowKit
set_option linter.unusedSimpArgs false
set_option linter.unusedVariables false
theorem IsRx.next {w:World} {B rb:Nat} {st:RS} (h:IsRx w B rb st) (n:Nat):IsRx (w.setCell ⟨rb,1,none⟩ (.int .i64 n)) B rb { st with next:=n }∧Held B w (w.setCell ⟨rb,1,none⟩ (.int .i64 n)):=by
  obtain ⟨V,Sa,Sb,vs,xs,h⟩:=h
  have hk:Kept (Zev rb (.slice none 0 0)) w (w.setCell ⟨rb,1,none⟩ (.int .i64 n)):=Zdo (Kept.refl _ w) 1 _
  exact ⟨⟨V,Sa,Sb,vs,xs,h.only hk { st with next:=n } (Zai h.blk 1 _) rfl rfl rfl rfl rfl rfl⟩,h.below hk (World.ownsRow_nil w B 169 1) (by decide)⟩
theorem IsRx.inb {w:World} {B rb:Nat} {st:RS} (h:IsRx w B rb st) (b:Bool):IsRx (w.setCell ⟨rb,2,none⟩ (.bool b)) B rb { st with inBody:=b }∧Held B w (w.setCell ⟨rb,2,none⟩ (.bool b)):=by
  obtain ⟨V,Sa,Sb,vs,xs,h⟩:=h
  have hk:Kept (Zev rb (.slice none 0 0)) w (w.setCell ⟨rb,2,none⟩ (.bool b)):=Zdo (Kept.refl _ w) 2 _
  exact ⟨⟨V,Sa,Sb,vs,xs,h.only hk { st with inBody:=b } (Zai h.blk 2 _) rfl rfl rfl rfl rfl rfl⟩,h.below hk (World.ownsRow_nil w B 169 1) (by decide)⟩
theorem IsRx.cells {w:World} {B rb:Nat} {st:RS} (h:IsRx w B rb st):rb<w.heap.size∧w.cell? ⟨rb,0,none⟩=some (.bool st.query)∧w.cell? ⟨rb,1,none⟩=some (.int .i64 st.next)∧w.cell? ⟨rb,2,none⟩=some (.bool st.inBody) ∧
    (∃ oa oc,w.cell? ⟨rb,4,none⟩=some (.slice oa st.opn.length oc))∧∀ i,w.frozen? ⟨rb,i,none⟩=false:=by
  obtain ⟨V,Sa,Sb,vs,xs,h⟩:=h
  obtain ⟨c0,c1,c2,c3,c4,c5,c6,c7,c8⟩:=h.opens.facts
  obtain ⟨oa,oc,hvo⟩:=Zad h.rest.opn
  rw [hvo] at c4
  exact ⟨Zac h.blk,c0,c1,c2,⟨oa,oc,c4⟩,fun i=>Zae h.blk i⟩
def Zgh (st:RS):RS:=if st.opn.isEmpty then { Zav st with next:=1 } else { st with next:=2 }
set_option maxRecDepth 10000 in
set_option maxHeartbeats 1000000 in
theorem comma_any (w:World) (B rb:Nat) (st:RS) (h:IsRx w B rb st) (hb:RBd st) :
    Calls Tryz.prog 171 #[.pointer (some ⟨rb,0,none⟩)] w fun e w'=>e = .returned (.tuple #[])∧IsRx w' B rb (Zgh st)∧Held B w w':=by
  obtain ⟨hrb,c0,c1,c2,⟨oa,oc,c4⟩,hf⟩:=h.cells
  have hl:=hb.opn
  have H:=Zaa h
  have HE:=Zaa (Zjg w B rb st h hb)
  cases hst:st.opn with
  | nil =>
    simp only [hst,List.length_nil] at c4
    have Hc:Hid (Zgh st = { Zav st with next:=1 }):=by show _=_; simp [Zgh,hst]
    clear h hst
    go_enter Tryz.func171,Tryz.ntmps171
    go_wp2_with fail
    refine HE.out.mono ?_
    rintro e w1 ⟨rfl,h1,hB1⟩
    obtain ⟨hrb1,d0,d1,d2,_,df⟩:=h1.cells
    have H1:=Zaa h1
    have HB1:=Zaa hB1
    clear h1 hB1 c0 c1 c2 c4 hf
    go_wp2
    go_end0
    obtain ⟨hR,hB⟩:=H1.out.next 1
    rw [Hc.out]
    exact ⟨rfl,hR,HB1.out.trans hB⟩
  | cons n r =>
    have hrl:r.length+1≤4096:=by rw [hst] at hl; simpa using hl
    simp only [hst,List.length_cons] at c4
    have Hc:Hid (Zgh st = { st with next:=2 }):=by show _=_; simp [Zgh,hst]
    clear h hst
    go_enter Tryz.func171,Tryz.ntmps171
    go_wp2
    refine bodyPost_ret (results_none rfl _ _ _) rfl ?_
    obtain ⟨hR,hB⟩:=H.out.next 2
    rw [Hc.out]
    exact ⟨rfl,hR,hB⟩
def Zaq (st:RS):RS := { st with clauses:=st.clauses++[⟨st.head,st.body,st.vars⟩],head:=[],body:=[],vars:=[],inBody:=false,next:=if st.query then 5 else 0 }
theorem cls3_one (a b c:Option Addr) (n m k x y z:Nat):∀ u ∈ (#[Value.slice a n x,.slice b m y,.slice c k z]:Array Value).toList,u.oneCell'=true:=by
  intro u hu
  simp at hu
  rcases hu with rfl | rfl | rfl <;> rfl
def Zom (w:World) (rb:Nat) (c:Value):World:=(((((w.setCell ⟨rb,8,none⟩ c).setCell ⟨rb,5,none⟩ (.slice none 0 0)).setCell ⟨rb,6,none⟩ (.slice none 0 0)).setCell ⟨rb,7,none⟩ (.slice none 0 0)).setCell ⟨rb,2,none⟩ (.bool false)).setCell ⟨rb,1,none⟩ (.int .i64 0)
theorem Ztl {w w2:World} {B rb nd:Nat} {st:RS} {V:RV} {Sa Sb:Nat} {vs:List Value} {xs:List (List Value)} {a1:Option Addr} {a1cap:Nat} (H:IsR w B rb st V Sa Sb vs xs)
    (hap:Appended (w.drewN nd) B 107 3 V.c (st.clauses.length+1) (xs.flatten++[V.h,V.b,V.v]) (.slice a1 (st.clauses.length+1) a1cap) w2) :
    IsRx (Zom w2 rb (.slice a1 (st.clauses.length+1) a1cap)) B rb { Zaq st with next:=0 }∧Held B w (Zom w2 rb (.slice a1 (st.clauses.length+1) a1cap)):=by
  have hblk1:=Zfs hap.kept H.blk (Zah H.rest.cls.1 (by decide) H.blk)
  have hk:Kept (Zev rb V.c) w (Zom w2 rb (.slice a1 (st.clauses.length+1) a1cap)) :=
    Zdo (Zdo (Zdo (Zdo (Zdo (Zgw (((Kept.refl _ w).drewN _).trans hap.kept) 8 _) 5 _) 6 _) 7 _) 2 _) 1 _
  have hblk:(Zom w2 rb (.slice a1 (st.clauses.length+1) a1cap)).heap[rb]?=some (.cells (Zdg { Zaq st with next:=0 } { V with c := .slice a1 (st.clauses.length+1) a1cap,h := .slice none 0 0,b := .slice none 0 0,v := .slice none 0 0 }) 169 (0,0)):=by
    unfold Zom
    rw [Zai (Zai (Zai (Zai (Zai (Zai hblk1 8 _) 5 _) 6 _) 7 _) 2 _) 1 _]
    simp [Zdg,Zaq]
  have hrow:(Zom w2 rb (.slice a1 (st.clauses.length+1) a1cap)).ownsRow B 107 3 (.slice a1 (st.clauses.length+1) a1cap) (st.clauses.length+1) (xs.flatten++[V.h,V.b,V.v]):=by
    have h2:=hap.owns
    exact ((((((((Kept.refl (only rb) w2).put 8 _).put 5 _).put 6 _).put 7 _).put 2 _).put 1 _)).owns h2 (fun k hko e=>by
      have e:k=rb:=e
      rw [e] at hko
      exact Zah h2 (by decide) hblk1 hko)
  exact ⟨⟨_,_,_,_,_,H.clausd hk _ { Zaq st with next:=0 } hblk hrow rfl rfl rfl rfl rfl rfl⟩,H.below hk H.rest.cls.1 (by decide)⟩
set_option maxRecDepth 10000 in
set_option maxHeartbeats 2000000 in
theorem Zpv (w:World) (B rb:Nat) (st:RS) (h:IsRx w B rb st) (hb:RBd st) :
    Calls Tryz.prog 173 #[.pointer (some ⟨rb,0,none⟩)] w fun e w'=>e = .returned (.tuple #[])∧IsRx w' B rb (Zaq st)∧Held B w w':=by
  obtain ⟨V,Sa,Sb,vs,xs,h⟩:=h
  have hrb:=Zac h.blk
  have hBw:B≤w.heap.size:=by have:=h.le; omega
  obtain ⟨c0,c1,c2,c3,c4,c5,c6,c7,c8⟩:=h.opens.facts
  have hf:=fun i=>Zae h.blk i
  obtain ⟨ca,ccap,hvc⟩:=Zad h.rest.cls.1
  obtain ⟨ha,hac,hvh⟩:=Zad h.rest.head.1
  obtain ⟨ba,bcap,hvb⟩:=Zad h.rest.body.1
  obtain ⟨va,vcap,hvv⟩:=Zad h.rest.vars
  have hlc:=hb.cls
  have hcr:=h.rest.cls.1
  rw [hvc] at hcr c8
  rw [hvh] at c5
  rw [hvb] at c6
  rw [hvv] at c7
  have H:=Zaa h
  have Hcr:=Zaa hcr
  have Hvh:=Zaa hvh
  have Hvb:=Zaa hvb
  have Hvc:=Zaa hvc
  have Hvv:=Zaa hvv
  cases hq:st.query
  all_goals
    rw [hq] at c0
    have Hq:=Zaa hq
    clear h hvc hvh hvb hvv hcr hq
    go_enter Tryz.func173,Tryz.ntmps173
    go_wp2_with fail
    go_region_law (refine Zdj (w.drewN 1) rfl (.tmp 6) (.tmp 11) 104 rfl B 107 Tryz.infoCls Tryz.underlying104 rfl (by decide) (.slice ca st.clauses.length ccap) st.clauses.length xs.flatten rfl Hcr.out #[.slice ha st.head.length hac,.slice ba st.body.length bcap,.slice va st.vars.length vcap] rfl (by simp) rfl (cls3_one _ _ _ _ _ _ _ _ _) (by omega) (by simp; omega) rfl ?_; intro v' w2 hap; obtain ⟨c1',c1cap,rfl⟩:=Zad hap.owns; have hblk1:=Zfs hap.kept H.out.blk (Zah Hcr.out (by decide) H.out.blk); have d0:w2.cell? ⟨rb,0,none⟩=some (.bool st.query):=Zab hblk1 0 _ rfl; have d1:w2.cell? ⟨rb,1,none⟩=some (.int .i64 st.next):=Zab hblk1 1 _ rfl; have d2:w2.cell? ⟨rb,2,none⟩=some (.bool st.inBody):=Zab hblk1 2 _ rfl; have d5:w2.cell? ⟨rb,5,none⟩=some V.h:=Zab hblk1 5 _ rfl; have d6:w2.cell? ⟨rb,6,none⟩=some V.b:=Zab hblk1 6 _ rfl; have d7:w2.cell? ⟨rb,7,none⟩=some V.v:=Zab hblk1 7 _ rfl; have d8:w2.cell? ⟨rb,8,none⟩=some V.c:=Zab hblk1 8 _ rfl; have df:=fun i=>Zae hblk1 i; have Hap:=Zaa hap; have Hblk1:=Zaa hblk1; clear hap hblk1)
  all_goals
    rw [Hvh.out] at d5; rw [Hvb.out] at d6; rw [Hvv.out] at d7; rw [Hvc.out] at d8; rw [Hq.out] at d0
    go_wp2
    go_end0
    have hap:=Hap.out
    rw [← Hvh.out,← Hvb.out,← Hvv.out,← Hvc.out] at hap
    obtain ⟨hR,hB⟩:=Ztl H.out hap
    first
    | (have He:Zaq st = { Zaq st with next:=0 }:=by simp [Zaq,Hq.out]
       rw [He]
       exact ⟨rfl,hR,hB⟩)
    | (have He:Zaq st = { { Zaq st with next:=0 } with next:=5 }:=by simp [Zaq,Hq.out]
       obtain ⟨hR5,hB5⟩:=hR.next 5
       rw [He]
       exact ⟨rfl,hR5,hB.trans hB5⟩)
def Zbs (st:RS) (kd:Nat) (t:List UInt8):RS :=
 if kd=1 then { addS st ⟨t,0,0⟩ with next:=3 }
 else if kd=2 then { addS (varS st t) ⟨[],(Zbo st.vars t).2,0⟩ with next:=4 }
 else if kd=3 then { st with opn:=(st.atom.length - 1)::st.opn,next:=2 }
 else if kd=4 then { Ziz st with next:=4 }
 else if kd=5 then Zgh st
 else if kd=7 then { Zav st with inBody:=true,next:=1 }
 else if kd=6 then Zaq (Zav st)
 else st
theorem add_any (w:World) (B rb:Nat) (st:RS) (s:Sym) (h:IsRx w B rb st) (hb:RBd st) (ho:∀ n ∈ st.opn,n<st.atom.length) :
  Calls Tryz.prog 168 #[.pointer (some ⟨rb,0,none⟩),.agg #[.string ⟨s.name.toArray⟩,.int .i64 s.num,.int .i64 s.args]] w fun e w'=>e = .returned (.tuple #[])∧IsRx w' B rb (addS st s)∧Held B w w':=by
 cases hst:st.opn with
 | nil=>exact add_top w B rb st s h hb hst
 | cons n r=>exact add_in w B rb st s n r h hb hst (ho n (by simp [hst]))
set_option maxRecDepth 10000 in
set_option maxHeartbeats 1000000 in
theorem take1 (w:World) (B rb:Nat) (st:RS) (t:List UInt8) (h:IsRx w B rb st) (hb:RBd st) (ho:∀ n ∈ st.opn,n<st.atom.length) :
  Calls Tryz.prog 132 #[.pointer (some ⟨rb,0,none⟩),.int .i64 1,.string ⟨t.toArray⟩] w fun e w'=>e = .returned (.tuple #[])∧IsRx w' B rb (Zbs st 1 t)∧Held B w w':=by
 have HA:=Zaa (add_any w B rb st ⟨t,0,0⟩ h hb ho)
 clear h ho
 go_enter Tryz.func132,Tryz.ntmps132
 go_wp2_with fail
 refine HA.out.mono ?_
 rintro e w1 ⟨rfl,h1,hB1⟩
 obtain ⟨hrb1,d0,d1,d2,_,df⟩:=h1.cells
 have H1:=Zaa h1
 have HB1:=Zaa hB1
 clear h1 hB1
 go_wp2
 go_end0
 obtain ⟨hR,hB⟩:=H1.out.next 3
 exact ⟨rfl,hR,HB1.out.trans hB⟩
set_option maxRecDepth 10000 in
set_option maxHeartbeats 1000000 in
theorem take2 (w:World) (B rb:Nat) (st:RS) (t:List UInt8) (h:IsRx w B rb st) (hb:RBd st) (hv:st.vars.length≤4096) (ho:∀ n ∈ st.opn,n<st.atom.length) :
  Calls Tryz.prog 132 #[.pointer (some ⟨rb,0,none⟩),.int .i64 2,.string ⟨t.toArray⟩] w fun e w'=>e = .returned (.tuple #[])∧IsRx w' B rb (Zbs st 2 t)∧Held B w w':=by
 have HV:=Zaa (Zrp w B rb st t h hv)
 have Hb:=Zaa hb
 have Ho:=Zaa ho
 clear h ho
 go_enter Tryz.func132,Tryz.ntmps132
 go_wp2_with fail
 refine HV.out.mono ?_
 rintro e w0 ⟨rfl,h0,hB0⟩
 have HA:=Zaa (add_any w0 B rb (varS st t) ⟨[],(Zbo st.vars t).2,0⟩ h0 ⟨Hb.out.opn,Hb.out.atom,Hb.out.body,Hb.out.cls,Hb.out.args⟩ Ho.out)
 have HB0:=Zaa hB0
 clear h0 hB0
 go_wp2_with fail
 refine HA.out.mono ?_
 rintro e w1 ⟨rfl,h1,hB1⟩
 obtain ⟨hrb1,d0,d1,d2,_,df⟩:=h1.cells
 have H1:=Zaa h1
 have HB1:=Zaa hB1
 clear h1 hB1
 go_wp2
 go_end0
 obtain ⟨hR,hB⟩:=H1.out.next 4
 exact ⟨rfl,hR,HB0.out.trans (HB1.out.trans hB)⟩
set_option maxRecDepth 10000 in
set_option maxHeartbeats 1000000 in
theorem take4 (w:World) (B rb:Nat) (st:RS) (t:List UInt8) (h:IsRx w B rb st) (hb:RBd st) :
  Calls Tryz.prog 132 #[.pointer (some ⟨rb,0,none⟩),.int .i64 4,.string ⟨t.toArray⟩] w fun e w'=>e = .returned (.tuple #[])∧IsRx w' B rb (Zbs st 4 t)∧Held B w w':=by
 have HA:=Zaa (close_any w B rb st h hb.opn)
 clear h
 go_enter Tryz.func132,Tryz.ntmps132
 go_wp2_with fail
 refine HA.out.mono ?_
 rintro e w1 ⟨rfl,h1,hB1⟩
 obtain ⟨hrb1,d0,d1,d2,_,df⟩:=h1.cells
 have H1:=Zaa h1
 have HB1:=Zaa hB1
 clear h1 hB1
 go_wp2
 go_end0
 obtain ⟨hR,hB⟩:=H1.out.next 4
 exact ⟨rfl,hR,HB1.out.trans hB⟩
set_option maxRecDepth 10000 in
set_option maxHeartbeats 1000000 in
theorem take5 (w:World) (B rb:Nat) (st:RS) (t:List UInt8) (h:IsRx w B rb st) (hb:RBd st) :
  Calls Tryz.prog 132 #[.pointer (some ⟨rb,0,none⟩),.int .i64 5,.string ⟨t.toArray⟩] w fun e w'=>e = .returned (.tuple #[])∧IsRx w' B rb (Zbs st 5 t)∧Held B w w':=by
 have HA:=Zaa (comma_any w B rb st h hb)
 clear h
 go_enter Tryz.func132,Tryz.ntmps132
 go_wp2_with fail
 refine HA.out.mono ?_
 rintro e w1 ⟨rfl,h1,hB1⟩
 have H1:=Zaa h1
 have HB1:=Zaa hB1
 clear h1 hB1
 go_wp2
 go_end0
 exact ⟨rfl,H1.out,HB1.out⟩
set_option maxRecDepth 10000 in
set_option maxHeartbeats 1000000 in
theorem take7 (w:World) (B rb:Nat) (st:RS) (t:List UInt8) (h:IsRx w B rb st) (hb:RBd st) :
  Calls Tryz.prog 132 #[.pointer (some ⟨rb,0,none⟩),.int .i64 7,.string ⟨t.toArray⟩] w fun e w'=>e = .returned (.tuple #[])∧IsRx w' B rb (Zbs st 7 t)∧Held B w w':=by
 have HA:=Zaa (Zjg w B rb st h hb)
 clear h
 go_enter Tryz.func132,Tryz.ntmps132
 go_wp2_with fail
 refine HA.out.mono ?_
 rintro e w1 ⟨rfl,h1,hB1⟩
 obtain ⟨hrb1,d0,d1,d2,_,df⟩:=h1.cells
 have H1:=Zaa h1
 have HB1:=Zaa hB1
 clear h1 hB1
 go_wp2
 go_end0
 obtain ⟨hR,hB⟩:=H1.out.inb true
 obtain ⟨hR2,hB2⟩:=hR.next 1
 exact ⟨rfl,hR2,HB1.out.trans (hB.trans hB2)⟩
theorem RBd.endAtom {st:RS} (hb:RBd st) (h:st.body.length+1≤4096):RBd (Zav st):=by
 unfold Zav
 split
 ·exact ⟨hb.opn,by simp,by simpa using h,hb.cls,by simp⟩
 ·exact ⟨hb.opn,by simp,hb.body,hb.cls,by simp⟩
set_option maxRecDepth 10000 in
set_option maxHeartbeats 1000000 in
theorem take6 (w:World) (B rb:Nat) (st:RS) (t:List UInt8) (h:IsRx w B rb st) (hb:RBd st) (hbd:st.body.length+1≤4096) :
  Calls Tryz.prog 132 #[.pointer (some ⟨rb,0,none⟩),.int .i64 6,.string ⟨t.toArray⟩] w fun e w'=>e = .returned (.tuple #[])∧IsRx w' B rb (Zbs st 6 t)∧Held B w w':=by
 have HA:=Zaa (Zjg w B rb st h hb)
 have Hb:=Zaa (hb.endAtom hbd)
 clear h
 go_enter Tryz.func132,Tryz.ntmps132
 go_wp2_with fail
 refine HA.out.mono ?_
 rintro e w1 ⟨rfl,h1,hB1⟩
 have HC:=Zaa (Zpv w1 B rb (Zav st) h1 Hb.out)
 have HB1:=Zaa hB1
 clear h1 hB1
 go_wp2_with fail
 refine HC.out.mono ?_
 rintro e w2 ⟨rfl,h2,hB2⟩
 have H2:=Zaa h2
 have HB2:=Zaa hB2
 clear h2 hB2
 go_wp2
 go_end0
 exact ⟨rfl,H2.out,HB1.out.trans HB2.out⟩
set_option maxRecDepth 10000 in
set_option maxHeartbeats 2000000 in
theorem take3 (w:World) (B rb:Nat) (st:RS) (t:List UInt8) (h:IsRx w B rb st) (hb:RBd st) (hne:0<st.atom.length) :
  Calls Tryz.prog 132 #[.pointer (some ⟨rb,0,none⟩),.int .i64 3,.string ⟨t.toArray⟩] w fun e w'=>e = .returned (.tuple #[])∧IsRx w' B rb (Zbs st 3 t)∧Held B w w':=by
 obtain ⟨V,Sa,Sb,vs,xs,h⟩:=h
 have hrb:=Zac h.blk
 have hBw:B≤w.heap.size:=by have:=h.le; omega
 obtain ⟨c0,c1,c2,c3,c4,c5,c6,c7,c8⟩:=h.opens.facts
 have hf:=fun i=>Zae h.blk i
 obtain ⟨aa,acap,hva⟩:=Zad h.rest.atom
 obtain ⟨oa,ocap,hvo⟩:=Zad h.rest.opn
 have hlo:=hb.opn
 have hla:=hb.atom
 have hor:=h.rest.opn
 rw [hvo] at hor c4
 rw [hva] at c3
 have H:=Zaa h
 have Hor:=Zaa hor
 have Hvo:=Zaa hvo
 have hcast:IntKind.i64.wrap (((st.atom.length:Nat):Int) - 1)=((st.atom.length - 1:Nat):Int):=by rw [IntKind.wrap_i64]; omega
 clear h hva hvo hor
 go_enter Tryz.func132,Tryz.ntmps132
 go_wp2_with fail
 go_region_law (refine Zdj (w.drewN 1) rfl (.tmp 35) (.tmp 42) 25 rfl B 3 Tryz.infoInt Tryz.underlying25 rfl (by decide) (.slice oa st.opn.length ocap) st.opn.length (ints st.opn.reverse) rfl Hor.out #[.int .i64 ((st.atom.length - 1:Nat):Int)] rfl (by simp) rfl (Zfm _) (by omega) (by simp; omega) rfl ?_; intro v' w2 hap; obtain ⟨o1,o1cap,rfl⟩:=Zad hap.owns; have hblk1:=Zfs hap.kept H.out.blk (Zah Hor.out (by decide) H.out.blk); have d1:w2.cell? ⟨rb,1,none⟩=some (.int .i64 st.next):=Zab hblk1 1 _ rfl; have d4:w2.cell? ⟨rb,4,none⟩=some V.o:=Zab hblk1 4 _ rfl; have df:=fun i=>Zae hblk1 i; have Hap:=Zaa hap; have Hblk1:=Zaa hblk1; clear hap hblk1)
 all_goals
  rw [Hvo.out] at d4
  go_wp2
  go_end0
  have hk:Kept (Zev rb V.o) w (w2.setCell ⟨rb,4,none⟩ (.slice o1 (st.opn.length+1) o1cap)):=by
   rw [Hvo.out]
   exact Zgw (((Kept.refl _ w).drewN _).trans Hap.out.kept) 4 _
  have hrow:(w2.setCell ⟨rb,4,none⟩ (.slice o1 (st.opn.length+1) o1cap)).ownsRow B 3 1 (.slice o1 (st.opn.length+1) o1cap) ((st.atom.length - 1)::st.opn).length (ints ((st.atom.length - 1)::st.opn).reverse):=by
   have h2:=Hap.out.owns
   have h3:=((Kept.refl (only rb) w2).put 4 (.slice o1 (st.opn.length+1) o1cap)).owns h2 (fun k hko e=>by
    have e:k=rb:=e
    rw [e] at hko
    exact Zah h2 (by decide) Hblk1.out hko)
   simpa [ints,hcast] using h3
  have hR:=H.out.opened hk ((st.atom.length - 1)::st.opn) (.slice o1 (st.opn.length+1) o1cap) (Zai Hblk1.out 4 _) hrow
  have hB:=H.out.below hk H.out.rest.opn (by decide)
  obtain ⟨hR2,hB2⟩:=IsRx.next ⟨_,Sa,Sb,vs,xs,hR⟩ 2
  exact ⟨rfl,hR2,hB.trans hB2⟩
structure TakeOk (st:RS) (kd:Nat):Prop where
 bd:RBd st
 vars:st.vars.length≤4096
 body:st.body.length+1≤4096
 opn:∀ n ∈ st.opn,n<st.atom.length
 lo:1≤kd
 hi:kd≤7
 bracket:kd=3→0<st.atom.length
theorem take_any (w:World) (B rb:Nat) (st:RS) (kd:Nat) (t:List UInt8) (h:IsRx w B rb st) (hk:TakeOk st kd) :
  Calls Tryz.prog 132 #[.pointer (some ⟨rb,0,none⟩),.int .i64 kd,.string ⟨t.toArray⟩] w fun e w'=>e = .returned (.tuple #[])∧IsRx w' B rb (Zbs st kd t)∧Held B w w':=by
 obtain ⟨bd,vars,body,opn,lo,hi,bracket⟩:=hk
 have hc:kd=1∨kd=2∨kd=3∨kd=4∨kd=5∨kd=6∨kd=7:=by omega
 rcases hc with rfl | rfl | rfl | rfl | rfl | rfl | rfl
 ·exact take1 w B rb st t h bd opn
 ·exact take2 w B rb st t h bd vars opn
 ·exact take3 w B rb st t h bd (bracket rfl)
 ·exact take4 w B rb st t h bd
 ·exact take5 w B rb st t h bd
 ·exact take6 w B rb st t h bd body
 ·exact take7 w B rb st t h bd
theorem terms_int (f gn:Nat) (w:World) (ts:List Tok) (k:Nat) (ki:Int) (tv:Value) (Bt B:Nat) (names:Names) (nv:Value) (q:List (List Sym) × List Tok × Names) (hki:ki=(k:Int))
  (hq:Zdr f gn (ts.drop k) names []=some q) (hts:w.ownsRow Bt 243 3 tv ts.length (Zbb ts)) (hnv:w.ownsRow B 9 1 nv names.length (strs names)) (hB:B≤w.heap.size)
  (hl:ts.length≤1000) (hn:names.length+(ts.length - k)≤1000) (htx:∀ t ∈ ts,t.text.length≤4096) (htn:∀ i t,ts[i]?=some t→i+1<ts.length→t.text≠[]) :
  Calls Tryz.prog 144 #[tv,.int .i64 ki,nv] w fun e w'=>∃ lv nv' j xs,e = .returned (.tuple #[lv,.int .i64 (j:Nat),nv'])∧q.2.1=ts.drop j∧k<j∧j≤ts.length ∧
   Kids f w' w.heap.size lv q.1 xs∧Appended w B 9 1 nv q.2.2.length (strs q.2.2) nv' w':=by
 subst hki
 exact Zrg f gn w ts k tv Bt B names nv q hq hts hnv hB hl hn htx htn
set_option maxRecDepth 10000 in
set_option maxHeartbeats 1000000 in
theorem Zln (s:ByteArray) (w:World) (hm:s.size≤maxLen) (hs:800<s.size) :
  Calls Tryz.prog 106 #[.string s] w fun e w'=>e = .returned (.tuple #[.slice none 0 0,.int .i64 1,.int .i64 0])∧Below w.heap.size w w':=by
 unfold maxLen at hm
 go_enter Tryz.func106,Tryz.ntmps106
 go_wp2
 go_ret3
 exact ⟨rfl,Below.refl _ _⟩
set_option maxRecDepth 10000 in
set_option maxHeartbeats 1000000 in
theorem Zmo (s:ByteArray) (w:World) (hs:s.size≤800) (he:(Zdc (Zaw s) (Zbc false)).1≠0) :
  Calls Tryz.prog 106 #[.string s] w fun e w'=>e = .returned (.tuple #[.slice none 0 0,.int .i64 (Zdc (Zaw s) (Zbc false)).1,.int .i64 (Zdc (Zaw s) (Zbc false)).2])∧Below w.heap.size w w':=by
 have he':(((Zdc (Zaw s) (Zbc false)).1:Int) != 0)=true:=by rw [bne_iff_ne]; omega
 go_enter Tryz.func106,Tryz.ntmps106
 go_wp2_with fail
 refine (Zim s _ (by omega)).mono ?_
 rintro e w1 ⟨v,rfl,hb1,hts⟩
 have Hts:=Zaa hts
 have Hb1:=Zaa hb1
 clear hts hb1
 go_wp2_with fail
 refine (Zlf w1 _ s v (by omega) Hts.out).mono ?_
 rintro e w2 ⟨rfl,hb2⟩
 have Hb2:=Zaa hb2
 clear hb2
 go_wp2
 go_ret3
 exact ⟨rfl,Hb1.out.trans (Hb2.out.mono Hb1.out.size)⟩
set_option maxRecDepth 10000 in
set_option maxHeartbeats 1000000 in
theorem Znq (s:ByteArray) (w:World) (cs:List Cls) (hs:s.size≤800) (he:(Zdc (Zaw s) (Zbc false)).1=0) (hq:Zhr 1000 (Zaw s) []=some cs) :
  Calls Tryz.prog 106 #[.string s] w fun e w'=>∃ lv xs,e = .returned (.tuple #[lv,.int .i64 0,.int .i64 0])∧ClsRow w' w.heap.size lv cs xs∧Below w.heap.size w w':=by
 have he':(((Zdc (Zaw s) (Zbc false)).1:Int) != 0)=false:=by rw [he]; rfl
 have hal:=Zek s
 have Hq:=Zaa hq
 have Htx:Hid (∀ t ∈ Zaw s,t.text.length≤4096):=fun t ht=>by have:=Zem s t ht; omega
 have Htn:=Zaa (Zia s)
 clear hq
 go_enter Tryz.func106,Tryz.ntmps106
 go_wp2_with fail
 refine (Zim s _ (by omega)).mono ?_
 rintro e w1 ⟨v,rfl,hb1,hts⟩
 have Hts:=Zaa hts
 have Hb1:=Zaa hb1
 clear hts hb1
 go_wp2_with fail
 refine (Zlf w1 _ s v (by omega) Hts.out).mono ?_
 rintro e w2 ⟨rfl,hb2⟩
 have Hb12:=Zaa (Hb1.out.trans (hb2.mono Hb1.out.size))
 have Hts2:=Zaa (Zog hb2 Hts.out (Nat.le_refl _))
 have hsz2:=Hb12.out.size
 obtain ⟨ta,tcap,rfl⟩:=Zad Hts2.out
 clear hb2 Hts Hb1
 generalize Zaw s=ts at *
 go_wp2
 go_loopg [8,9] 1000 (fun gk lv i wr=>∃ (j:Nat) (acc:List Cls) (xs:List (List Value)),i = .int .i64 (j:Nat)∧j≤ts.length∧acc.length≤j∧Zhr gk (ts.drop j) acc=some cs ∧
   ClsRow wr w.heap.size lv acc xs∧Below w.heap.size w wr∧wr.ownsRow w.heap.size 243 3 (.slice ta ts.length tcap) ts.length (Zbb ts))
 case atStart=>exact ⟨0,[],[],rfl,by omega,by simp,Hq.out,ClsRow.nil _ _,Hb12.out,Hts2.out⟩
 case round =>
  obtain ⟨j,acc,xs,rfl,hj,haj,hpr,hrow,hbel,htsr⟩:=hrel
  obtain ⟨la,lcap,rfl⟩:=Zad hrow.owns
  cases hdj:ts.drop j with
  | nil=>rw [hdj] at hpr; cases gk <;> simp [Zhr] at hpr
  | cons x xr =>
   obtain ⟨hx,hxr,hxl⟩:=Zfx hdj
   obtain ⟨g,tcap',he2,hg2,x0,_,_⟩:=Zjw htsr hx
   simp only [Value.slice.injEq] at he2
   obtain ⟨rfl,_,rfl⟩:=he2
   cases gk with
   | zero=>simp [Zhr] at hpr
   | succ gk =>
    rw [hdj,Zhr] at hpr
    by_cases h4:x.kind=4
    ·rw [if_pos h4] at hpr
     simp only [Option.some.injEq] at hpr
     have k4:((x.kind:Int) != 4)=false:=by rw [h4]; rfl
     have Hrow:=Zaa hrow
     have Hpr:=Zaa hpr
     clear hrow hpr hdj hx hxr htsr
     go_wp2
     go_ret3
     rw [← Hpr.out]
     exact ⟨_,xs,rfl,Hrow.out,hbel⟩
    ·rw [if_neg h4] at hpr
     have k4:((x.kind:Int) != 4)=true:=by rw [bne_iff_ne]; omega
     cases hpc:Zgb (x::xr) with
     | none=>rw [hpc] at hpr; simp at hpr
     | some cr =>
      rw [hpc] at hpr
      simp only at hpr
      rw [← hdj,Zgb] at hpc
      cases hpt:Zdk 1000 (ts.drop j) [] with
      | none=>rw [hpt] at hpc; simp at hpc
      | some r =>
       rw [hpt] at hpc
       simp only at hpc
       obtain ⟨nb,hb1,hb2,hb3,hb4⟩:=Zdu 1000 _ [] r hpt
       simp only [List.length_drop,List.length_nil] at hb2 hb4
       have hszr:=hbel.size
       have HI:=Zaa (Zuy 1000 wr ts j (.slice (some ⟨g,0,none⟩) ts.length tcap) w.heap.size wr.heap.size [] (.slice none 0 0) r hpt htsr (World.ownsRow_nil _ _ _ _) (Nat.le_refl _) (by omega) (by simp; omega) Htx.out Htn.out)
       have Hrow:=Zaa hrow
       have Hpr:=Zaa hpr
       have Hpc:=Zaa hpc
       have Htsr:=Zaa htsr
       have Hb3:=Zaa hb3
       clear hrow hpr hpc htsr hdj hx hxr hpt hb3
       go_wp2_with fail
       refine HI.out.mono ?_
       rintro e w3 ⟨a,b,c,nv,j',rfl,hrest,hj1,hj2,hrep,hap⟩
       obtain ⟨sa,bn,ca,cl,cc,rfl,rfl,rfl⟩:=hrep.shape
       obtain ⟨na,ncap,rfl⟩:=Zad hap.owns
       have hkb:Kept Zbg wr w3:=hap.kept.mono (fun k _ h=>by simp [Zbd,Value.ownBlock] at h)
       have hsz3:=hkb.size
       have hts3:=hkb.owns Htsr.out (fun _ _ h=>h)
       have Hts3:=Zaa hts3
       have Hkb:=Zaa hkb
       have Hrep:=Zaa hrep
       have Hap:=Zaa hap
       have Hrest:=Zaa hrest
       have hpc2:=Hpc.out
       rw [hrest] at hpc2
       cases hdj2:ts.drop j' with
       | nil=>rw [hdj2] at hpc2; simp at hpc2
       | cons y yr =>
        rw [hdj2] at hpc2
        simp only at hpc2
        obtain ⟨hy,hyr,hyl⟩:=Zfx hdj2
        obtain ⟨g',tcap',he2,hg3,y0,_,_⟩:=Zjw hts3 hy
        simp only [Value.slice.injEq,Option.some.injEq,Addr.mk.injEq] at he2
        obtain ⟨⟨rfl,_⟩,_,rfl⟩:=he2
        have Hyr:=Zaa hyr
        clear hkb hts3 hrep hap hrest hdj2 hy hyr x0
        by_cases h3:y.kind=3
        ·rw [if_pos h3] at hpc2
         rw [Option.map_eq_some_iff] at hpc2
         obtain ⟨q,hq1,rfl⟩:=hpc2
         rw [h3] at y0
         have Hq1:=Zaa hq1
         clear hq1
         have Hnv:Hid (w3.ownsRow wr.heap.size 9 1 (.slice na r.2.2.length ncap) r.2.2.length (strs r.2.2)):=Hap.out.owns
         have hnb:r.2.2.length≤nb:=by omega
         have hj3:j'=j+nb:=by
          have h1:=congrArg List.length Hrest.out
          rw [Hb3.out] at h1
          simp only [List.length_drop] at h1
          omega
         have hnn:r.2.2.length+(ts.length - (j'+1))≤1000:=by omega
         clear hj3
         go_wp2_with fail
         refine (terms_int 1000 1000 _ ts (j'+1) _ (.slice (some ⟨g,0,none⟩) ts.length tcap) w.heap.size wr.heap.size r.2.2 (.slice na r.2.2.length ncap) q (by omega) (by rw [Hyr.out]; exact Hq1.out) ((Hts3.out.alloc _).alloc _) ((Hnv.out.alloc _).alloc _) (by simp; omega) (by omega) hnn Htx.out Htn.out).mono ?_
         rintro e w5 ⟨bv,nv2,j2,ys,rfl,hrest2,hj5,hj6,hkids,hap5⟩
         obtain ⟨ba,bcap,rfl⟩:=Zad hkids.owns
         obtain ⟨n2a,n2cap,rfl⟩:=Zad hap5.owns
         have hN:∀ o o',((w3.alloc o).alloc o').heap[w3.heap.size+1]?=some o':=fun o o'=>by
          have:=heap_alloc_new (w3.alloc o) o'
          simpa using this
         have hN':=hN (.cells #[.string sa,.int .i64 bn,.slice ca cl cc] 183) (.cells #[.string sa,.int .i64 bn,.slice ca cl cc,.slice none 0 0,.int .i64 0] 185)
         have hsz5:=hap5.kept.size
         simp only [World.alloc,Array.size_push] at hsz5
         have hblk5:w5.heap[w3.heap.size+1]?=some (.cells #[.string sa,.int .i64 bn,.slice ca cl cc,.slice none 0 0,.int .i64 0] 185 (0,0)) :=
          (hap5.kept.block (w3.heap.size+1) (by simp) (Zah ((Hnv.out.alloc _).alloc _) (by decide) hN')).trans hN'
         have z3:w5.cell? ⟨w3.heap.size+1,3,none⟩=some (.slice none 0 0):=Zab hblk5 3 _ rfl
         have z4:w5.cell? ⟨w3.heap.size+1,4,none⟩=some (.int .i64 0):=Zab hblk5 4 _ rfl
         have z0:w5.cell? ⟨w3.heap.size+1,0,none⟩=some (.string sa):=Zab hblk5 0 _ rfl
         have z1:w5.cell? ⟨w3.heap.size+1,1,none⟩=some (.int .i64 bn):=Zab hblk5 1 _ rfl
         have z2:w5.cell? ⟨w3.heap.size+1,2,none⟩=some (.slice ca cl cc):=Zab hblk5 2 _ rfl
         have zf:=fun i=>Zae hblk5 i
         have zs:w3.heap.size+1<w5.heap.size:=Zac hblk5
         have k35:Kept (Zbd (.slice na r.2.2.length ncap)) w3 w5:=(((Kept.refl _ w3).alloc _).alloc _).trans hap5.kept
         have hrow3:w3.ownsRow w.heap.size 185 5 (.slice la acc.length lcap) acc.length xs.flatten:=Hkb.out.owns Hrow.out.owns (fun _ _ h=>h)
         have hrow5:w5.ownsRow w.heap.size 185 5 (.slice la acc.length lcap) acc.length xs.flatten:=k35.owns hrow3 (fun k hk=>by
          obtain ⟨cur,hc⟩:=Zap hrow3 k hk
          exact Zah Hnv.out (by decide) hc)
         have hts5:=k35.owns Hts3.out (fun k hk=>by
          obtain ⟨cur,hc⟩:=Zap Hts3.out k hk
          exact Zah Hnv.out (by decide) hc)
         have hnot:∀ k,(Value.slice la acc.length lcap).ownBlock=some k→¬ only (w3.heap.size+1) k:=fun k hk e=>by
          have e:k=w3.heap.size+1:=e
          have:=(hrow3.lt k hk).2
          omega
         have hkt1:KeepT wr w3:=KeepT.of_kept Hkb.out (fun _ _ h=>h)
         have hkt2:KeepT w3 w5:=KeepT.of_apart k35 Hnv.out (by decide)
         have hk56:∀ v3 v4:Value,Kept (only (w3.heap.size+1)) w5 ((w5.setCell ⟨w3.heap.size+1,3,none⟩ v3).setCell ⟨w3.heap.size+1,4,none⟩ v4):=fun v3 v4=>((Kept.refl _ w5).put 3 v3).put 4 v4
         have hkt3:∀ v3 v4:Value,KeepT w5 ((w5.setCell ⟨w3.heap.size+1,3,none⟩ v3).setCell ⟨w3.heap.size+1,4,none⟩ v4):=fun v3 v4=>KeepT.of_kept (hk56 v3 v4) (fun k hk e=>by
          have e:k=w3.heap.size+1:=e
          subst e
          obtain ⟨cur,hc⟩:=hk
          rw [hblk5] at hc
          simp at hc)
         have Hcls:=Zaa (show ClsAt w5 [.string sa,.int .i64 bn,.slice ca cl cc,.slice ba q.1.length bcap,.int .i64 (q.2.2.length:Nat)] ⟨r.1,q.1,q.2.2⟩ from ⟨sa,bn,ca,cl,cc,_,_,_,_,ys,rfl,Hrep.out.keep hkt2,hkids⟩)
         have Hrow56:=Zaa (fun v3 v4:Value=>(hk56 v3 v4).owns hrow5 hnot)
         have Hk56:=Zaa hk56
         have Hkt3:=Zaa hkt3
         have Hkt:=Zaa (hkt1.trans hkt2)
         have Hts5:=Zaa hts5
         have Hrest2:=Zaa hrest2
         have H35:=Zaa k35
         have Hblk5:=Zaa hblk5
         have Hrow5:=Zaa hrow5
         clear hN hN' hblk5 k35 hrow3 hrow5 hts5 hnot hkt1 hkt2 hk56 hkt3 hkids hap5 hrest2 y0
         go_wp2_with (at_builtin; refine Zaj _ rfl (.tmp 69) (.tmp 71) 145 rfl w.heap.size 185 Tryz.infoClause Tryz.underlying145 rfl (by decide) _ acc.length xs.flatten rfl (Hrow56.out _ _) _ rfl (by simp) rfl cls_one ?_ ?_ ?_)
         ·omega
         ·simp; omega
         intro lv' w6 hap6
         have Hap6:=Zaa hap6
         clear hap6
         go_wp2
         go_roundg gk
         case measure=>omega
         case rel =>
          have hr56:=Hrow56.out (.slice ba q.1.length bcap) (.int .i64 (q.2.2.length:Nat))
          have hk56:=Hk56.out (.slice ba q.1.length bcap) (.int .i64 (q.2.2.length:Nat))
          have hkt3:=Hkt3.out (.slice ba q.1.length bcap) (.int .i64 (q.2.2.length:Nat))
          have hktB:KeepT _ w6:=KeepT.of_apart Hap6.out.kept hr56 (by decide)
          have hrowW:=Hrow.out.keep (Hkt.out.trans hkt3) hr56
          have hts56:=hk56.owns Hts5.out (fun k hk e=>by
           have e:k=w3.heap.size+1:=e
           subst e
           exact Zah Hts5.out (by decide) Hblk5.out hk)
          refine ⟨j2,acc++[⟨r.1,q.1,q.2.2⟩],_,rfl,by omega,by simp; omega,by rw [← Hrest2.out]; exact Hpr.out,hrowW.add (Hcls.out.keep hkt3) rfl hktB Hap6.out.owns,?_,?_⟩
          ·have hz5:=H35.out.size
           have hz6:=hk56.size
           refine hbel.trans ((Hkb.out.below hszr (fun _ h=>h.elim)).trans ((H35.out.below (by omega) (fun k h => ?_)).trans ((hk56.below (by omega) (fun k h => ?_)).trans (Hap6.out.kept.below (by omega) (fun k h=>(hr56.lt k h).1)))))
           ·have:=(Hnv.out.lt k h).1; omega
           ·have h:k=w3.heap.size+1:=h
            omega
          ·exact Hap6.out.kept.owns hts56 (fun k hk=>by
            obtain ⟨cur,hc⟩:=Zap hts56 k hk
            exact Zah hr56 (by decide) hc)
        ·rw [if_neg h3] at hpc2
         simp only [Option.some.injEq] at hpc2
         have k3:((y.kind:Int) == 3)=false:=by rw [beq_eq_false_iff_ne]; omega
         subst hpc2
         go_wp2_with (at_builtin; refine Zaj _ rfl (.tmp 69) (.tmp 71) 145 rfl w.heap.size 185 Tryz.infoClause Tryz.underlying145 rfl (by decide) _ acc.length xs.flatten rfl (((Hkb.out.owns Hrow.out.owns (fun _ _ h=>h)).alloc _).alloc _) _ rfl (by simp) rfl cls_one ?_ ?_ ?_)
         ·omega
         ·simp; omega
         intro lv' w6 hap6
         have Hap6:=Zaa hap6
         clear hap6
         go_wp2
         go_roundg gk
         case measure=>omega
         case rel =>
          have hrow3:w3.ownsRow w.heap.size 185 5 (.slice la acc.length lcap) acc.length xs.flatten:=Hkb.out.owns Hrow.out.owns (fun _ _ h=>h)
          have k36:Kept (Zbd (.slice la acc.length lcap)) w3 w6:=(((Kept.refl _ w3).alloc _).alloc _).trans Hap6.out.kept
          have hkt1:KeepT wr w3:=KeepT.of_kept Hkb.out (fun _ _ h=>h)
          have hkt2:KeepT w3 w6:=KeepT.of_apart k36 hrow3 (by decide)
          have hcls:ClsAt w3 [.string sa,.int .i64 bn,.slice ca cl cc,.slice none 0 0,.int .i64 (r.2.2.length:Nat)] ⟨r.1,[],r.2.2⟩:=⟨sa,bn,ca,cl,cc,_,_,_,0,[],rfl,Hrep.out,Kids.nil _ _ _⟩
          have hrow3':=Hrow.out.keep hkt1 hrow3
          refine ⟨j'+1,acc++[⟨r.1,[],r.2.2⟩],_,by go_num,by omega,by simp; omega,by rw [Hyr.out]; exact Hpr.out,hrow3'.add hcls rfl hkt2 Hap6.out.owns,?_,?_⟩
          ·refine hbel.trans ((Hkb.out.below hszr (fun _ h=>h.elim)).trans (k36.below (by omega) (fun k h=>(hrow3.lt k h).1)))
          ·exact k36.owns Hts3.out (fun k hk=>by
            obtain ⟨cur,hc⟩:=Zap Hts3.out k hk
            exact Zah hrow3 (by decide) hc)
theorem ClsRow.cell {w:World} {lo g cap:Nat} {cs:List Cls} {xs:List (List Value)} (h:ClsRow w lo (.slice (some ⟨g,0,none⟩) cs.length cap) cs xs) {i:Nat} {x:List Value} (hx:xs[i]?=some x) (j:Nat) (hj:j<5) (v:Value) (hv:x[j]?=some v) :
  w.cell? ⟨g,i * 5+j,none⟩=some v:=by
 refine Zaf h.owns (i * 5+j) v ?_
 have five:=h.five
 clear h
 induction xs generalizing i with
 | nil=>simp at hx
 | cons y ys ih =>
  have hy:=five y (by simp)
  cases i with
  | zero =>
   simp at hx; subst hx
   rw [List.flatten_cons,List.getElem?_append_left (by omega)]
   simpa using hv
  | succ i =>
   rw [List.flatten_cons,List.getElem?_append_right (by omega)]
   rw [← ih (i:=i) (by simpa using hx) (fun z hz=>five z (by simp [hz]))]
   congr 1
   omega
end Go.Proofs.YtlmjilpjmgjjcaaGreatDoor
namespace Go.Proofs.YtlmjilpjmgjjcaaGreatDoor
set_option linter.unusedSimpArgs false
set_option linter.unusedVariables false
def okk (ts:List Tok) (L:LookS):Prop:=(Zdc ts L).1=0
def fin:List Tok→Prop
 | []=>False
 | t::ts=>t.kind=4∨fin ts
theorem Zhd {t:Tok} {ts:List Tok} {L:LookS} (h:okk (t::ts) L) (hn:¬ (t.kind=4∧(L.want=5∨L.want=0))):(Zat L t.kind t.text.length).err=0∧okk ts (Zat L t.kind t.text.length):=by
 unfold okk at h
 rw [Zdc,if_neg hn] at h
 by_cases he:(Zat L t.kind t.text.length).err=0
 ·rw [if_neg (by simp [he])] at h
  exact ⟨he,h⟩
 ·rw [if_pos he] at h
  exact absurd h he
structure Aft (rest:List Tok) (L L':LookS) (stk:List Nat):Prop where
 ok:okk rest L'
 fin:fin rest
 want:L'.want=4∨(L'.want=3∧∀ y ys,rest=y::ys→y.kind≠40)
 stk:L'.stk=stk
 err:L'.err=0
 query:L'.query=L.query
 body:L'.body=(if L.want=0 then false else L.body)
theorem Zjh {L:LookS} {kd tn:Nat} (he:L.err=0) (h:(Zau L kd tn).err=0):kd=1∨(kd=2∧L.want=2):=by
 unfold Zau at h
 split at h
 ·simp at h
 ·omega
theorem Zpw {L:LookS} {kd tn:Nat} (h:(Zau L kd tn).err=0) (hk:kd=1∨(kd=2∧L.want=2)) :
  (Zau L kd tn).want=(if kd=1 then 3 else 4)∧(Zau L kd tn).stk=(Zbp L).stk∧(Zau L kd tn).query=L.query∧(Zau L kd tn).body=(if L.want=0 then false else L.body):=by
 have hn:¬ (kd≠1∧(kd≠2∨L.want≠2)):=by omega
 unfold Zau
 rw [if_neg hn]
 refine ⟨rfl,rfl,?_,?_⟩
 ·show (Zbp L).query=_
  unfold Zbp
  split
  ·rfl
  ·split
   ·rfl
   ·split <;> rfl
 ·show (Zbp L).body=_
  unfold Zbp
  split
  ·rfl
  ·split
   ·rfl
   ·split <;> rfl
theorem aft_in {y:Tok} {ys:List Tok} {L L':LookS} {n:Nat} {r:List Nat} (h:Aft (y::ys) L L' (n::r)) :
  (y.kind=44∧okk ys (Zak L' 44)∧fin ys∧(Zak L' 44) = { L' with want:=2 })∨(y.kind=41∧okk ys (Zak L' 41)∧fin ys∧(Zak L' 41) = { L' with stk:=r,want:=4 }):=by
 have hw:¬ L'.want≤2∧L'.want≠5∧L'.want≠0:=by rcases h.want with hw | ⟨hw,_⟩ <;> omega
 have h4:¬ (y.kind=4∧(L'.want=5∨L'.want=0)):=by omega
 obtain ⟨he,ho⟩:=Zhd h.ok h4
 unfold Zat at he ho
 rw [if_neg hw.1,if_neg hw.2.1] at he ho
 have hst:=h.stk
 have h40:¬ (y.kind=40∧L'.want=3):=by
  rintro ⟨h1,h2⟩
  rcases h.want with hw | ⟨_,hw⟩
  ·omega
  ·exact hw y ys rfl h1
 have hfin:y.kind≠4→fin ys:=fun hy=>by
  rcases h.fin with h | h
  ·exact absurd h hy
  ·exact h
 by_cases h44:y.kind=44
 ·left
  rw [h44] at ho
  exact ⟨h44,ho,hfin (by omega),by simp [Zak,hst]⟩
 ·by_cases h41:y.kind=41
  ·right
   rw [h41] at ho
   exact ⟨h41,ho,hfin (by omega),by simp [Zak,hst]⟩
  ·exfalso
   simp [Zak,hst,h44,h41] at he
   split at he
   ·rename_i hc; exact h40 hc
   ·simp at he
end Go.Proofs.YtlmjilpjmgjjcaaGreatDoor
namespace Go.Proofs.YtlmjilpjmgjjcaaGreatDoor
open Go.RowKit
set_option linter.unusedSimpArgs false
set_option linter.unusedVariables false
theorem aft_out {y:Tok} {ys:List Tok} {L L':LookS} (h:Aft (y::ys) L L' []) :
  (y.kind=44∧L'.body=true∧okk ys (Zak L' 44)∧fin ys∧(Zak L' 44) = { L' with want:=1 }) ∨
  (y.kind=3∧L'.body=false∧okk ys (Zak L' 3)∧fin ys∧(Zak L' 3) = { L' with body:=true,goals:=0,want:=1 }) ∨
  (y.kind=46∧okk ys (Zak L' 46)∧fin ys∧(Zak L' 46) = { L' with want:=if L'.query then 5 else 0 }):=by
 have hw:¬ L'.want≤2∧L'.want≠5∧L'.want≠0:=by rcases h.want with hw | ⟨hw,_⟩ <;> omega
 have h4:¬ (y.kind=4∧(L'.want=5∨L'.want=0)):=by omega
 obtain ⟨he,ho⟩:=Zhd h.ok h4
 unfold Zat at he ho
 rw [if_neg hw.1,if_neg hw.2.1] at he ho
 have hst:=h.stk
 have h40:¬ (y.kind=40∧L'.want=3):=by
  rintro ⟨h1,h2⟩
  rcases h.want with hw | ⟨_,hw⟩
  ·omega
  ·exact hw y ys rfl h1
 have hfin:y.kind≠4→fin ys:=fun hy=>by
  rcases h.fin with h | h
  ·exact absurd h hy
  ·exact h
 by_cases h44:y.kind=44
 ·left
  rw [h44] at ho he
  cases hb:L'.body
  ·simp [Zak,hst,hb] at he
  ·exact ⟨h44,rfl,ho,hfin (by omega),by simp [Zak,hst,hb]⟩
 ·by_cases h3:y.kind=3
  ·right; left
   rw [h3] at ho he
   cases hb:L'.body
   ·exact ⟨h3,rfl,ho,hfin (by omega),by simp [Zak,hst,hb]⟩
   ·simp [Zak,hst,hb] at he
  ·by_cases h46:y.kind=46
   ·right; right
    rw [h46] at ho he
    refine ⟨h46,ho,hfin (by omega),?_⟩
    cases hq:L'.query <;> simp [Zak,hst,hq]
   ·exfalso
    simp [Zak,hst,h44,h3,h46] at he
    split at he
    ·rename_i hc; exact h40 hc
    ·simp at he
theorem not_end {ts:List Tok} {L:LookS} (hok:okk ts L) (hw:L.want=1) (he:L.err=0):∀ t r,ts=t::r→t.kind≠4:=by
 rintro t r rfl h4
 have:=(Zhd hok (by omega)).1
 unfold Zat at this
 rw [if_pos (by omega)] at this
 rcases Zjh he this with h | h <;> omega
theorem fin_end (l:List Tok) (p:Nat):fin (l++[⟨4,[],p⟩]):=by
 induction l with
 | nil=>exact Or.inl rfl
 | cons t l ih=>exact Or.inr ih
def kmap (k:Nat):Nat:=if k=1 then 1 else if k=2 then 2 else if k=40 then 3 else if k=41 then 4 else if k=44 then 5 else if k=46 then 6 else if k=3 then 7 else 8
def Zho (k:Nat):Prop:=k=1∨k=2∨k=40∨k=41∨k=44∨k=46∨k=3∨k=5
theorem signs_is (c:UInt8) (h:inB c Zht=true):c=40∨c=41∨c=44∨c=46:=by
 have:=Zei (p:=fun c => !inB c Zht || (c == 40 || c == 41 || c == 44 || c == 46)) (by decide +kernel) c
 simpa [h,or_assoc] using this
theorem Zwz (c:UInt8) (h:inB c Zht=false):¬ c=40∧¬ c=41∧¬ c=44∧¬ c=46:=by
 have:=Zei (p:=fun c=>inB c Zht || !(c == 40 || c == 41 || c == 44 || c == 46)) (by decide +kernel) c
 simpa [h,not_or,and_assoc] using this
theorem Zon (c:UInt8) (r:List UInt8) :
  (Zbt c r=(1,Zbl r)∧Zdt c (r.head?.getD 0)=1∧inB c Zhp=true)∨(Zbt c r=(2,Zbl r)∧Zdt c (r.head?.getD 0)=2∧inB c Zhp=true) ∨
  (Zbt c r=(40,0)∧Zdt c (r.head?.getD 0)=3)∨(Zbt c r=(41,0)∧Zdt c (r.head?.getD 0)=4)∨(Zbt c r=(44,0)∧Zdt c (r.head?.getD 0)=5)∨(Zbt c r=(46,0)∧Zdt c (r.head?.getD 0)=6) ∨
  (Zbt c r=(3,1)∧Zdt c (r.head?.getD 0)=7)∨(Zbt c r=(5,0)∧Zdt c (r.head?.getD 0)=8):=by
 unfold Zbt Zdt
 cases h1:inB c Zee
 ·cases h2:inB c Zfp
  ·cases h3:inB c Zht
   ·obtain ⟨a1,a2,a3,a4⟩:=Zwz c h3
    have hd:(c=58∧r.head?=some 45)↔(c=58∧r.head?.getD 0=45):=by
     cases r with
     | nil=>simp
     | cons d r=>simp
    by_cases h:c=58∧r.head?=some 45
    ·have h':=hd.1 h
     simp only [Bool.false_eq_true,if_false,if_neg a1,if_neg a2,if_neg a3,if_neg a4,if_pos h,if_pos h']
     simp
    ·have h':¬ (c=58∧r.head?.getD 0=45):=fun e=>h (hd.2 e)
     simp only [Bool.false_eq_true,if_false,if_neg a1,if_neg a2,if_neg a3,if_neg a4,if_neg h,if_neg h']
     simp
   ·rcases signs_is c h3 with rfl | rfl | rfl | rfl <;> simp
  ·simp [Ziw h2]
 ·simp [Zhu h1]
theorem Zmp (c:UInt8) (r:List UInt8):kmap (Zbt c r).1=Zdt c (r.head?.getD 0)∧Zho (Zbt c r).1:=by
 rcases Zon c r with ⟨h1,h2,_⟩ | ⟨h1,h2,_⟩ | ⟨h1,h2⟩ | ⟨h1,h2⟩ | ⟨h1,h2⟩ | ⟨h1,h2⟩ | ⟨h1,h2⟩ | ⟨h1,h2⟩ <;> rw [h1,h2] <;> exact ⟨rfl,by unfold Zho; simp⟩
theorem head_end (s:ByteArray) (p:Nat) (c:UInt8) (r:List UInt8) (hd:s.data.toList.drop p=c::r):endC s p (Zdt c (r.head?.getD 0))=p+((Zbt c r).2+1):=by
 rcases Zon c r with ⟨h1,h2,h3⟩ | ⟨h1,h2,h3⟩ | ⟨h1,h2⟩ | ⟨h1,h2⟩ | ⟨h1,h2⟩ | ⟨h1,h2⟩ | ⟨h1,h2⟩ | ⟨h1,h2⟩ <;> rw [h1,h2] <;> simp [endC,hd]
 ·rw [Zex c r h3]
 ·rw [Zex c r h3]
theorem Zmq (s:ByteArray) (p:Nat):Zdz s p=(s.data.toList.drop p).head?.getD 0:=by
 unfold Zdz
 rw [List.head?_drop]
theorem Ztm:∀ (l:List UInt8) (p:Nat),toks l p=toks (l.drop (Zdd l)) (p+Zdd l):=by
 intro l
 induction l with
 | nil=>intro p; rfl
 | cons c r ih =>
  intro p
  unfold Zdd
  cases h:Zhq c
  ·simp
  ·rw [Znz c r p h,ih (p+1)]
   simp only [if_pos,List.drop_succ_cons]
   congr 1
   omega
theorem Zxa (l:List UInt8) (c:UInt8) (r:List UInt8) (h:l.drop (Zdd l)=c::r):Zhq c=false:=by
 induction l with
 | nil=>simp [Zdd] at h
 | cons d l ih =>
  unfold Zdd at h
  cases hb:Zhq d
  ·rw [hb] at h
   simp at h
   rw [← h.1]; exact hb
  ·rw [hb] at h
   simp only [if_pos,List.drop_succ_cons] at h
   exact ih h
theorem part_take (s:ByteArray) (p k:Nat):(s.extract p (p+k)).data.toList=(s.data.toList.drop p).take k:=by
 rw [ByteArray.data_extract,Array.toList_extract,List.extract_eq_take_drop]
 congr 1
 omega
theorem next_toks (s:ByteArray) (n:Nat) (hn:n≤s.size) :
  (Zmi s n=(0,s.size,s.size)∧toks (s.data.toList.drop n) n=[]) ∨
  ∃ t q,Zmi s n=(kmap t.kind,t.pos,q)∧toks (s.data.toList.drop n) n=t::toks (s.data.toList.drop q) q∧Zho t.kind∧n≤t.pos∧t.pos<q∧q≤s.size∧s.extract t.pos q=⟨t.text.toArray⟩∧t.text.length=q - t.pos:=by
 have hl:s.data.toList.length=s.size:=by rw [Array.length_toList]; rfl
 rw [Ztm,List.drop_drop]
 unfold Zmi
 obtain ⟨p,hp⟩:∃ p,p=n+Zdd (s.data.toList.drop n):=⟨_,rfl⟩
 rw [← hp]
 by_cases h:p<s.size
 ·right
  rw [if_pos h]
  obtain ⟨c,r,hd⟩:∃ c r,s.data.toList.drop p=c::r:=by
   cases hc:s.data.toList.drop p with
   | nil =>
    have:=congrArg List.length hc
    simp only [List.length_drop,List.length_nil] at this
    omega
   | cons c r=>exact ⟨c,r,rfl⟩
  have hb:Zhq c=false:=Zxa (s.data.toList.drop n) c r (by rw [List.drop_drop,← hp]; exact hd)
  have hd1:s.data.toList.drop (p+1)=r:=by rw [← List.drop_drop,hd]; rfl
  have hc0:Zdz s p=c:=by rw [Zmq,hd]; rfl
  have hc1:Zdz s (p+1)=r.head?.getD 0:=by rw [Zmq,hd1]
  have hle:=Zqu c r
  have hlen:(s.data.toList.drop p).length=s.size - p:=by rw [List.length_drop,hl]
  rw [hd] at hlen
  simp only [List.length_cons] at hlen
  rw [hc0,hc1,hd,Zqv c r p hb]
  refine ⟨⟨(Zbt c r).1,(c::r).take ((Zbt c r).2+1),p⟩,p+((Zbt c r).2+1),?_,?_,(Zmp c r).2,by simp only; omega,by simp only; omega,by omega,?_,?_⟩
  ·rw [head_end s p c r hd,(Zmp c r).1]
  ·congr 2
   ·rw [← List.drop_drop,hd]; rfl
  ·have:(s.extract p (p+((Zbt c r).2+1))).data.toList=(c::r).take ((Zbt c r).2+1):=by rw [part_take,hd]
   simp only
   rw [← this]
  ·simp; omega
 ·left
  rw [if_neg h]
  refine ⟨rfl,?_⟩
  rw [List.drop_eq_nil_of_le (by omega)]
  rfl
structure RI (k:Nat) (st:RS):Prop where
 opnl:st.opn.length≤k
 atoml:st.atom.length≤k
 bodyl:st.body.length≤k
 clsl:st.clauses.length≤k
 varsl:st.vars.length≤k
 args:∀ s ∈ st.atom,s.args≤k
 next:st.next≤5
 opn:∀ n ∈ st.opn,n<st.atom.length
 name:st.next=3→0<st.atom.length
theorem RI.bd {k:Nat} {st:RS} (h:RI k st) (hk:k≤4000):RBd st :=
 ⟨Nat.le_trans h.opnl (by omega),Nat.le_trans h.atoml (by omega),Nat.le_trans h.bodyl (by omega),Nat.le_trans h.clsl (by omega),fun s hs=>Nat.le_trans (h.args s hs) (by omega)⟩
theorem Zji {st:RS} {kd len:Nat} (h:Zcc st kd len=0):Zbr st kd=true:=by
 unfold Zcc at h
 split at h
 ·omega
 ·rename_i hs
  simpa using hs
theorem Zjj {st:RS} {kd:Nat} (h:Zbr st kd=true) (hn:st.next≤5):1≤kd∧kd≤7∧(kd=3→st.next=3)∧(kd=6∨kd=7→st.opn=[]):=by
 have fol:Zcb st kd=true→(kd=4∨kd=5∨kd=6∨kd=7)∧(kd=6∨kd=7→st.opn=[]):=by
  unfold Zcb
  cases ho:st.opn with
  | nil =>
   simp only [List.isEmpty_nil,if_true]
   intro h
   refine ⟨?_,fun _=>trivial⟩
   split at h
   ·simp at h; omega
   ·simp at h; omega
  | cons n r =>
   simp only [List.isEmpty_cons]
   intro h
   simp at h
   exact ⟨by omega,fun h=>by omega⟩
 unfold Zbr at h
 split at h
 ·simp at h; subst h; simp
 ·split at h
  ·simp at h; rcases h with rfl | rfl <;> simp
  ·split at h
   ·rename_i h3
    simp only [Bool.or_eq_true,beq_iff_eq] at h
    rcases h with rfl | h
    ·exact ⟨by omega,by omega,fun _=>h3,by omega⟩
    ·obtain ⟨h1,h2⟩:=fol h
     exact ⟨by omega,by omega,by omega,h2⟩
   ·split at h
    ·obtain ⟨h1,h2⟩:=fol h
     exact ⟨by omega,by omega,by omega,h2⟩
    ·simp at h
theorem RI.takes {k:Nat} {st:RS} {kd:Nat} (h:RI k st) (hk:k≤4000) (hs:Zbr st kd=true):TakeOk st kd:=by
 obtain ⟨h1,h2,h3,h4⟩:=Zjj hs h.next
 have:=h.varsl
 have:=h.bodyl
 exact ⟨h.bd hk,by omega,by omega,h.opn,h1,h2,fun e=>h.name (h3 e)⟩
theorem Zlv (st:RS):(Zcv st).length=st.atom.length:=by unfold Zcv; split <;> simp
theorem bump_args {k:Nat} (st:RS) (h:∀ s ∈ st.atom,s.args≤k):∀ s ∈ Zcv st,s.args≤k+1:=by
 unfold Zcv
 split
 ·exact fun s hs=>Nat.le_succ_of_le (h s hs)
 ·rename_i n r ho
  intro s hs
  obtain ⟨i,hi⟩:=List.getElem?_of_mem hs
  rw [List.getElem?_modify] at hi
  cases hx:st.atom[i]? with
  | none=>rw [hx] at hi; simp at hi
  | some x =>
   rw [hx] at hi
   have:=h x (List.mem_of_getElem? hx)
   simp at hi
   split at hi
   ·subst hi; simpa using this
   ·subst hi; omega
theorem RI.mono {k:Nat} {st:RS} (h:RI k st):RI (k+1) st :=
 ⟨Nat.le_succ_of_le h.opnl,Nat.le_succ_of_le h.atoml,Nat.le_succ_of_le h.bodyl,Nat.le_succ_of_le h.clsl,Nat.le_succ_of_le h.varsl,fun s hs=>Nat.le_succ_of_le (h.args s hs),h.next,h.opn,h.name⟩
theorem RI.at {k m:Nat} {st:RS} (h:RI k st) (hk:k≤m):RI m st :=
 ⟨Nat.le_trans h.opnl hk,Nat.le_trans h.atoml hk,Nat.le_trans h.bodyl hk,Nat.le_trans h.clsl hk,Nat.le_trans h.varsl hk,fun s hs=>Nat.le_trans (h.args s hs) hk,h.next,h.opn,h.name⟩
theorem RI.add {k:Nat} {st:RS} (h:RI k st) (s:Sym) (hs:s.args=0) (n:Nat) (hn:n≤5) (vars:Names) (hv:vars.length≤k+1):RI (k+1) { addS st s with next:=n,vars:=vars }:=by
 have hl:=Zlv st
 have h0:=h.atoml
 have h1:=h.opnl
 refine ⟨by simp [addS]; omega,by simp [addS,hl]; omega,Nat.le_succ_of_le h.bodyl,Nat.le_succ_of_le h.clsl,hv,?_,hn,?_,?_⟩
 ·intro x hx
  simp only [addS,List.mem_append,List.mem_singleton] at hx
  rcases hx with hx | rfl
  ·exact bump_args st h.args x hx
  ·omega
 ·intro x hx
  have:=h.opn x hx
  simp only [addS,List.length_append,hl,List.length_singleton]
  omega
 ·intro _
  simp [addS]
theorem RI.ends {k:Nat} {st:RS} (h:RI k st) (ho:st.opn=[]) (n:Nat) (hn:n≤5) (h3:n≠3) (b:Bool):RI (k+1) { Zav st with next:=n,inBody:=b }:=by
 have h0:=h.bodyl
 have ha:(Zav st).atom=[]:=by unfold Zav; split <;> rfl
 have hb:(Zav st).body.length≤k+1:=by unfold Zav; split <;> simp <;> omega
 have hc:(Zav st).clauses=st.clauses:=by unfold Zav; split <;> rfl
 have hv:(Zav st).vars=st.vars:=by unfold Zav; split <;> rfl
 have hp:(Zav st).opn=[]:=by unfold Zav; split <;> exact ho
 have:=h.clsl
 have:=h.varsl
 exact ⟨by simp [hp],by simp [ha],hb,by simp only [hc]; omega,by simp only [hv]; omega,by simp [ha],hn,by simp [hp],fun e=>absurd e h3⟩
theorem RI.take {k:Nat} {st:RS} {kd:Nat} (t:List UInt8) (h:RI k st) (hs:Zbr st kd=true):RI (k+1) (Zbs st kd t):=by
 obtain ⟨h1,h2,h3,h4⟩:=Zjj hs h.next
 have hc:kd=1∨kd=2∨kd=3∨kd=4∨kd=5∨kd=6∨kd=7:=by omega
 have a1:=h.opnl
 have a2:=h.atoml
 have a3:=h.varsl
 rcases hc with rfl | rfl | rfl | rfl | rfl | rfl | rfl
 ·exact h.add ⟨t,0,0⟩ rfl 3 (by omega) st.vars (by omega)
 ·have hv:=Zle st.vars t
  exact h.add ⟨[],(Zbo st.vars t).2,0⟩ rfl 4 (by omega) (Zbo st.vars t).1 (by omega)
 ·have hp:=h.name (h3 rfl)
  have m:=h.mono
  refine ⟨by simp [Zbs]; omega,m.atoml,m.bodyl,m.clsl,m.varsl,m.args,by simp [Zbs],?_,by simp [Zbs]⟩
  intro n hn
  simp only [Zbs,List.mem_cons] at hn
  simp at hn
  show n<st.atom.length
  rcases hn with rfl | hn
  ·omega
  ·exact h.opn n hn
 ·have m:=h.mono
  refine ⟨by simp [Zbs,Ziz]; omega,m.atoml,m.bodyl,m.clsl,m.varsl,m.args,by simp [Zbs],?_,by simp [Zbs]⟩
  intro n hn
  simp [Zbs,Ziz] at hn
  exact h.opn n (List.mem_of_mem_tail hn)
 ·show RI (k+1) (Zgh st)
  unfold Zgh
  cases ho:st.opn with
  | nil =>
   have:=h.ends ho 1 (by omega) (by omega) (Zav st).inBody
   simpa using this
  | cons n r =>
   have m:=h.mono
   simp only [List.isEmpty_cons,Bool.false_eq_true,if_false]
   have m1:=m.opnl
   have m2:=m.opn
   rw [ho] at m1 m2
   exact ⟨m1,m.atoml,m.bodyl,m.clsl,m.varsl,m.args,by simp,m2,by simp⟩
 ·show RI (k+1) (Zaq (Zav st))
  have hw:=h.ends (h4 (by omega)) 0 (by omega) (by omega) false
  have hcl:(Zav st).clauses=st.clauses:=by unfold Zav; split <;> rfl
  have:=h.clsl
  refine ⟨hw.opnl,hw.atoml,by simp [Zaq],by simp [Zaq,hcl]; omega,by simp [Zaq],hw.args,?_,hw.opn,?_⟩
  ·simp only [Zaq]; split <;> omega
  ·simp only [Zaq]; split <;> omega
 ·exact h.ends (h4 (by omega)) 1 (by omega) (by omega) true
def runT (e:Nat):List Tok→RS→Nat × Nat × RS
 | [],st=>if st.next≠0∧st.next≠5 then (2,e,st) else (0,0,st)
 | t::ts,st=>if Zcc st (kmap t.kind) t.text.length≠0 then (Zcc st (kmap t.kind) t.text.length,t.pos,st) else runT e ts (Zbs st (kmap t.kind) t.text)
end Go.Proofs.YtlmjilpjmgjjcaaGreatDoor
namespace Go.Proofs.YtlmjilpjmgjjcaaGreatDoor
set_option linter.unusedSimpArgs false
set_option linter.unusedVariables false
def Zfn (l:List Sym) (n:Nat):Nat:=(l[n]?.map (fun s=>s.args)).getD 0
structure Sim (st:RS) (L:LookS):Prop where
 want:L.want=st.next
 query:L.query=st.query
 err:L.err=0
 n5:st.next≤5
 stk:L.stk=st.opn.map (Zfn st.atom)
 opn:∀ n ∈ st.opn,n<st.atom.length
 down:st.opn.Pairwise (fun a b=>b<a)
 flat:st.next=0∨st.next=1∨st.next=5→st.atom=[]∧st.opn=[]
 size:st.next=2∨st.next=3∨st.next=4→L.size=st.atom.length
 open2:st.next=2→st.opn≠[]
 name:st.next=3→0<st.atom.length∧Zfn st.atom (st.atom.length - 1)=0∧∀ n ∈ st.opn,n<st.atom.length - 1
 inb:st.next≠0→st.next≠5→L.body=st.inBody
 inb1:st.next=1→st.inBody=true
 goals:st.inBody=true→st.next≠0→st.next≠5→L.goals=st.body.length+(if st.next=1 then 0 else 1)
 heads:st.query=false→L.heads=st.clauses.length+(if st.next=0 then 0 else 1)
 hd:st.inBody=false→st.body=[]
 q0:st.query=true→st.next≠0
 h0:st.next=0→st.inBody=false
theorem Zxb (l:List Sym) (n:Nat) (s:Sym) (h:n<l.length):Zfn (l.modify n (fun s => { s with args:=s.args+1 })++[s]) n=Zfn l n+1:=by
 unfold Zfn
 rw [List.getElem?_append_left (by simpa using h),List.getElem?_modify,List.getElem?_eq_getElem h]
 simp
theorem Ztn (l:List Sym) (n m:Nat) (s:Sym) (h:m<l.length) (hm:m≠n):Zfn (l.modify n (fun s => { s with args:=s.args+1 })++[s]) m=Zfn l m:=by
 unfold Zfn
 rw [List.getElem?_append_left (by simpa using h),List.getElem?_modify]
 have:¬ n=m:=fun e=>hm e.symm
 cases l[m]? <;> simp [this]
theorem Zxc (l:List Sym) (s:Sym):Zfn (l++[s]) l.length=s.args:=by
 unfold Zfn; simp
theorem kmap1:kmap 1=1:=rfl
theorem kmap2:kmap 2=2:=rfl
theorem Zvg:kmap 40=3:=rfl
theorem kmap41:kmap 41=4:=rfl
theorem Zvh:kmap 44=5:=rfl
theorem Zvi:kmap 46=6:=rfl
theorem kmap3:kmap 3=7:=rfl
theorem Zib {k:Nat} (hk:Zho k):(kmap k=1↔k=1)∧(kmap k=2↔k=2):=by
 rcases hk with rfl | rfl | rfl | rfl | rfl | rfl | rfl | rfl <;> simp [kmap]
theorem sim_begin {st:RS} {L:LookS} (h:Sim st L) (k len:Nat) (t:List UInt8) (hk:Zho k) (hn:st.next=0∨st.next=1) :
  Zcc st (kmap k) len=(Zat L k len).err∧((Zat L k len).err=0→Sim (Zbs st (kmap k) t) (Zat L k len)):=by
 obtain ⟨ha,ho⟩:=h.flat (by omega)
 have hs:=h.stk
 rw [ho] at hs
 simp only [List.map_nil] at hs
 have hw:=h.want
 have he:=h.err
 have hlst:Zat L k len=Zau L k len:=by rw [Zat,if_pos (by omega)]
 rw [hlst]
 by_cases hk1:k=1
 ·subst hk1
  have hst:Zbr st 1=true:=by unfold Zbr; rw [if_pos (by omega)]; rfl
  have hbk:Zcv st=[]:=by simp [Zcv,ho,ha]
  rcases hn with hn | hn
  ·have hq:st.query=false:=by
    cases hq:st.query
    ·rfl
    ·exact absurd hn (h.q0 hq)
   have hh:=h.heads hq
   rw [if_pos hn] at hh
   have hfull:Zfh st=decide (24≤st.clauses.length):=by simp [Zfh,hn]
   have hl:Zau L 1 len = { L with heads:=L.heads+1,body:=false,size:=1,err:=if 8<len∨30<0+1 then 3 else if 24<L.heads+1 then 3 else L.err,want:=3 }:=by
    simp [Zau,Zhx,Zbp,hw,hn]
   rw [hl,kmap1]
   constructor
   ·simp only [Zcc,hst,hfull,he]
    rw [hh]
    by_cases h8:8<len
    ·simp [h8]
    ·by_cases hc:24≤st.clauses.length
     ·rw [if_neg (by simp),if_pos (by simp [hc]),if_neg (by omega),if_pos (by omega)]
     ·rw [if_neg (by simp),if_neg (by simp [h8,hc] <;> omega),if_neg (by omega),if_neg (by omega)]
   ·intro he2
    have hst2:Zbs st 1 t = { st with atom:=[⟨t,0,0⟩],next:=3 }:=by simp [Zbs,addS,hbk]
    rw [hst2]
    exact {
     want:=rfl
     query:=h.query
     err:=he2
     n5:=by simp
     stk:=by simp [ho,hs]
     opn:=by simp [ho]
     down:=by simp [ho]
     flat:=by simp
     size:=by simp
     open2:=by simp
     name:=by simp [ho,Zfn]
     inb:=by simp [h.h0 hn]
     inb1:=by simp
     goals:=by simp [h.h0 hn]
     heads:=by simp [hh]
     hd:=h.hd
     q0:=by simp
     h0:=by simp }
  ·have hib:=h.inb1 hn
   have hg:=h.goals hib (by omega) (by omega)
   rw [if_pos hn] at hg
   have hfull:Zfh st=decide (6≤st.body.length):=by simp [Zfh,hn]
   have hl:Zau L 1 len = { L with goals:=L.goals+1,size:=1,err:=if 8<len∨30<0+1 then 3 else if 6<L.goals+1 then 3 else L.err,want:=3 }:=by
    simp [Zau,Zhx,Zbp,hw,hn]
   rw [hl,kmap1]
   constructor
   ·simp only [Zcc,hst,hfull,he]
    rw [hg]
    by_cases h8:8<len
    ·simp [h8]
    ·by_cases hc:6≤st.body.length
     ·rw [if_neg (by simp),if_pos (by simp [hc]),if_neg (by omega),if_pos (by omega)]
     ·rw [if_neg (by simp),if_neg (by simp [h8,hc] <;> omega),if_neg (by omega),if_neg (by omega)]
   ·intro he2
    have hst2:Zbs st 1 t = { st with atom:=[⟨t,0,0⟩],next:=3 }:=by simp [Zbs,addS,hbk]
    have hh:=h.heads
    rw [if_neg (by omega)] at hh
    rw [hst2]
    exact {
     want:=rfl
     query:=h.query
     err:=he2
     n5:=by simp
     stk:=by simp [ho,hs]
     opn:=by simp [ho]
     down:=by simp [ho]
     flat:=by simp
     size:=by simp
     open2:=by simp
     name:=by simp [ho,Zfn]
     inb:=fun _ _=>h.inb (by omega) (by omega)
     inb1:=by simp
     goals:=by simp [hg]
     heads:=by simpa using hh
     hd:=h.hd
     q0:=by simp
     h0:=by simp }
 ·have hkm:¬ kmap k=1:=fun e=>hk1 ((Zib hk).1.1 e)
  have hst:Zbr st (kmap k)=false:=by unfold Zbr; rw [if_pos (by omega)]; simpa using hkm
  have hl:Zau L k len = { L with err:=2 }:=by
   unfold Zau
   rw [if_pos ⟨hk1,Or.inr (by omega)⟩]
  rw [hl]
  exact ⟨by simp [Zcc,hst],by simp⟩
theorem sim_arg {st:RS} {L:LookS} (h:Sim st L) (k len:Nat) (t:List UInt8) (hk:Zho k) (hn:st.next=2) :
  Zcc st (kmap k) len=(Zat L k len).err∧((Zat L k len).err=0→Sim (Zbs st (kmap k) t) (Zat L k len)):=by
 have hw:=h.want
 have he:=h.err
 have hlst:Zat L k len=Zau L k len:=by rw [Zat,if_pos (by omega)]
 rw [hlst]
 obtain ⟨n,r,ho⟩:∃ n r,st.opn=n::r:=by
  cases hc:st.opn with
  | nil=>exact absurd hc (h.open2 hn)
  | cons n r=>exact ⟨n,r,rfl⟩
 have hs:=h.stk
 rw [ho,List.map_cons] at hs
 have hnl:=h.opn n (by rw [ho]; simp)
 have hsz:=h.size (by omega)
 have hd:=h.down
 rw [ho,List.pairwise_cons] at hd
 by_cases hk12:k=1∨k=2
 ·have hst:Zbr st (kmap k)=true:=by
   unfold Zbr
   rw [if_neg (by omega),if_pos hn]
   rcases hk12 with rfl | rfl <;> rfl
  have hargs:Zkt st=Zfn st.atom n:=by
   unfold Zkt Zfn
   rw [ho]
   simp only
   cases st.atom[n]? <;> rfl
  have hfull:Zfh st=(decide (30≤st.atom.length) || decide (4≤Zfn st.atom n)):=by simp [Zfh,hn,hargs]
  have hl:Zau L k len = { L with stk:=(Zfn st.atom n+1)::r.map (Zfn st.atom),size:=L.size+1,err:=if 8<len∨30<L.size+1 then 3 else if 4<Zfn st.atom n+1 then 3 else L.err,want:=if k=1 then 3 else 4 }:=by
   unfold Zau
   rw [if_neg (by omega)]
   simp [Zhx,Zbp,hw,hn,hs]
  rw [hl]
  have hkm:kmap k=1∨kmap k=2:=by rcases hk12 with rfl | rfl <;> simp [kmap]
  have hbump:Zcv st=st.atom.modify n (fun s => { s with args:=s.args+1 }):=by simp [Zcv,ho]
  constructor
  ·simp only [Zcc,hst,hfull,he]
   rw [hsz]
   by_cases h8:8<len
   ·simp [h8,hkm]
   ·by_cases hc:30≤st.atom.length
    ·rw [if_neg (by simp),if_pos ⟨hkm,Or.inr (by simp [hc])⟩,if_pos (by omega)]
    ·by_cases hd4:4≤Zfn st.atom n
     ·rw [if_neg (by simp),if_pos ⟨hkm,Or.inr (by simp [hd4])⟩,if_neg (by omega),if_pos (by omega)]
     ·rw [if_neg (by simp),if_neg (by simp [h8,hc,hd4] <;> omega),if_neg (by omega),if_neg (by omega)]
  ·intro he2
   have hmap:∀ (s:Sym),st.opn.map (Zfn (Zcv st++[s]))=(Zfn st.atom n+1)::r.map (Zfn st.atom):=by
    intro s
    rw [ho,List.map_cons,hbump,Zxb _ _ _ hnl]
    congr 1
    apply List.map_congr_left
    intro m hm
    exact Ztn _ _ _ _ (h.opn m (by rw [ho]; simp [hm])) (by have:=hd.1 m hm; omega)
   have hbl:=Zlv st
   have hopn':∀ m ∈ st.opn,m<st.atom.length+1:=fun m hm=>Nat.lt_succ_of_lt (h.opn m hm)
   have hh:=h.heads
   rw [if_neg (by omega)] at hh
   have hg:=h.goals
   rcases hk12 with rfl | rfl
   ·have hst2:Zbs st (kmap 1) t = { st with atom:=Zcv st++[⟨t,0,0⟩],next:=3 }:=by simp [kmap1,Zbs,addS]
    rw [hst2]
    exact {
     want:=rfl
     query:=h.query
     err:=he2
     n5:=by simp
     stk:=(hmap _).symm
     opn:=by simpa [hbl] using hopn'
     down:=h.down
     flat:=by simp
     size:=by simp [hsz,hbl]
     open2:=by simp
     name:=by
      intro _
      refine ⟨by simp,?_,?_⟩
      ·have:=Zxc (Zcv st) ⟨t,0,0⟩
       simpa using this
      ·simpa [hbl] using h.opn
     inb:=fun _ _=>h.inb (by omega) (by omega)
     inb1:=by simp
     goals:=fun hi _ _=>by have:=hg hi (by omega) (by omega); rw [if_neg (by omega)] at this; simpa using this
     heads:=by simpa using hh
     hd:=h.hd
     q0:=by simp
     h0:=by simp }
   ·have hst2:Zbs st (kmap 2) t = { st with atom:=Zcv st++[⟨[],(Zbo st.vars t).2,0⟩],vars:=(Zbo st.vars t).1,next:=4 }:=by simp [kmap2,Zbs,addS,varS,Zcv,ho]
    rw [hst2]
    exact {
     want:=rfl
     query:=h.query
     err:=he2
     n5:=by simp
     stk:=(hmap _).symm
     opn:=by simpa [hbl] using hopn'
     down:=h.down
     flat:=by simp
     size:=by simp [hsz,hbl]
     open2:=by simp
     name:=by simp
     inb:=fun _ _=>h.inb (by omega) (by omega)
     inb1:=by simp
     goals:=fun hi _ _=>by have:=hg hi (by omega) (by omega); rw [if_neg (by omega)] at this; simpa using this
     heads:=by simpa using hh
     hd:=h.hd
     q0:=by simp
     h0:=by simp }
 ·have hkm:¬ kmap k=1∧¬ kmap k=2:=⟨fun e=>hk12 (Or.inl ((Zib hk).1.1 e)),fun e=>hk12 (Or.inr ((Zib hk).2.1 e))⟩
  have hst:Zbr st (kmap k)=false:=by unfold Zbr; rw [if_neg (by omega),if_pos hn]; simpa using hkm
  have hl:Zau L k len = { L with err:=2 }:=by
   unfold Zau
   rw [if_pos (by omega)]
  rw [hl]
  exact ⟨by simp [Zcc,hst],by simp⟩
theorem Zxd {st:RS} {L:LookS} (h:Sim st L) (k len:Nat) (t:List UInt8) (hk:Zho k) (hn:st.next=3∨st.next=4) :
  Zcc st (kmap k) len=(Zat L k len).err∧((Zat L k len).err=0→Sim (Zbs st (kmap k) t) (Zat L k len)):=by
 have hw:=h.want
 have he:=h.err
 have hlst:Zat L k len=Zak L k:=by rw [Zat,if_neg (by omega),if_neg (by omega)]
 rw [hlst]
 have hsz:=h.size (by omega)
 have hib:=h.inb (by omega) (by omega)
 have hs:=h.stk
 have hh:=h.heads
 rw [if_neg (by omega)] at hh
 have hq:=h.query
 have hse:L.stk=[]↔st.opn=[]:=by rw [hs]; simp
 have chk:∀ b,Zbr st (kmap k)=b→(kmap k≠1∧kmap k≠2)→Zcc st (kmap k) len=if b then 0 else 2:=by
  intro b hb hkm
  subst hb
  unfold Zcc
  cases Zbr st (kmap k) <;> simp [hkm]
 have stand:∀ kd,Zbr st kd=((kd == 3 && decide (st.next=3)) || Zcb st kd):=by
  intro kd
  unfold Zbr
  rw [if_neg (by omega),if_neg (by omega)]
  rcases hn with hn | hn <;> simp [hn]
 by_cases h12:k=1∨k=2∨k=5
 ·have hst:Zbr st (kmap k)=false:=by
   rw [stand]
   rcases h12 with rfl | rfl | rfl <;> (unfold Zcb; simp [kmap])
  have hl:Zak L k = { L with err:=2 }:=by
   rcases h12 with rfl | rfl | rfl <;> (unfold Zak; simp)
  rw [hl]
  exact ⟨by simp [Zcc,hst],by simp⟩
 ·have hkm:kmap k≠1∧kmap k≠2:=⟨fun e=>h12 (Or.inl ((Zib hk).1.1 e)),fun e=>h12 (Or.inr (Or.inl ((Zib hk).2.1 e)))⟩
  by_cases h40:k=40
  ·subst h40
   by_cases h3:st.next=3
   ·have hst:Zbr st (kmap 40)=true:=by rw [stand]; simp [Zvg,h3]
    have hl:Zak L 40 = { L with stk:=0::L.stk,want:=2 }:=by simp [Zak,hw,h3]
    rw [hl,chk true hst hkm]
    refine ⟨he.symm,fun _ => ?_⟩
    obtain ⟨n1,n2,n3⟩:=h.name h3
    have hst2:Zbs st (kmap 40) t = { st with opn:=(st.atom.length - 1)::st.opn,next:=2 }:=by simp [Zvg,Zbs]
    rw [hst2]
    exact {
     want:=rfl
     query:=hq
     err:=he
     n5:=by simp
     stk:=by simp [hs,n2]
     opn:=by
      intro m hm
      simp only [List.mem_cons] at hm
      rcases hm with rfl | hm
      ·show st.atom.length - 1<st.atom.length
       omega
      ·exact h.opn m hm
     down:=by
      rw [List.pairwise_cons]
      exact ⟨n3,h.down⟩
     flat:=by simp
     size:=fun _=>hsz
     open2:=by simp
     name:=by simp
     inb:=fun _ _=>hib
     inb1:=by simp
     goals:=fun hi _ _=>by have:=h.goals hi (by omega) (by omega); rw [if_neg (by omega)] at this; simpa using this
     heads:=by simpa using hh
     hd:=h.hd
     q0:=by simp
     h0:=by simp }
   ·have hst:Zbr st (kmap 40)=false:=by
     rw [stand]
     unfold Zcb
     simp [Zvg,h3]
    have hl:Zak L 40 = { L with err:=2 }:=by
     unfold Zak
     have:¬ L.want=3:=by omega
     simp [this]
    rw [hl]
    exact ⟨by simp [Zcc,hst],by simp⟩
  ·cases ho:st.opn with
   | nil =>
    have hsn:L.stk=[]:=hse.2 ho
    cases hb:st.inBody with
    | false =>
     have hfo:∀ kd,Zcb st kd=(kd == 7 || kd == 6):=by intro kd; simp [Zcb,ho,hb]
     have hLb:L.body=false:=hib.trans hb
     by_cases hk3:k=3
     ·subst hk3
      have hst:Zbr st (kmap 3)=true:=by rw [stand,hfo]; rfl
      have hl:Zak L 3 = { L with body:=true,goals:=0,want:=1 }:=by simp [Zak,hsn,hLb]
      rw [hl,chk true hst hkm]
      refine ⟨he.symm,fun _ => ?_⟩
      have hst2:Zbs st (kmap 3) t = { st with head:=st.atom,atom:=[],inBody:=true,next:=1 }:=by simp [kmap3,Zbs,Zav,hb]
      rw [hst2]
      exact {
       want:=rfl
       query:=hq
       err:=he
       n5:=by simp
       stk:=by simp [hsn,ho]
       opn:=by simp [ho]
       down:=by simp [ho]
       flat:=by simp [ho]
       size:=by simp
       open2:=by simp
       name:=by simp
       inb:=by simp
       inb1:=by simp
       goals:=by simp [h.hd hb]
       heads:=by simpa using hh
       hd:=by simp
       q0:=by simp
       h0:=by simp }
     ·by_cases hk46:k=46
      ·subst hk46
       have hst:Zbr st (kmap 46)=true:=by rw [stand,hfo]; rfl
       have hl:Zak L 46 = { L with want:=if L.query then 5 else 0 }:=by cases hq:L.query <;> simp [Zak,hsn,hLb,hq]
       rw [hl,chk true hst hkm]
       refine ⟨he.symm,fun _ => ?_⟩
       have hst2:Zbs st (kmap 46) t = { st with clauses:=st.clauses++[⟨st.atom,st.body,st.vars⟩],atom:=[],head:=[],body:=[],vars:=[],inBody:=false,next:=if st.query then 5 else 0 }:=by simp [Zvi,Zbs,Zav,Zaq,hb]
       rw [hst2]
       have hnx:(if st.query then 5 else 0:Nat)=0∨(if st.query then 5 else 0:Nat)=5:=by split <;> simp
       exact {
        want:=by rw [hq]
        query:=hq
        err:=he
        n5:=by simp only; omega
        stk:=by simp [hsn,ho]
        opn:=by simp [ho]
        down:=by simp [ho]
        flat:=by simp [ho]
        size:=by simp only; omega
        open2:=by simp only; omega
        name:=by simp only; omega
        inb:=by simp only; omega
        inb1:=by simp only; omega
        goals:=by simp
        heads:=by
         intro hqf
         have hqf:st.query=false:=hqf
         have:=hh hqf
         simp [hqf,this]
        hd:=by simp
        q0:=by intro hqt; have hqt:st.query=true:=hqt; simp [hqt]
        h0:=by simp }
      ·have hst:Zbr st (kmap k)=false:=by
        rw [stand,hfo]
        rcases hk with rfl | rfl | rfl | rfl | rfl | rfl | rfl | rfl <;> simp_all [kmap]
       have hl:Zak L k = { L with err:=2 }:=by
        unfold Zak
        simp [h40,hsn,hLb,hk3,hk46]
       rw [hl]
       exact ⟨by simp [Zcc,hst],by simp⟩
    | true =>
     have hfo:∀ kd,Zcb st kd=(kd == 5 || kd == 6):=by intro kd; simp [Zcb,ho,hb]
     have hLb:L.body=true:=hib.trans hb
     have hg:=h.goals hb (by omega) (by omega)
     rw [if_neg (by omega)] at hg
     by_cases hk44:k=44
     ·subst hk44
      have hst:Zbr st (kmap 44)=true:=by rw [stand,hfo]; rfl
      have hl:Zak L 44 = { L with want:=1 }:=by simp [Zak,hsn,hLb]
      rw [hl,chk true hst hkm]
      refine ⟨he.symm,fun _ => ?_⟩
      have hst2:Zbs st (kmap 44) t = { st with body:=st.body++[st.atom],atom:=[],next:=1 }:=by simp [Zvh,Zbs,Zgh,Zav,ho,hb]
      rw [hst2]
      exact {
       want:=rfl
       query:=hq
       err:=he
       n5:=by simp
       stk:=by simp [hsn,ho]
       opn:=by simp [ho]
       down:=by simp [ho]
       flat:=by simp [ho]
       size:=by simp
       open2:=by simp
       name:=by simp
       inb:=fun _ _=>hib
       inb1:=fun _=>hb
       goals:=by simp [hg]
       heads:=by simpa using hh
       hd:=by simp [hb]
       q0:=by simp
       h0:=by simp }
     ·by_cases hk46:k=46
      ·subst hk46
       have hst:Zbr st (kmap 46)=true:=by rw [stand,hfo]; rfl
       have hl:Zak L 46 = { L with want:=if L.query then 5 else 0 }:=by cases hq:L.query <;> simp [Zak,hsn,hLb,hq]
       rw [hl,chk true hst hkm]
       refine ⟨he.symm,fun _ => ?_⟩
       have hst2:Zbs st (kmap 46) t = { st with clauses:=st.clauses++[⟨st.head,st.body++[st.atom],st.vars⟩],atom:=[],head:=[],body:=[],vars:=[],inBody:=false,next:=if st.query then 5 else 0 }:=by simp [Zvi,Zbs,Zav,Zaq,hb]
       rw [hst2]
       have hnx:(if st.query then 5 else 0:Nat)=0∨(if st.query then 5 else 0:Nat)=5:=by split <;> simp
       exact {
        want:=by rw [hq]
        query:=hq
        err:=he
        n5:=by simp only; omega
        stk:=by simp [hsn,ho]
        opn:=by simp [ho]
        down:=by simp [ho]
        flat:=by simp [ho]
        size:=by simp only; omega
        open2:=by simp only; omega
        name:=by simp only; omega
        inb:=by simp only; omega
        inb1:=by simp only; omega
        goals:=by simp
        heads:=by
         intro hqf
         have hqf:st.query=false:=hqf
         have:=hh hqf
         simp [hqf,this]
        hd:=by simp
        q0:=by intro hqt; have hqt:st.query=true:=hqt; simp [hqt]
        h0:=by simp }
      ·have hst:Zbr st (kmap k)=false:=by
        rw [stand,hfo]
        rcases hk with rfl | rfl | rfl | rfl | rfl | rfl | rfl | rfl <;> simp_all [kmap]
       have hl:Zak L k = { L with err:=2 }:=by
        unfold Zak
        simp [h40,hsn,hLb,hk44,hk46]
       rw [hl]
       exact ⟨by simp [Zcc,hst],by simp⟩
   | cons n r =>
    have hsn:L.stk=Zfn st.atom n::r.map (Zfn st.atom):=by rw [hs,ho]; rfl
    have hfo:∀ kd,Zcb st kd=(kd == 5 || kd == 4):=by intro kd; simp [Zcb,ho]
    by_cases hk44:k=44
    ·subst hk44
     have hst:Zbr st (kmap 44)=true:=by rw [stand,hfo]; rfl
     have hl:Zak L 44 = { L with want:=2 }:=by simp [Zak,hsn]
     rw [hl,chk true hst hkm]
     refine ⟨he.symm,fun _ => ?_⟩
     have hst2:Zbs st (kmap 44) t = { st with next:=2 }:=by simp [Zvh,Zbs,Zgh,ho]
     rw [hst2]
     exact {
      want:=rfl
      query:=hq
      err:=he
      n5:=by simp
      stk:=hs
      opn:=h.opn
      down:=h.down
      flat:=by simp
      size:=fun _=>hsz
      open2:=by simp [ho]
      name:=by simp
      inb:=fun _ _=>hib
      inb1:=by simp
      goals:=fun hi _ _=>by have:=h.goals hi (by omega) (by omega); rw [if_neg (by omega)] at this; simpa using this
      heads:=by simpa using hh
      hd:=h.hd
      q0:=by simp
      h0:=by simp }
    ·by_cases hk41:k=41
     ·subst hk41
      have hst:Zbr st (kmap 41)=true:=by rw [stand,hfo]; rfl
      have hl:Zak L 41 = { L with stk:=r.map (Zfn st.atom),want:=4 }:=by simp [Zak,hsn]
      rw [hl,chk true hst hkm]
      refine ⟨he.symm,fun _ => ?_⟩
      have hst2:Zbs st (kmap 41) t = { st with opn:=r,next:=4 }:=by simp [kmap41,Zbs,Ziz,ho]
      rw [hst2]
      have hd:=h.down
      rw [ho,List.pairwise_cons] at hd
      exact {
       want:=rfl
       query:=hq
       err:=he
       n5:=by simp
       stk:=rfl
       opn:=fun m hm=>h.opn m (by rw [ho]; simp [hm])
       down:=hd.2
       flat:=by simp
       size:=fun _=>hsz
       open2:=by simp
       name:=by simp
       inb:=fun _ _=>hib
       inb1:=by simp
       goals:=fun hi _ _=>by have:=h.goals hi (by omega) (by omega); rw [if_neg (by omega)] at this; simpa using this
       heads:=by simpa using hh
       hd:=h.hd
       q0:=by simp
       h0:=by simp }
     ·have hst:Zbr st (kmap k)=false:=by
       rw [stand,hfo]
       rcases hk with rfl | rfl | rfl | rfl | rfl | rfl | rfl | rfl <;> simp_all [kmap]
      have hl:Zak L k = { L with err:=2 }:=by
       unfold Zak
       simp [h40,hsn,hk44,hk41]
      rw [hl]
      exact ⟨by simp [Zcc,hst],by simp⟩
theorem sim_step {st:RS} {L:LookS} (h:Sim st L) (k len:Nat) (t:List UInt8) (hk:Zho k) :
  Zcc st (kmap k) len=(Zat L k len).err∧((Zat L k len).err=0→Sim (Zbs st (kmap k) t) (Zat L k len)):=by
 have h5:=h.n5
 have hw:=h.want
 have hc:(st.next=0∨st.next=1)∨st.next=2∨(st.next=3∨st.next=4)∨st.next=5:=by omega
 rcases hc with hn | hn | hn | hn
 ·exact sim_begin h k len t hk hn
 ·exact sim_arg h k len t hk hn
 ·exact Zxd h k len t hk hn
 ·have hl:Zat L k len = { L with err:=2 }:=by rw [Zat,if_neg (by omega),if_pos (by omega)]
  have hst:Zbr st (kmap k)=false:=by unfold Zbr; simp [hn]
  rw [hl]
  exact ⟨by simp [Zcc,hst],by simp⟩
def takes:List Tok→RS→RS
 | [],st=>st
 | t::ts,st=>takes ts (Zbs st (kmap t.kind) t.text)
theorem Zlg (a b:List Tok) (st:RS):takes (a++b) st=takes b (takes a st):=by
 induction a generalizing st with
 | nil=>rfl
 | cons t a ih=>exact ih _
theorem sim_end {st:RS} {L:LookS} (h:Sim st L) (hn:st.next≠0∧st.next≠5):(Zat L 4 0).err=2:=by
 have h5:=h.n5
 have hw:=h.want
 unfold Zat
 by_cases h2:L.want≤2
 ·rw [if_pos h2]
  simp [Zau]
 ·rw [if_neg h2,if_neg (by omega)]
  unfold Zak
  simp
theorem run_lover (e:Nat):∀ (ts:List Tok) (st:RS) (L:LookS),Sim st L→(∀ t ∈ ts,Zho t.kind) →
  (runT e ts st).1=(Zdc (ts++[⟨4,[],e⟩]) L).1∧((runT e ts st).1≠0→(runT e ts st).2.1=(Zdc (ts++[⟨4,[],e⟩]) L).2)∧((runT e ts st).1=0→(runT e ts st).2.2=takes ts st):=by
 intro ts
 induction ts with
 | nil =>
  intro st L h _
  have hw:=h.want
  simp only [List.nil_append,Zdc,runT,takes]
  by_cases hn:st.next≠0∧st.next≠5
  ·have he:=sim_end h hn
   simp only [List.length_nil,he]
   rw [if_pos hn,if_neg (by omega)]
   simp
  ·rw [if_neg hn,if_pos (by refine ⟨trivial,?_⟩; omega)]
   simp
 | cons t ts ih =>
  intro st L h hk
  have hkt:=hk t (by simp)
  obtain ⟨h1,h2⟩:=sim_step h t.kind t.text.length t.text hkt
  have h4:¬ (t.kind=4∧(L.want=5∨L.want=0)):=by
   rintro ⟨h4,_⟩
   rcases hkt with h | h | h | h | h | h | h | h <;> omega
  simp only [List.cons_append,Zdc,runT,takes]
  rw [h1,if_neg h4]
  by_cases he:(Zat L t.kind t.text.length).err=0
  ·rw [if_neg (by simp [he]),if_neg (by simp [he])]
   exact ih _ _ (h2 he) (fun t' ht=>hk t' (by simp [ht]))
  ·rw [if_pos he,if_pos he]
   exact ⟨rfl,fun _=>rfl,fun h=>absurd h he⟩
theorem sim0 (q:Bool):Sim ⟨q,if q then 1 else 0,q,[],[],[],[],[],[]⟩ (Zbc q):=by
 cases q
 ·exact ⟨rfl,rfl,rfl,by simp,rfl,by simp,by simp,by simp,by simp,by simp,by simp,by simp,by simp,by simp,by simp [Zbc],by simp,by simp,by simp⟩
 ·exact ⟨rfl,rfl,rfl,by simp,rfl,by simp,by simp,by simp,by simp,by simp,by simp,by simp [Zbc],by simp,by simp [Zbc],by simp,by simp,by simp,by simp⟩
theorem lex_kinds:∀ (f:Nat) (l:List UInt8) (p:Nat),∀ t ∈ lexF f l p,Zho t.kind:=by
 intro f
 induction f with
 | zero=>intro l p t ht; simp [lexF] at ht
 | succ f ih =>
  intro l p t ht
  cases l with
  | nil=>simp [lexF] at ht
  | cons c r =>
   rw [lexF] at ht
   split at ht
   ·exact ih _ _ t ht
   ·simp only [List.mem_cons] at ht
    rcases ht with rfl | ht
    ·exact (Zmp c r).2
    ·exact ih _ _ t ht
theorem Zku (l:List UInt8) (p:Nat):∀ t ∈ toks l p,Zho t.kind:=lex_kinds _ l p
end Go.Proofs.YtlmjilpjmgjjcaaGreatDoor
