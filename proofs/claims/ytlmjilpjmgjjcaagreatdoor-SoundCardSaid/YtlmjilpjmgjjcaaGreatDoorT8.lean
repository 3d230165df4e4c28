/-
  PROVED HERE: what the program's 'withBody' lays (the conditions stand in the statement).
-/
import Derived.Test.YtlmjilpjmgjjcaaGreatDoorT7
set_option linter.unusedSimpArgs false
set_option linter.unusedVariables false
set_option maxRecDepth 10000
set_option maxHeartbeats 4000000
namespace Go.Proofs.YtlmjilpjmgjjcaaGreatDoor
open Go.RowKit
def sbOf (ts:List (List Sym)) (n:Nat):List Sym:=match ts[n]? with
 | some (x::xs)=>x::xs
 | _=>vr n
theorem Ymu {l:List Sym} {ρ:Nat→Nat} {D:Nat→Prop} {T:Nat→List Sym} {ts:List (List Sym)} (hs:SubOk l ρ T l.length ts) (hK:Known (grOf l) ρ D T) (hv:Vars (grOf l) ρ) (hD:∀ i,i<l.length→D (ρ i)):sbOf ts=Zeu (grOf l) ρ D T:=by
 funext n
 by_cases hex:∃ i,i<l.length∧(Zax l i).name=[]∧(Zax l i).num=n
 ·obtain ⟨i,hi,hn,rfl⟩:=hex
  have h1:Zeu (grOf l) ρ D T (Zax l i).num=T (ρ i):=Zqh (G:=grOf l) hv hi hn (hD i hi)
  rw [h1]
  have h2:=hs.has i hi hn
  have h3:=hK.tm _ (hD i hi)
  unfold sbOf
  rw [h2]
  rw [h3]
 ·have h1:Zeu (grOf l) ρ D T n=vr n:=by
   unfold Zeu
   rw [dif_neg]
   rintro ⟨i,h1,h2,h3,_⟩
   exact hex ⟨i,h1,h2,h3⟩
  rw [h1]
  unfold sbOf
  cases ht:ts[n]? with
  | none=>rfl
  | some t =>
   rcases hs.only n t ht with rfl | ⟨i,h1,h2,h3,_⟩
   ·rfl
   ·exact absurd ⟨i,h1,h2,h3⟩ hex
theorem Ymv {gs:List GC} (h:∀ c ∈ gs,c.size=0):sz gs (fun _=>0)=gs:=by
 apply List.ext_getElem?
 intro i
 cases hc:gs[i]? with
 | none=>rw [List.getElem?_eq_none (by rw [Zew]; exact List.getElem?_eq_none_iff.1 hc)]
 | some c =>
  rw [Ztz hc]
  have:=h c (Qh hc)
  cases c
  simp at this
  subst this
  rfl
theorem Yfr {l:List Sym} {gs':List GC} (h:gs'.map (·.size)=(Zgg l (Zea l) 0).map (·.size)):sz gs' (fun _=>0)=gs':=by
 refine Ymv (fun c hc => ?_)
 have h1:c.size ∈ (Zgg l (Zea l) 0).map (·.size):=by rw [← h]; exact List.mem_map.2 ⟨c,hc,rfl⟩
 rw [← Ymt l] at h1
 obtain ⟨d,hd,e⟩:=List.mem_map.1 h1
 obtain ⟨i,hi⟩:=List.mem_iff_getElem?.1 hd
 simp only [sz,List.getElem?_mapIdx,Option.map_eq_some_iff] at hi
 obtain ⟨d',_,rfl⟩:=hi
 exact e.symm
def Zwc (a b:List Sym) (w:World) (e:Ending) (w':World):Prop:=Ext w w'∧∃ x n c q,e = .returned (.tuple #[.agg #[.slice x n c],.int .i64 q]) ∧
 ((q=0∧NoFit a b)∨(q=2∧Vast a b)∨(q=1∧∃ ts vs,TermsAt w' 0 (.slice x n c) ts vs∧Mgu (sbOf ts) a b∧(ap (sbOf ts) a).length≤30∧ts.length≤200001∧∀ t ∈ ts,t.length≤30))
theorem Yfs {l:List Sym} {i:Nat} (hi:i<l.length) (hn:(Zax l i).name=[]):Occ (Zax l i).num l:=by
 refine ⟨Zax l i,?_,hn,rfl⟩
 unfold Zax
 rw [List.getD_eq_getElem?_getD,Qb hi]
 simp
theorem Zpt {a b:List Sym} {σ:Nat→List Sym} (h:Mgu σ a b) (hl:(ap σ a).length≤30) {n:Nat} (ho:Occ n (a++b)):(σ n).length≤30:=by
 rcases Zov.1 ho with ho | ho
 ·have:=Zkx h.ts ho
  have h1:0<a.length:=by obtain ⟨s,hs,_⟩:=ho; exact List.length_pos_of_mem hs
  omega
 ·have:=Zkx h.ts ho
  have h1:0<b.length:=by obtain ⟨s,hs,_⟩:=ho; exact List.length_pos_of_mem hs
  rw [← h.unif] at this
  omega
theorem Yft {a b:List Sym} (ha:Wf 1 a) (hb:Wf 1 b) {ρ':Nat→Nat} (hj:Joined (grOf (a++b)) (Zbg (a++b)) ρ' [0] [a.length]) {D:Nat→Prop} {T:Nat→List Sym} (hK:Known (grOf (a++b)) ρ' D T) (hd:D (ρ' 0)) :
  Mgu (Zeu (grOf (a++b)) ρ' D T) a b∧ap (Zeu (grOf (a++b)) ρ' D T) a=T (ρ' 0)∧Vars (grOf (a++b)) ρ'∧∀ i,i<(a++b).length→D (ρ' i):=by
 have hl:=Yff ha hb
 have hw:Wf 2 (a++b):=Zfy ha hb
 have h0:=Zkn (a++b) hw
 have hap:=Zen ha
 have hbp:=Zen hb
 have hx:(0:Nat)<(grOf (a++b)).n:=by show 0<(a++b).length; simp; omega
 have hy:a.length<(grOf (a++b)).n:=by show a.length<(a++b).length; simp; omega
 obtain ⟨h1,h2⟩:=Yhm hl h0 hx hy (Zlg ha) (Zjr hb) hj hK hd
 have he:ρ' 0=ρ' a.length:=by simpa using hj.eq
 refine ⟨h1,h2,h0.vars' hj.grow,Yfq ha hb (fun i hi=>hj.cg i hi (h0.cg i hi)) hK hd (he ▸ hd)⟩
def rn (v:Nat) (s:Sym):Sym:=if s.name=[] then ⟨[],s.num+v,s.args⟩ else s
theorem Zmh {v k:Nat} {l:List Sym} (hw:Wf k l):ap (Zcj v) l=l.map (rn v):=by
 have h:∀ s ∈ l,ap1 (Zcj v) s=[rn v s]:=fun s hs=>by
  obtain ⟨i,hi⟩:=List.mem_iff_getElem?.1 hs
  have h1:=(Zjq hw hi).1
  unfold ap1 rn
  by_cases hn:s.name=[]
  ·rw [if_pos hn,if_pos hn,h1 hn]; rfl
  ·rw [if_neg hn,if_neg hn]
 clear hw
 induction l with
 | nil=>rfl
 | cons s l ih =>
  rw [Zbb,h s (by simp),ih (fun t ht=>h t (by simp [ht]))]
  rfl
abbrev WordAt (w:World) (v:Value) (l:List Sym):Prop:=w.ownsRow 0 133 3 v l.length (Zaj l)
theorem WordAt.ext {w w':World} {v:Value} {l:List Sym} (h:WordAt w v l) (e:Ext w w'):WordAt w' v l:=Zai h (fun j hj=>e.block j (h.lt j hj).2)
def TermsIn (w:World) (v:Value) (ls:List (List Sym)):Prop:=∃ vs,TermsAt w 0 v ls vs
theorem TermsIn.ext {w w':World} {v:Value} {ls:List (List Sym)} (h:TermsIn w v ls) (e:Ext w w'):TermsIn w' v ls:=by
 obtain ⟨vs,h⟩:=h
 exact ⟨vs,h.ext e⟩
theorem TermsAt.inn {w:World} {B:Nat} {v:Value} {ls:List (List Sym)} {vs:List Value} (h:TermsAt w B v ls vs):TermsIn w v ls:=⟨vs,Zbe h.owns (Qm _),h.all⟩
def TermsNew (F:Nat) (w:World) (v:Value) (ls:List (List Sym)):Prop:=∃ vs,TermsAt w 0 v ls vs∧(∀ j,v.ownBlock=some j→F≤j)∧∀ x ∈ vs,∀ j,x.ownBlock=some j→F≤j
theorem TermsNew.inn {F:Nat} {w:World} {v:Value} {ls:List (List Sym)} (h:TermsNew F w v ls):TermsIn w v ls:=by
 obtain ⟨vs,h,_⟩:=h
 exact ⟨vs,h⟩
theorem TermsNew.ext {F:Nat} {w w':World} {v:Value} {ls:List (List Sym)} (h:TermsNew F w v ls) (e:Ext w w'):TermsNew F w' v ls:=by
 obtain ⟨vs,h,h1⟩:=h
 exact ⟨vs,h.ext e,h1⟩
theorem TermsNew.mono {F F':Nat} {w:World} {v:Value} {ls:List (List Sym)} (h:TermsNew F w v ls) (hF:F'≤F):TermsNew F' w v ls:=by
 obtain ⟨vs,h,h1,h2⟩:=h
 exact ⟨vs,h,fun j hj=>Qq hF (h1 j hj),fun x hx j hj=>Qq hF (h2 x hx j hj)⟩
theorem TermsNew.box {F:Nat} {w w':World} {M:Nat} {cs:Array Value} {t:TypeId} {fr:Nat × Nat} {v:Value} {ls:List (List Sym)} (h:TermsNew F w v ls) (hM:w.heap[M]?=some (.cells cs t fr)) (h1:105≠t) (h2:133≠t) (hk:Kept (fun k=>k=M) w w'):TermsNew F w' v ls:=by
 obtain ⟨vs,h,h3⟩:=h
 exact ⟨vs,h.box hM h1 h2 hk,h3⟩
structure ClsIn (w:World) (hv bv vv:Value) (c:Cls):Prop where
 head:WordAt w hv c.head
 body:TermsIn w bv c.body
 names:w.ownsRow 0 9 1 vv c.names.length (strs c.names)
theorem ClsIn.ext {w w':World} {hv bv vv:Value} {c:Cls} (h:ClsIn w hv bv vv c) (e:Ext w w'):ClsIn w' hv bv vv c :=
 ⟨h.head.ext e,h.body.ext e,Zai h.names (fun j hj=>e.block j (h.names.lt j hj).2)⟩
theorem BodyRow.terms {w:World} {B Sa:Nat} {v:Value} {ls:List (List Sym)} {vs:List Value} (h:BodyRow w B Sa v ls vs):TermsIn w v ls :=
 ⟨vs,Zbe h.1 (Qm _),fun i l hl=>by
  obtain ⟨x,h1,h2⟩:=h.2 i l hl
  exact ⟨x,h1,Zbe h2.1 (Qm _)⟩⟩
structure ProgIn (w:World) (v:Value) (cs:List Cls) (xs:List (List Value)):Prop where
 owns:w.ownsRow 0 107 3 v cs.length xs.flatten
 len:xs.length=cs.length
 three:∀ x ∈ xs,x.length=3
 all:∀ (i:Nat) (c:Cls),cs[i]?=some c→∃ hv bv vv,xs[i]?=some [hv,bv,vv]∧ClsIn w hv bv vv c
theorem ProgIn.ext {w w':World} {v:Value} {cs:List Cls} {xs:List (List Value)} (h:ProgIn w v cs xs) (e:Ext w w'):ProgIn w' v cs xs :=
 ⟨Zai h.owns (fun j hj=>e.block j (h.owns.lt j hj).2),h.len,h.three,fun i c hc=>by
  obtain ⟨hv,bv,vv,h1,h2⟩:=h.all i c hc
  exact ⟨hv,bv,vv,h1,h2.ext e⟩⟩
theorem CCRow.prog {w:World} {B Sa Sb:Nat} {v:Value} {cs:List Cls} {xs:List (List Value)} (h:CCRow w B Sa Sb v cs xs):ProgIn w v cs xs :=
 ⟨Zbe h.1 (Qm _),h.2.1,h.2.2.1,fun i c hc=>by
  obtain ⟨hv,bv,vv,us,h1,h2,h3,h4,h5,h6⟩:=h.2.2.2 i c hc
  exact ⟨hv,bv,vv,h1,Zbe h2.1 (Qm _),h3.terms,Zbe h5 (Qm _)⟩⟩
structure NodeIn (w:World) (gv vv rv:Value) (n:ND):Prop where
 goals:TermsIn w gv (n.goals.map (·.1))
 vals:TermsIn w vv n.vals
 done:TermsIn w rv (n.done.map (·.1))
structure NodeNew (F:Nat) (w:World) (gv vv rv:Value) (n:ND):Prop where
 goals:TermsNew F w gv (n.goals.map (·.1))
 vals:TermsNew F w vv n.vals
 done:TermsNew F w rv (n.done.map (·.1))
theorem NodeIn.ext {w w':World} {gv vv rv:Value} {n:ND} (h:NodeIn w gv vv rv n) (e:Ext w w'):NodeIn w' gv vv rv n:=⟨h.goals.ext e,h.vals.ext e,h.done.ext e⟩
theorem CellsOf.sz {gs:List GC} {l:List Sym} (h:CellsOf gs l) (f:Nat→Int):CellsOf (YtlmjilpjmgjjcaaGreatDoor.sz gs f) l :=
 ⟨by rw [Zew]; exact h.len,fun i c hc=>by
  simp only [YtlmjilpjmgjjcaaGreatDoor.sz,List.getElem?_mapIdx,Option.map_eq_some_iff] at hc
  obtain ⟨d,hd,rfl⟩:=hc
  exact h.all i d hd⟩
theorem Ybg (w:World) (v1 v2:Value) (a b:List Sym) (h1:WordAt w v1 a) (h2:WordAt w v2 b) (ha:Wf 1 a) (hb:Wf 1 b) (hal:a.length≤1000) (hbl:b.length≤1000) (hn:∀ s ∈ a++b,s.num≤200000) :
  Calls Tryz.prog 127 #[v1,v2] w (Zwc a b w):=by
 have hapos:=Zen ha
 have hbpos:=Zen hb
 obtain ⟨g1,cap1,cur1,rfl,_,hg1,hc1⟩:=Zao h1 (by omega)
 obtain ⟨g2,cap2,cur2,rfl,_,hg2,hc2⟩:=Zao h2 (by omega)
 have z1:((a.length:Int) == 0)=false:=by rw [Qu]; omega
 have z2:((b.length:Int) == 0)=false:=by rw [Qu]; omega
 obtain ⟨l,hl⟩:∃ l,l=a++b:=⟨_,rfl⟩
 have hw:Wf 2 l:=by rw [hl]; exact Zfy ha hb
 have hll:l.length=a.length+b.length:=by rw [hl]; simp
 have hE0:Ext w (w.alloc (.cells #[.slice none 0 0] 216)):=(Ext.of (by repeat' (first | with_reducible(first|exact Qx _ _|apply Kept.drew|apply Kept.drewN|apply Qz|refine Qy ?_ ?_ _)|exact fun h=>absurd h (by simp <;> omega))))
 have HL:=Zac (Ybd (w.alloc (.cells #[.slice none 0 0] 216)) _ _ a b (WordAt.ext h1 hE0) (WordAt.ext h2 hE0) ha hb hal hbl)
 have Hw:=Zac hw
 have Ha:=Zac ha
 have Hb:=Zac hb
 have Hl:=Zac hl
 have Hn:Hid (∀ i,(Zax l i).num≤200000):=fun i=>by
  rw [hl]
  by_cases hi:i<(a++b).length
  ·have:Zax (a++b) i ∈ a++b:=by
    unfold Zax
    rw [List.getD_eq_getElem?_getD,Qb hi]
    simp
   exact hn _ this
  ·unfold Zax
   rw [List.getD_eq_getElem?_getD,List.getElem?_eq_none (by omega)]
   simp
 rw [← hl] at HL
 clear h1 h2 hw ha hb hl hn hg1 hg2 hc1 hc2
 go_enter Tryz.func127,Tryz.ntmps127
 go_wp2_with fail
 refine HL.out.mono ?_
 rintro e w1 ⟨v,rfl,hrow,hext,hown⟩
 have hc:=Ybf l
 have hup:=Yms Hw.out
 have hgl:(Zgg l (Zea l) 0).length=l.length:=hc.len
 have hsz1:=hext.size
 have hsz1:w.heap.size+1≤w1.heap.size:=by simpa using hsz1
 obtain ⟨gs,hgs⟩:∃ gs,gs=Zgg l (Zea l) 0:=⟨_,rfl⟩
 have hzs:∀ gs',gs'.map (·.size)=gs.map (·.size)→sz gs' (fun _=>0)=gs':=fun gs' h=>Yfr (by rw [h,hgs])
 rw [← hgs] at hc hup hgl hrow
 clear hgs
 have hG:GAt (w1.alloc (.cells #[v] 266)) w1.heap.size v gs:=⟨heap_alloc_new w1 _,by rw [hgl]; exact Zai hrow (fun j hj=>Below.heap_alloc _ _ _ (hrow.lt j hj).2)⟩
 obtain ⟨va,vcap,rfl⟩:=Zae hrow
 have hblk1:w1.heap[w.heap.size]?=some (.cells #[.slice none 0 0] 216 (0,0)):=(hext.block _ (by simp)).trans (heap_alloc_new w _)
 have hE1:Ext w (w1.alloc (.cells #[.slice va l.length vcap] 266)):=(hE0.trans (hext.mono (by simp))).alloc (by omega) _
 have HJ:=Zac (Yje _ (w1.alloc (.cells #[.slice va l.length vcap] 266)) w1.heap.size _ gs l _ _ 0 a.length hG hc Hw.out hup (Qe _) (by omega) (by omega) (by omega))
 have Hgl:=Zac hgl
 have Hll:=Zac hll
 have hl2:l.length≤2000:=by omega
 have Hc:=Zac hc
 have Hup:=Zac hup
 have Hzs:=Zac hzs
 have Hown:=Zac hown
 have Hblk1:=Zac hblk1
 have HE1:=Zac hE1
 clear hc hup hG hzs hown hblk1 hE1 hext hrow hgl hll hE0 HL z1 z2
 go_wp2_with fail
 refine HJ.out.mono ?_
 rintro e w2 ⟨gs',hJ,ρ',rk',hup',hout⟩
 have hgl:=Hgl.out
 have hll:=Hll.out
 have hsz2:=hJ.kept.size
 have hsz2:w1.heap.size+1≤w2.heap.size:=by simpa using hsz2
 have hlen':=hJ.len
 have hbel2:Below (w.heap.size+1) (w1.alloc (.cells #[.slice va l.length vcap] 266)) w2:=hJ.kept.below (by simp; omega) (fun j hj=>by have:=Hown.out j hj; simpa using this)
 have hE2:Ext w w2:=HE1.out.trans (hbel2.mono (by omega))
 have hblk2:w2.heap[w.heap.size]?=some (.cells #[.slice none 0 0] 216 (0,0)):=(hbel2.block _ (by omega)).trans ((Below.heap_alloc _ _ _ (by omega)).trans Hblk1.out)
 have hr0:=Zaa hblk2 0 _ rfl
 have hrf:=fun i=>Zad hblk2 i
 have hrl:=Zab hblk2
 have hlay:Lay (grOf l) (tmAt l) a b:=by rw [Hl.out]; exact Yff Ha.out Hb.out
 have hx:(0:Nat)<(grOf l).n:=by show 0<l.length; omega
 have hy:a.length<(grOf l).n:=by show a.length<l.length; omega
 have ht0:tmAt l 0=a:=by rw [Hl.out]; exact Zlg Ha.out
 have ht1:tmAt l a.length=b:=by rw [Hl.out]; exact Zjr Hb.out
 have HE2:=Zac hE2
 have Hblk2:=Zac hblk2
 clear hbel2 hE2 hblk2
 rcases hout with ⟨rfl,hj⟩ | ⟨rfl,hcl⟩
 ·have hG2:GAt w2 w1.heap.size (.slice va l.length vcap) (sz gs' (fun _=>0)):=by rw [Hzs.out gs' hJ.sizes]; exact hJ.at'
  have HM:=Zac (Yjg _ w2 w1.heap.size (.slice va l.length vcap) gs' l ρ' rk' (fun _=>0) (fun _=>[]) 0 hG2 hJ.cells Hw.out hup' (fun j _=>Or.inl rfl) (Qe _) (by omega) (by omega) ⟨fun r h=>absurd h.2 (Int.lt_irrefl _),fun r h=>absurd h.2 (Int.lt_irrefl _),fun r h=>absurd h.2 (Int.lt_irrefl _)⟩)
  have Hj:=Zac hj
  have Hup':=Zac hup'
  have HJc:=Zac hJ.cells
  have Hlay:=Zac hlay
  have hgl':gs'.length=(a++b).length:=by rw [hlen',hgl,Hl.out]
  have Hgl':=Zac hgl'
  clear hj hup' hJ hlay hG2 hgl' hlen' hgl hll ht0 ht1 HJ
  go_wp2_with fail
  refine HM.out.mono ?_
  rintro e w3 ⟨f',hG3,hk3,hout⟩
  have hsz3:=hk3.size
  have hbel3:Below (w.heap.size+1) w2 w3:=hk3.below (by omega) (fun j hj=>by have:=Hown.out j hj; simpa using this)
  have hE3:Ext w w3:=HE2.out.trans (hbel3.mono (by omega))
  have hblk3:w3.heap[w.heap.size]?=some (.cells #[.slice none 0 0] 216 (0,0)):=(hbel3.block _ (by omega)).trans Hblk2.out
  have hr0:=Zaa hblk3 0 _ rfl
  have hrf:=fun i=>Zad hblk3 i
  have hrl:=Zab hblk3
  have HE3:=Zac hE3
  have Hblk3:=Zac hblk3
  have HG3:=Zac hG3
  clear hbel3 hE3 hblk3 hk3 hG3
  have ht0:tmAt l 0=a:=by rw [Hl.out]; exact Zlg Ha.out
  have ht1:tmAt l a.length=b:=by rw [Hl.out]; exact Zjr Hb.out
  rcases hout with ⟨T,rfl,hso,_,hK,hD,_,_⟩ | ⟨rfl,hst⟩
  ·have hj:=Hj.out
   clear ht0 ht1
   have hl:=Hl.out
   subst hl
   have hgl':=Hgl'.out
   obtain ⟨hmg,hap,hvs,hall⟩:=Yft Ha.out Hb.out hj hK hD
   have hap':(ap (Zeu (grOf (a++b)) ρ' (dnF gs'.length f') T) a).length=(T (ρ' 0)).length:=by rw [hap]
   obtain ⟨L,hL⟩:∃ L,L=(T (ρ' 0)).length:=⟨_,rfl⟩
   rw [← hL] at hap' ⊢
   by_cases hbig:30<L
   ·have hva:Vast a b:=hmg.small (by omega)
    have Hva:=Zac hva
    have m1:min 31 L=31:=by omega
    rw [m1]
    clear hva hmg hap hvs hall hK hD hso hj hL hap' Hj hgl' HM
    go_wp2
    refine bodyPost_ret (v := .tuple #[.agg #[.slice none 0 0],.int .i64 2]) (by simp [results,Tryz.results127,go_sem,hr0,hrf,hrl]) rfl ?_
    exact ⟨HE3.out.setCell (p:=⟨w.heap.size,0,none⟩) (Qe _) _,none,0,0,2,rfl,Or.inr (Or.inl ⟨rfl,Hva.out⟩)⟩
   ·have hsmall:∀ i,i<(sz gs' f').length→(Zax (a++b) i).name=[]→(T (ρ' i)).length≤4000:=fun i hi hn=>by
     have hi:i<(a++b).length:=by rw [Zew] at hi; omega
     have h1:=Zpt hmg (by omega) (Yfs hi hn)
     rw [show Zeu (grOf (a++b)) ρ' (dnF gs'.length f') T (Zax (a++b) i).num=T (ρ' i) from Zqh (G:=grOf (a++b)) hvs hi hn (hall i hi)] at h1
     omega
    have HS:=Zac (Zma w3 w1.heap.size (.slice va (a++b).length vcap) (sz gs' f') (a++b) ρ' rk' (dnF gs'.length f') T HG3.out (HJc.out.sz f') Hw.out (by rw [Yoh]; exact Hup'.out) hK (fun i hi=>hall i (by rw [Zew] at hi; omega)) hvs (by rw [Zew]; omega) hsmall Hn.out)
    have Hmg:=Zac hmg
    have HK:=Zac hK
    have Hvs:=Zac hvs
    have Hall:=Zac hall
    have Hap':=Zac hap'
    have m1:min 31 L=L:=by omega
    have m2:¬ ((L:Int) = -1):=by omega
    have m3:¬ ((30:Int)<L):=by omega
    have m4:((L:Int) == -1)=false:=by rw [Qu]; omega
    rw [m1]
    clear hmg hap hvs hall hK hD hso hj hL hap' Hj hsmall hgl' HM
    go_wp2_with fail
    refine HS.out.mono ?_
    rintro e w4 ⟨tv,ts,vs,rfl,hts,hok,hE4,htl⟩
    obtain ⟨ta,tcap,rfl⟩:=Zae hts.owns
    have hblk4:=(hE4.block _ hrl).trans Hblk3.out
    have hr0:=Zaa hblk4 0 _ rfl
    have hrf:=fun i=>Zad hblk4 i
    have hrl4:=Zab hblk4
    have hsb:=Ymu hok HK.out Hvs.out Hall.out
    have hK4:Kept (fun j=>j=w.heap.size) w4 (w4.setCell ⟨w.heap.size,0,none⟩ (.slice ta ts.length tcap)):=(Qx (only w.heap.size) w4).put 0 _
    have hTI:=(hts.box hblk4 (by decide) (by decide) hK4).inn
    have hout:Zwc a b w (.returned (.tuple #[.agg #[.slice ta ts.length tcap],.int .i64 1])) (w4.setCell ⟨w.heap.size,0,none⟩ (.slice ta ts.length tcap)):=by
     obtain ⟨vs',hTI⟩:=hTI
     refine ⟨(HE3.out.trans (hE4.mono HE3.out.size)).setCell (p:=⟨w.heap.size,0,none⟩) (Qe _) _,ta,ts.length,tcap,1,rfl,Or.inr (Or.inr ⟨rfl,ts,vs',hTI,by rw [hsb]; exact Hmg.out,by rw [hsb,Hap'.out]; omega,htl,fun t ht => ?_⟩)⟩
     obtain ⟨n,hn⟩:=List.mem_iff_getElem?.1 ht
     rcases hok.only n t hn with rfl | ⟨i,hi,hni,_,rfl⟩
     ·simp
     ·have h1:=Zpt Hmg.out (by rw [Hap'.out]; omega) (Yfs hi hni)
      rw [show Zeu (grOf (a++b)) ρ' (dnF gs'.length f') T (Zax (a++b) i).num=T (ρ' i) from Zqh (G:=grOf (a++b)) Hvs.out hi hni (Hall.out i hi)] at h1
      exact h1
    have Hout:=Zac hout
    clear hout hTI hK4 hsb hok hts hE4 hblk4
    go_wp2
    refine bodyPost_ret (v := .tuple #[.agg #[.slice ta ts.length tcap],.int .i64 1]) (by simp [results,Tryz.results127,go_sem,hr0,hrf,hrl4]) rfl ?_
    exact Hout.out
  ·have hno:NoFit a b:=Yhl Hlay.out (Zkn l Hw.out) hx hy ht0 ht1 Hj.out (i:=0) (fun val hv hc=>by
    obtain ⟨r,hr,_⟩:=hst val hv hc
    simp at hr)
   have Hno:=Zac hno
   clear hno hst ht0 ht1 HM
   go_wp2
   refine bodyPost_ret (v := .tuple #[.agg #[.slice none 0 0],.int .i64 0]) (by simp [results,Tryz.results127,go_sem,hr0,hrf,hrl]) rfl ?_
   exact ⟨HE3.out.setCell (p:=⟨w.heap.size,0,none⟩) (Qe _) _,none,0,0,0,rfl,Or.inl ⟨rfl,Hno.out⟩⟩
 ·have hno:=Yhk hlay (Zkn l Hw.out) hx hy ht0 ht1 hcl
  have Hno:=Zac hno
  clear hno hcl hJ hup' hlay ht0 ht1 hlen' hgl hll HJ
  go_wp2
  refine bodyPost_ret (v := .tuple #[.agg #[.slice none 0 0],.int .i64 0]) (by simp [results,Tryz.results127,go_sem,hr0,hrf,hrl]) rfl ?_
  exact ⟨HE2.out.setCell (p:=⟨w.heap.size,0,none⟩) (Qe _) _,none,0,0,0,rfl,Or.inl ⟨rfl,Hno.out⟩⟩
theorem Zim (w:World) (v:Value) (a:List Sym) (m:Nat) (h:WordAt w v a) (hl:a.length≤1000) (hn:∀ s ∈ a,s.num≤200000) (hm:m≤200000) :
  Calls Tryz.prog 74 #[v,.int .i64 m] w (Zjs (a.map (rn m)) w):=by
 obtain ⟨va,vcap,rfl⟩:=Zae h
 have H:=Zac h
 have Hn:=Zac hn
 clear h hn
 go_enter Tryz.func74,Tryz.ntmps74
 go_wp2
 go_loopg [5,10] (a.length+1) (fun gk tv iv wr=>∃ (k:Nat),iv = .int .i64 k∧k≤a.length∧a.length - k<gk∧Ext w wr∧wr.ownsRow w.heap.size 133 3 tv k (Zaj ((a.take k).map (rn m))))
 case atStart=>exact ⟨0,by go_num,Qm _,by omega,Below.refl _ _,World.ownsRow_nil _ _ _ _⟩
 case round =>
  obtain ⟨k,rfl,hk,hgk,hext,hown⟩:=hrel
  obtain ⟨ta,tcap,rfl⟩:=Zae hown
  have hsr:=hext.size
  have Hext:=Zac hext
  have Hown:=Zac hown
  clear hext hown
  by_cases hlt:k<a.length
  ·obtain ⟨s,hs⟩:∃ s,a[k]?=some s:=⟨_,Qb hlt⟩
   obtain ⟨g,cap',cur,he,_,hgb,_⟩:=Zao H.out (by omega)
   simp only [Value.slice.injEq] at he
   obtain ⟨rfl,_,rfl⟩:=he
   have ho:=Zai H.out (fun j hj=>Hext.out.block j (H.out.lt j hj).2)
   have hgw:=Zab hgb
   have hgr:g<wr.heap.size:=by omega
   have e0:wr.cell? ⟨g,k * 3,none⟩=some (.string ⟨s.name.toArray⟩):=Zag ho _ _ (by have:=Zba a k s hs 0 (by omega); rw [Nat.add_zero] at this; rw [this]; rfl)
   have e1:wr.cell? ⟨g,k * 3+1,none⟩=some (.int .i64 s.num):=Zag ho _ _ (by rw [Zba a k s hs 1 (by omega)]; rfl)
   have e2:wr.cell? ⟨g,k * 3+2,none⟩=some (.int .i64 s.args):=Zag ho _ _ (by rw [Zba a k s hs 2 (by omega)]; rfl)
   have hnx:a.take (k+1)=a.take k++[s]:=by rw [List.take_add_one,hs]; rfl
   have hsn:=Hn.out s (Qh hs)
   have Hnx:=Zac hnx
   clear hs ho hnx hgb
   cases hnm:s.name with
   | nil =>
    rw [hnm] at e0
    have hrs:rn m s=⟨[],s.num+m,s.args⟩:=by unfold rn; rw [if_pos hnm]
    have Hrs:=Zac hrs
    clear hnm hrs
    have hE:Ext wr (wr.alloc (.cells #[.string ⟨#[]⟩,.int .i64 ((s.num:Int)+m),.int .i64 s.args] 133)):=(Ext.of (by repeat' (first | with_reducible(first|exact Qx _ _|apply Kept.drew|apply Kept.drewN|apply Qz|refine Qy ?_ ?_ _)|exact fun h=>absurd h (by simp <;> omega))))
    have Hown1:Hid ((wr.alloc (.cells #[.string ⟨#[]⟩,.int .i64 ((s.num:Int)+m),.int .i64 s.args] 133)).ownsRow w.heap.size 133 3 (.slice ta k tcap) k (Zaj ((a.take k).map (rn m)))):=Zai Hown.out (fun j hj=>hE.block j (Hown.out.lt j hj).2)
    have HE:=Zac hE
    clear hE
    go_wp2_with (at_builtin; go_loud (refine Zal (wr.alloc (.cells #[.string ⟨#[]⟩,.int .i64 ((s.num:Int)+m),.int .i64 s.args] 133)) rfl (.tmp 22) (.tmp 24) 105 rfl w.heap.size 133 Tryz.infoSym Tryz.underlying105 rfl (by decide) (.slice ta k tcap) k (Zaj ((a.take k).map (rn m))) rfl Hown1.out #[.string ⟨#[]⟩,.int .i64 ((s.num:Int)+m),.int .i64 s.args] (N:=wr.heap.size+1) rfl (by simp) rfl (Zho _ _ _) ?_ ?_ ?_))
    ·omega
    ·simp; omega
    intro v1 w1 hap
    obtain ⟨a1,c1,rfl⟩:=Zae hap.owns
    have Hap:=Zac hap
    clear hap
    go_wp2
    go_roundg (a.length - k)
    case measure=>omega
    case rel =>
     refine ⟨k+1,by go_num,by omega,by omega,?_,?_⟩
     ·exact Hext.out.trans ((HE.out.mono hsr).trans (Hap.out.kept.below (by simp; omega) (fun j hj=>(Hown1.out.lt j hj).1)))
     ·have:=Hap.out.owns
      rw [Hnx.out,Qr,Zdh]
      simpa [Zaj,Zbw,Hrs.out] using this
   | cons x xs =>
    have hrs:rn m s=s:=by unfold rn; rw [if_neg (by rw [hnm]; simp)]
    have hE:Ext wr (wr.alloc (.cells #[.string ⟨(x::xs).toArray⟩,.int .i64 s.num,.int .i64 s.args] 133)):=(Ext.of (by repeat' (first | with_reducible(first|exact Qx _ _|apply Kept.drew|apply Kept.drewN|apply Qz|refine Qy ?_ ?_ _)|exact fun h=>absurd h (by simp <;> omega))))
    have Hown1:Hid ((wr.alloc (.cells #[.string ⟨(x::xs).toArray⟩,.int .i64 s.num,.int .i64 s.args] 133)).ownsRow w.heap.size 133 3 (.slice ta k tcap) k (Zaj ((a.take k).map (rn m)))):=Zai Hown.out (fun j hj=>hE.block j (Hown.out.lt j hj).2)
    have HE:=Zac hE
    have hrs':rn m s=⟨x::xs,s.num,s.args⟩:=by rw [hrs,← hnm]
    have Hrs:=Zac hrs'
    rw [hnm] at e0
    clear hnm hrs hE hrs'
    go_wp2_with (at_builtin; go_loud (refine Zal (wr.alloc (.cells #[.string ⟨(x::xs).toArray⟩,.int .i64 s.num,.int .i64 s.args] 133)) rfl (.tmp 22) (.tmp 24) 105 rfl w.heap.size 133 Tryz.infoSym Tryz.underlying105 rfl (by decide) (.slice ta k tcap) k (Zaj ((a.take k).map (rn m))) rfl Hown1.out #[.string ⟨(x::xs).toArray⟩,.int .i64 s.num,.int .i64 s.args] (N:=wr.heap.size+1) rfl (by simp) rfl (Zho _ _ _) ?_ ?_ ?_))
    ·omega
    ·simp; omega
    intro v1 w1 hap
    obtain ⟨a1,c1,rfl⟩:=Zae hap.owns
    have Hap:=Zac hap
    clear hap
    go_wp2
    go_roundg (a.length - k)
    case measure=>omega
    case rel =>
     refine ⟨k+1,by go_num,by omega,by omega,?_,?_⟩
     ·exact Hext.out.trans ((HE.out.mono hsr).trans (Hap.out.kept.below (by simp; omega) (fun j hj=>(Hown1.out.lt j hj).1)))
     ·have:=Hap.out.owns
      rw [Hnx.out,Qr,Zdh]
      simpa [Zaj,Zbw,Hrs.out] using this
  ·have hek:k=a.length:=by omega
   subst hek
   go_wp2
   go_ret
   refine ⟨_,w.heap.size,rfl,Qe _,?_,Hext.out⟩
   have:=Hown.out
   rw [List.take_length] at this
   simpa using this
def tOf (ts:List (List Sym)) (s:Sym):List Sym:=if s.name=[] then (ts[s.num]?).getD [] else []
theorem Ymw {ts:List (List Sym)} {s:Sym} (h:tOf ts s=[]) (ha:s.name=[]→s.args=0):ap1 (sbOf ts) s=[s]:=by
 unfold ap1
 by_cases hn:s.name=[]
 ·rw [if_pos hn]
  unfold tOf at h
  rw [if_pos hn] at h
  unfold sbOf
  have hs:vr s.num=[s]:=by
   have:=ha hn
   cases s
   simp at hn this
   subst hn this
   rfl
  cases ht:ts[s.num]? with
  | none=>exact hs
  | some t=>rw [ht] at h; simp at h; subst h; exact hs
 ·rw [if_neg hn]
theorem Yji {ts:List (List Sym)} {s t0:Sym} {t:List Sym} (h:tOf ts s=t0::t):ap1 (sbOf ts) s=t0::t:=by
 unfold tOf at h
 by_cases hn:s.name=[]
 ·rw [if_pos hn] at h
  unfold ap1
  rw [if_pos hn]
  unfold sbOf
  cases ht:ts[s.num]? with
  | none=>rw [ht] at h; simp at h
  | some u=>rw [ht] at h; simp at h; subst h; rfl
 ·rw [if_neg hn] at h; simp at h
def Yfu (ts:List (List Sym)) (s:Sym) (w:World) (e:Ending) (w':World):Prop:=Ext w w'∧∃ x,e = .returned x∧WordAt w' x (tOf ts s)
theorem Ybh (w:World) (tv:Value) (ts:List (List Sym)) (vs:List Value) (s:Sym) (h:TermsAt w 0 tv ts vs) (hl:ts.length≤200001) (hn:s.num≤200000) :
  Calls Tryz.prog 208 #[.agg #[tv],.agg #[.string ⟨s.name.toArray⟩,.int .i64 s.num,.int .i64 s.args]] w (Yfu ts s w):=by
 obtain ⟨ta,tcap,rfl⟩:=Zae h.owns
 have HE:Hid (∀ o o',Ext w ((w.alloc o).alloc o')):=fun o o'=>(Ext.of (by repeat' (first | with_reducible(first|exact Qx _ _|apply Kept.drew|apply Kept.drewN|apply Qz|refine Qy ?_ ?_ _)|exact fun h=>absurd h (by simp <;> omega))))
 cases hnm:s.name with
 | cons x xs =>
  have Ht:Hid (tOf ts s=[]):=by show _=_; unfold tOf; rw [if_neg (by rw [hnm]; simp)]
  clear h hnm
  go_enter Tryz.func208,Tryz.ntmps208
  go_wp2
  go_ret
  exact ⟨HE.out _ _,_,rfl,by rw [Ht.out]; exact World.ownsRow_nil _ _ _ _⟩
 | nil =>
  have h0:(0:Int)≤(s.num:Int):=by omega
  by_cases hlt:s.num<ts.length
  ·have hlt':(s.num:Int)<(ts.length:Int):=by omega
   obtain ⟨t,ht⟩:∃ t,ts[s.num]?=some t:=⟨_,Qb hlt⟩
   obtain ⟨x,hx,hxo⟩:=h.all _ t ht
   obtain ⟨xa,xcap,rfl⟩:=Zae hxo
   obtain ⟨g,tcap',cur,he,_,hgb,hgc⟩:=Zao h.owns (by omega)
   simp only [Value.slice.injEq] at he
   obtain ⟨rfl,_,rfl⟩:=he
   have x0:w.cell? ⟨g,s.num,none⟩=some (.slice xa t.length xcap):=Zag h.owns _ _ hx
   have hgl:=Zab hgb
   have Ht:Hid (tOf ts s=t):=by show _=_; unfold tOf; rw [if_pos hnm,ht]; rfl
   have Hxo:Hid (WordAt w (.slice xa t.length xcap) t):=hxo
   clear h hnm ht hx hxo hgb hgc
   go_enter Tryz.func208,Tryz.ntmps208
   go_wp2
   go_ret
   exact ⟨HE.out _ _,_,rfl,by rw [Ht.out]; exact Hxo.out.ext (HE.out _ _)⟩
  ·have hlt':¬ (s.num:Int)<(ts.length:Int):=by omega
   have Ht:Hid (tOf ts s=[]):=by show _=_; unfold tOf; rw [if_pos hnm,List.getElem?_eq_none (by omega)]; rfl
   clear h hnm
   go_enter Tryz.func208,Tryz.ntmps208
   go_wp2
   go_ret
   exact ⟨HE.out _ _,_,rfl,by rw [Ht.out]; exact World.ownsRow_nil _ _ _ _⟩
def Yjj (ts:List (List Sym)) (a:List Sym) (w:World) (e:Ending) (w':World):Prop:=Ext w w' ∧
 (((ap (sbOf ts) a).length≤30∧∃ x n c,e = .returned (.tuple #[.slice x n c,.bool true])∧w'.ownsRow w.heap.size 133 3 (.slice x n c) (ap (sbOf ts) a).length (Zaj (ap (sbOf ts) a)))∨(30<(ap (sbOf ts) a).length∧e = .returned (.tuple #[.slice none 0 0,.bool false])))
theorem Zpu (σ:Nat→List Sym) (a:List Sym) (k:Nat):(ap σ (a.take k)).length≤(ap σ a).length:=by
 have h:ap σ a=ap σ (a.take k)++ap σ (a.drop k):=by rw [← Zet,List.take_append_drop]
 rw [h]; simp
def ApplyAt (w:World) (tv:Value) (ts:List (List Sym)) (a:List Sym) (k:Nat) (rv:Value) (wr:World):Prop :=
 Ext w wr∧wr.heap[w.heap.size]?=some (.cells #[tv] 216 (0,0))∧wr.ownsRow w.heap.size 133 3 rv (ap (sbOf ts) (a.take k)).length (Zaj (ap (sbOf ts) (a.take k)))
theorem ApplyAt.app {w wr w1 w2:World} {tv rv rv2:Value} {ts:List (List Sym)} {a:List Sym} {k:Nat} {s:Sym} {m:List Sym} (h:ApplyAt w tv ts a k rv wr) (he:Ext wr w1) (hs:a[k]?=some s) (hm:ap1 (sbOf ts) s=m) (hap:Appended w1 w.heap.size 133 3 rv ((ap (sbOf ts) (a.take k)).length+m.length) (Zaj (ap (sbOf ts) (a.take k))++Zaj m) rv2 w2):ApplyAt w tv ts a (k+1) rv2 w2:=by
 obtain ⟨h1,h2,h3⟩:=h
 have hr:=Zai h3 (fun j hj=>he.block j (h3.lt j hj).2)
 have hb:=(he.block _ (Zab h2)).trans h2
 have hsz:=he.size
 have hnx:ap (sbOf ts) (a.take (k+1))=ap (sbOf ts) (a.take k)++m:=by
  rw [List.take_add_one,hs,Zet,← hm]
  simp [ap]
 refine ⟨h1.trans ((he.mono h1.size).trans (hap.kept.below (Qq h1.size hsz) (fun j hj=>(hr.lt j hj).1))),(hap.kept.block _ (Zab hb) (Zah hr (by decide) hb)).trans hb,?_⟩
 rw [hnx,Zdh,Qg]
 exact hap.owns
theorem Yfv (w:World) (tv av:Value) (ts:List (List Sym)) (vs:List Value) (a:List Sym) (h:TermsAt w 0 tv ts vs) (hav:WordAt w av a) (hw:∃ k,Wf k a) (hl:ts.length≤200001) (ht:∀ t ∈ ts,t.length≤30) (hal:a.length≤1000) (hn:∀ s ∈ a,s.num≤200000) :
  Calls Tryz.prog 193 #[.agg #[tv],av] w (Yjj ts a w):=by
 obtain ⟨ta,tcap,rfl⟩:=Zae h.owns
 obtain ⟨va,vcap,rfl⟩:=Zae hav
 have H:=Zac h
 have Hav:=Zac hav
 have Hn:=Zac hn
 have Ht:=Zac ht
 have Hw:=Zac hw
 clear h hav hn ht hw
 go_enter Tryz.func193,Tryz.ntmps193
 go_wp2
 go_loopg [6,12] (a.length+1) (fun gk rv iv wr=>∃ (k:Nat),iv = .int .i64 k∧k≤a.length∧a.length - k<gk∧(ap (sbOf ts) (a.take k)).length≤30∧ApplyAt w (.slice ta ts.length tcap) ts a k rv wr)
 case atStart=>exact ⟨0,by go_num,Qm _,by omega,by simp [ap],(Ext.of (by repeat' (first | with_reducible(first|exact Qx _ _|apply Kept.drew|apply Kept.drewN|apply Qz|refine Qy ?_ ?_ _)|exact fun h=>absurd h (by simp <;> omega)))),heap_alloc_new w _,World.ownsRow_nil _ _ _ _⟩
 case round =>
  obtain ⟨k,rfl,hk,hgk,h30,hA⟩:=hrel
  obtain ⟨ra,rcap,rfl⟩:=Zae hA.2.2
  have hsr:=hA.1.size
  have hb0:=Zab hA.2.1
  have s0:wr.cell? ⟨w.heap.size,0,none⟩=some (.slice ta ts.length tcap):=Zaa hA.2.1 0 _ rfl
  have HA:=Zac hA
  clear hA
  by_cases hlt:k<a.length
  ·obtain ⟨s,hs⟩:∃ s,a[k]?=some s:=⟨_,Qb hlt⟩
   obtain ⟨g,cap',cur,he,_,hgb,_⟩:=Zao Hav.out (by omega)
   simp only [Value.slice.injEq] at he
   obtain ⟨rfl,_,rfl⟩:=he
   have ho:=Zai Hav.out (fun j hj=>HA.out.1.block j (Hav.out.lt j hj).2)
   have hgw:=Zab hgb
   have hgr:g<wr.heap.size:=by omega
   have e0:wr.cell? ⟨g,k * 3,none⟩=some (.string ⟨s.name.toArray⟩):=Zag ho _ _ (by have:=Zba a k s hs 0 (by omega); rw [Nat.add_zero] at this; rw [this]; rfl)
   have e1:wr.cell? ⟨g,k * 3+1,none⟩=some (.int .i64 s.num):=Zag ho _ _ (by rw [Zba a k s hs 1 (by omega)]; rfl)
   have e2:wr.cell? ⟨g,k * 3+2,none⟩=some (.int .i64 s.args):=Zag ho _ _ (by rw [Zba a k s hs 2 (by omega)]; rfl)
   have hsa:s.name=[]→s.args=0:=by obtain ⟨j,hj⟩:=Hw.out; exact (Zjq hj hs).1
   have hE:Ext wr (wr.alloc (.cells #[.string ⟨s.name.toArray⟩,.int .i64 s.num,.int .i64 s.args] 133)):=(Ext.of (by repeat' (first | with_reducible(first|exact Qx _ _|apply Kept.drew|apply Kept.drewN|apply Qz|refine Qy ?_ ?_ _)|exact fun h=>absurd h (by simp <;> omega))))
   have HT:=Zac (Ybh (wr.alloc (.cells #[.string ⟨s.name.toArray⟩,.int .i64 s.num,.int .i64 s.args] 133)) _ ts vs s (H.out.ext (HA.out.1.trans (hE.mono hsr))) hl (Hn.out s (Qh hs)))
   have htl:(tOf ts s).length≤30:=by
    unfold tOf
    split
    ·cases hq:ts[s.num]? with
     | none=>simp
     | some t=>exact Ht.out t (Qh hq)
    ·simp
   have Hs:=Zac hs
   have HE:=Zac hE
   have Hsa:=Zac hsa
   clear hs ho hgb hE hsa
   go_wp2_with fail
   refine HT.out.mono ?_
   rintro e w1 ⟨hE1,x,rfl,hx⟩
   obtain ⟨xa,xcap,rfl⟩:=Zae hx
   obtain ⟨t,hte⟩:∃ t,t=tOf ts s:=⟨_,rfl⟩
   have hE2:Ext wr w1:=HE.out.trans (hE1.mono (by simp))
   have hA1:ApplyAt w (.slice ta ts.length tcap) ts a k (.slice ra (ap (sbOf ts) (a.take k)).length rcap) w1:=by
    obtain ⟨q1,q2,q3⟩:=HA.out
    exact ⟨q1.trans (hE2.mono q1.size),(hE2.block _ (Zab q2)).trans q2,Zai q3 (fun j hj=>hE2.block j (q3.lt j hj).2)⟩
   have hbx:w1.heap[wr.heap.size]?=some (.cells #[.string ⟨s.name.toArray⟩,.int .i64 s.num,.int .i64 s.args] 133 (0,0)):=(hE1.block _ (by simp)).trans (heap_alloc_new wr _)
   have y0:=Zaa hbx 0 _ rfl
   have y1:=Zaa hbx 1 _ rfl
   have y2:=Zaa hbx 2 _ rfl
   have hby:=Zab hbx
   have hs1:=hE1.size
   have hs1:wr.heap.size+1≤w1.heap.size:=by simpa using hs1
   have s0:w1.cell? ⟨w.heap.size,0,none⟩=some (.slice ta ts.length tcap):=Zaa hA1.2.1 0 _ rfl
   obtain ⟨n0,hn0⟩:∃ n,n=(ap (sbOf ts) (a.take k)).length:=⟨_,rfl⟩
   obtain ⟨cs0,hcs0⟩:∃ c,c=Zaj (ap (sbOf ts) (a.take k)):=⟨_,rfl⟩
   have Hrow:Hid (w1.ownsRow w.heap.size 133 3 (.slice ra n0 rcap) n0 cs0):=by rw [hn0,hcs0]; exact hA1.2.2
   rw [← hte] at hx htl ⊢
   rw [← hn0] at h30 ⊢
   have HA1:=Zac hA1
   have Hte:=Zac hte
   have Hn0:=Zac hn0
   have Hcs0:=Zac hcs0
   have Hx:=Zac hx
   clear hE1 hE2 hA1 hbx hte hn0 hcs0 hx e0 e1 e2 HT
   cases t with
   | nil =>
    have Hm:Hid (ap1 (sbOf ts) s=[s]):=Ymw Hte.out.symm Hsa.out
    go_wp2_with (at_builtin; go_loud (refine Zal w1 rfl (.tmp 22) (.tmp 24) 105 rfl w.heap.size 133 Tryz.infoSym Tryz.underlying105 rfl (by decide) (.slice ra n0 rcap) n0 cs0 rfl Hrow.out #[.string ⟨s.name.toArray⟩,.int .i64 s.num,.int .i64 s.args] (N:=w1.heap.size) rfl (by simp) rfl (Zho _ _ _) ?_ ?_ ?_))
    ·omega
    ·omega
    intro v2 w2 hap
    obtain ⟨a2,c2,rfl⟩:=Zae hap.owns
    have hA2:ApplyAt w (.slice ta ts.length tcap) ts a (k+1) (.slice a2 (n0+1) c2) w2:=by
     have hA1:=HA1.out
     rw [← Hn0.out] at hA1
     refine hA1.app (w1:=w1) (m:=[s]) (Below.refl _ _) Hs.out Hm.out ?_
     rw [← Hn0.out,← Hcs0.out]
     simpa [Zaj,Zbw] using hap
    have hl2:(ap (sbOf ts) (a.take (k+1))).length=n0+1:=by
     obtain ⟨qa,qc,qe⟩:=Zae hA2.2.2
     simp only [Value.slice.injEq] at qe
     exact qe.2.1.symm
    have HA2:=Zac hA2
    have Hl2:=Zac hl2
    clear hap hA2 hl2
    by_cases h31:n0+1≤30
    ·have h31':¬ ((30:Int)<((n0+1:Nat):Int)):=by omega
     go_wp2
     go_roundg (a.length - k)
     case measure=>omega
     case rel=>exact ⟨k+1,by go_num,by omega,by omega,by rw [Hl2.out]; exact h31,HA2.out⟩
    ·have h31':(30:Int)<((n0+1:Nat):Int):=by omega
     go_wp2
     go_ret2
     exact ⟨HA2.out.1,Or.inr ⟨by have:=Zpu (sbOf ts) a (k+1); rw [Hl2.out] at this; omega,rfl⟩⟩
   | cons t0 t =>
    have Hm:Hid (ap1 (sbOf ts) s=t0::t):=Yji Hte.out.symm
    have HR:Hid (Yac w1 3 (.slice xa (t0::t).length xcap) (t0::t).length (Zaj (t0::t))):=Zst Hx.out (Zua _)
    obtain ⟨tl,htl'⟩:∃ n,n=(t0::t).length:=⟨_,rfl⟩
    have hpos:0<tl:=by rw [htl']; simp
    have hz:((tl:Int) == 0)=false:=by rw [Qu]; omega
    rw [← htl'] at HR htl ⊢
    have Htl:=Zac htl'
    clear htl'
    go_wp2_with (at_builtin; go_loud (refine Zjc w1 rfl (.tmp 26) (.tmp 27) 105 rfl w.heap.size 133 Tryz.infoSym Tryz.underlying105 rfl (by decide) (.slice ra n0 rcap) n0 cs0 rfl Hrow.out (.slice xa tl xcap) tl (Zaj (t0::t)) rfl HR.out ?_ ?_ ?_))
    ·omega
    ·omega
    intro v2 w2 hap
    obtain ⟨a2,c2,rfl⟩:=Zae hap.owns
    have hA2:ApplyAt w (.slice ta ts.length tcap) ts a (k+1) (.slice a2 (n0+tl) c2) w2:=by
     have hA1:=HA1.out
     rw [← Hn0.out] at hA1
     refine hA1.app (w1:=w1) (m:=t0::t) (Below.refl _ _) Hs.out Hm.out ?_
     rw [← Hn0.out,← Hcs0.out,← Htl.out]
     exact hap
    have hl2:(ap (sbOf ts) (a.take (k+1))).length=n0+tl:=by
     obtain ⟨qa,qc,qe⟩:=Zae hA2.2.2
     simp only [Value.slice.injEq] at qe
     exact qe.2.1.symm
    have HA2:=Zac hA2
    have Hl2:=Zac hl2
    clear hap hA2 hl2
    by_cases h31:n0+tl≤30
    ·have h31':¬ ((30:Int)<((n0+tl:Nat):Int)):=by omega
     go_wp2
     go_roundg (a.length - k)
     case measure=>omega
     case rel=>exact ⟨k+1,by go_num,by omega,by omega,by rw [Hl2.out]; exact h31,HA2.out⟩
    ·have h31':(30:Int)<((n0+tl:Nat):Int):=by omega
     go_wp2
     go_ret2
     exact ⟨HA2.out.1,Or.inr ⟨by have:=Zpu (sbOf ts) a (k+1); rw [Hl2.out] at this; omega,rfl⟩⟩
  ·have hek:k=a.length:=by omega
   subst hek
   obtain ⟨n0,hn0⟩:∃ n,n=(ap (sbOf ts) (a.take a.length)).length:=⟨_,rfl⟩
   rw [← hn0] at h30 ⊢
   have Hn0:=Zac hn0
   clear hn0
   go_wp2
   go_ret2
   have hn0:=Hn0.out
   have hA:=HA.out
   rw [List.take_length] at hn0
   obtain ⟨q1,q2,q3⟩:=hA
   rw [List.take_length] at q3
   refine ⟨q1,Or.inl ⟨by omega,ra,n0,rcap,rfl,?_⟩⟩
   rw [hn0]
   exact q3
structure TmOk (a:List Sym):Prop where
 wf:∃ k,Wf k a
 len:a.length≤1000
 num:∀ s ∈ a,s.num≤200000
def AppliedOut (ts ls:List (List Sym)) (w:World) (e:Ending) (w':World):Prop:=Ext w w' ∧
 (((∀ l ∈ ls,(ap (sbOf ts) l).length≤30)∧∃ x c,e = .returned (.tuple #[.slice x ls.length c,.bool true])∧TermsNew w.heap.size w' (.slice x ls.length c) (ls.map (ap (sbOf ts))))∨((∃ l ∈ ls,30<(ap (sbOf ts) l).length)∧e = .returned (.tuple #[.slice none 0 0,.bool false])))
def AppliedAt (w:World) (tv:Value) (ts ls:List (List Sym)) (k:Nat) (rv:Value) (xs:List Value) (wr:World):Prop :=
 Ext w wr∧wr.heap[w.heap.size]?=some (.cells #[tv] 216 (0,0))∧TermsAt wr w.heap.size rv ((ls.take k).map (ap (sbOf ts))) xs∧∀ x ∈ xs,∀ j,x.ownBlock=some j→w.heap.size≤j
theorem AppliedAt.app {w wr w1 w2:World} {tv rv rv2 x:Value} {ts ls:List (List Sym)} {k:Nat} {l:List Sym} {xs:List Value} (h:AppliedAt w tv ts ls k rv xs wr) (he:Ext wr w1) (hl:ls[k]?=some l) (hx:w1.ownsRow w.heap.size 133 3 x (ap (sbOf ts) l).length (Zaj (ap (sbOf ts) l))) (hap:Appended w1 w.heap.size 105 1 rv (k+1) (xs++[x]) rv2 w2):AppliedAt w tv ts ls (k+1) rv2 (xs++[x]) w2:=by
 obtain ⟨h1,h2,h3,hf⟩:=h
 have h3':=h3.ext he
 have hb:=(he.block _ (Zab h2)).trans h2
 have hsz:=he.size
 have hkl:=(Qa.1 hl).1
 have hlen:((ls.take k).map (ap (sbOf ts))).length=k:=by simp; omega
 refine ⟨h1.trans ((he.mono h1.size).trans (hap.kept.below (Qq h1.size hsz) (fun j hj=>(h3'.owns.lt j hj).1))),(hap.kept.block _ (Zab hb) (Zah h3'.owns (by decide) hb)).trans hb,?_,fun y hy j hj => ?_⟩
 rotate_left
 ·rcases Qk.1 hy with hy | hy
  ·exact hf y hy j hj
  ·simp at hy
   subst hy
   exact (hx.lt j hj).1
 rw [List.take_add_one,hl]
 simp only [Option.toList,Qr,List.map_cons,List.map_nil]
 exact h3'.snoc (by rw [hlen]; exact hap) (Zbe hx (Qm _))
theorem Zjt (w:World) (tv av:Value) (ts ls:List (List Sym)) (vs:List Value) (h:TermsAt w 0 tv ts vs) (hav:TermsIn w av ls) (hl:ts.length≤200001) (ht:∀ t ∈ ts,t.length≤30) (hal:ls.length≤4000) (hls:∀ l ∈ ls,TmOk l) :
  Calls Tryz.prog 161 #[.agg #[tv],av] w (AppliedOut ts ls w):=by
 obtain ⟨us,hav⟩:=hav
 obtain ⟨ta,tcap,rfl⟩:=Zae h.owns
 obtain ⟨va,vcap,rfl⟩:=Zae hav.owns
 have H:=Zac h
 have Hav:=Zac hav
 have Ht:=Zac ht
 have Hls:=Zac hls
 clear h hav ht hls
 go_enter Tryz.func161,Tryz.ntmps161
 go_wp2
 go_loopg [6,13] (ls.length+1) (fun gk rv iv wr=>∃ (k:Nat) (xs:List Value),iv = .int .i64 k∧k≤ls.length∧ls.length - k<gk∧(∀ l ∈ ls.take k,(ap (sbOf ts) l).length≤30)∧AppliedAt w (.slice ta ts.length tcap) ts ls k rv xs wr)
 case atStart=>exact ⟨0,[],by go_num,Qm _,by omega,by simp,(Ext.of (by repeat' (first | with_reducible(first|exact Qx _ _|apply Kept.drew|apply Kept.drewN|apply Qz|refine Qy ?_ ?_ _)|exact fun h=>absurd h (by simp <;> omega)))),heap_alloc_new w _,TermsAt.nil _ _,by simp⟩
 case round =>
  obtain ⟨k,xs,rfl,hk,hgk,h30,hA⟩:=hrel
  have hlk:((ls.take k).map (ap (sbOf ts))).length=k:=by simp; omega
  have hrow:=hA.2.2.1.owns
  rw [hlk] at hrow
  obtain ⟨ra,rcap,rfl⟩:=Zae hrow
  have hsr:=hA.1.size
  have hb0:=Zab hA.2.1
  have s0:wr.cell? ⟨w.heap.size,0,none⟩=some (.slice ta ts.length tcap):=Zaa hA.2.1 0 _ rfl
  have HA:=Zac hA
  have H30:=Zac h30
  clear hA h30 hrow hlk
  by_cases hlt:k<ls.length
  ·obtain ⟨l,hs⟩:∃ l,ls[k]?=some l:=⟨_,Qb hlt⟩
   obtain ⟨x,hx,hxo⟩:=Hav.out.all _ l hs
   obtain ⟨xa,xcap,rfl⟩:=Zae hxo
   obtain ⟨g,cap',cur,he,_,hgb,_⟩:=Zao Hav.out.owns (by omega)
   simp only [Value.slice.injEq] at he
   obtain ⟨rfl,_,rfl⟩:=he
   have hgw:=Zab hgb
   have hgr:g<wr.heap.size:=by omega
   have x0:wr.cell? ⟨g,k,none⟩=some (.slice xa l.length xcap):=(HA.out.1.cell (p:=⟨g,k,none⟩) hgw).trans (Zag Hav.out.owns _ _ hx)
   obtain ⟨o1,o2,o3⟩:=Hls.out l (Qh hs)
   have HT:=Zac (Yfv wr (.slice ta ts.length tcap) (.slice xa l.length xcap) ts vs l (H.out.ext HA.out.1) (WordAt.ext hxo HA.out.1) o1 hl Ht.out o2 o3)
   have Hs:=Zac hs
   clear hs hx hxo hgb o1 o3
   go_wp2_with fail
   refine HT.out.mono ?_
   rintro e w1 ⟨hE1,hout⟩
   have hs1:=hE1.size
   rcases hout with ⟨hsm,ya,yn,yc,rfl,hy⟩ | ⟨hbig,rfl⟩
   ·have Hrow:Hid (w1.ownsRow w.heap.size 105 1 (.slice ra k rcap) k xs):=by
     have:=(HA.out.2.2.1.ext hE1).owns
     rw [show ((ls.take k).map (ap (sbOf ts))).length=k by simp; omega] at this
     exact this
    have HE1:=Zac hE1
    have Hsm:=Zac hsm
    have Hy:=Zac hy
    clear hE1 hsm hy HT
    go_wp2_with (at_builtin; go_loud (refine Zal w1 rfl (.tmp 25) (.tmp 27) 85 rfl w.heap.size 105 Tryz.infoSyms Tryz.underlying85 rfl (by decide) (.slice ra k rcap) k xs rfl Hrow.out #[.slice ya yn yc] (N:=w1.heap.size) rfl (by simp) rfl (Zec _ _ _) ?_ ?_ ?_))
    ·omega
    ·omega
    intro v2 w2 hap
    obtain ⟨a2,c2,rfl⟩:=Zae hap.owns
    have hA2:=HA.out.app HE1.out Hs.out (Zbe Hy.out hsr) hap
    have HA2:=Zac hA2
    clear hap hA2
    go_wp2
    go_roundg (ls.length - k)
    case measure=>omega
    case rel =>
     refine ⟨k+1,_,by go_num,by omega,by omega,fun m hm => ?_,HA2.out⟩
     rw [List.take_add_one,Hs.out] at hm
     rcases Qk.1 hm with hm | hm
     ·exact H30.out m hm
     ·simp at hm; subst hm; exact Hsm.out
   ·have HE:Hid (Ext w w1):=HA.out.1.trans (hE1.mono hsr)
    have Hbig:Hid (∃ l ∈ ls,30<(ap (sbOf ts) l).length):=⟨l,Qh Hs.out,hbig⟩
    clear hE1 hbig
    go_wp2
    go_ret2
    exact ⟨HE.out,Or.inr ⟨Hbig.out,rfl⟩⟩
  ·have hek:k=ls.length:=by omega
   subst hek
   go_wp2
   go_ret2
   have h30:=H30.out
   obtain ⟨q1,q2,q3,q4⟩:=HA.out
   rw [List.take_length] at q3 h30
   exact ⟨q1,Or.inl ⟨h30,ra,rcap,rfl,xs,⟨Zbe q3.owns (Qm _),q3.all⟩,fun j hj=>(q3.owns.lt j hj).1,q4⟩⟩
theorem AppliedOut.form {ts ls:List (List Sym)} {w w':World} {e:Ending} (h:AppliedOut ts ls w e w'):Ext w w'∧∃ x n c b,e = .returned (.tuple #[.slice x n c,.bool b])∧(b=true→(∀ l ∈ ls,(ap (sbOf ts) l).length≤30)∧TermsNew w.heap.size w' (.slice x n c) (ls.map (ap (sbOf ts))))∧(b=false→∃ l ∈ ls,30<(ap (sbOf ts) l).length):=by
 obtain ⟨h1,⟨h2,x,c,rfl,h3⟩ | ⟨h2,rfl⟩⟩:=h
 ·exact ⟨h1,x,_,c,true,rfl,fun _=>⟨h2,h3⟩,fun h=>by simp at h⟩
 ·exact ⟨h1,none,0,0,false,rfl,fun h=>(by simp at h),fun _=>h2⟩
def Yfw (ts gs vs ds:List (List Sym)) (u:Nat) (w:World) (e:Ending) (w':World):Prop:=Ext w w' ∧
 (((∀ l ∈ gs++(vs++ds),(ap (sbOf ts) l).length≤30)∧∃ g1 g2 g3 v1 v2 v3 r1 r2 r3,e = .returned (.tuple #[.agg #[.slice g1 g2 g3,.slice v1 v2 v3,.slice r1 r2 r3,.int .i64 u],.int .i64 1])∧TermsNew w.heap.size w' (.slice g1 g2 g3) (gs.map (ap (sbOf ts)))∧TermsNew w.heap.size w' (.slice v1 v2 v3) (vs.map (ap (sbOf ts)))∧TermsNew w.heap.size w' (.slice r1 r2 r3) (ds.map (ap (sbOf ts)))) ∨
  ((∃ l ∈ gs++(vs++ds),30<(ap (sbOf ts) l).length)∧e = .returned (.tuple #[.agg #[.slice none 0 0,.slice none 0 0,.slice none 0 0,.int .i64 0],.int .i64 2])))
theorem Zrn (w:World) (tv gv vv rv:Value) (ts gs vs ds:List (List Sym)) (us:List Value) (u:Nat) (h:TermsAt w 0 tv ts us) (h1:TermsIn w gv gs) (h2:TermsIn w vv vs) (h3:TermsIn w rv ds) (hl:ts.length≤200001) (ht:∀ t ∈ ts,t.length≤30)
  (hg:gs.length≤4000) (hv:vs.length≤4000) (hd:ds.length≤4000) (ho:∀ l ∈ gs++(vs++ds),TmOk l) (hu:u≤1000000) :
  Calls Tryz.prog 129 #[.agg #[gv,vv,rv,.int .i64 u],.agg #[tv]] w (Yfw ts gs vs ds u w):=by
 obtain ⟨ta,tcap,rfl⟩:=Zae h.owns
 obtain ⟨ga,gcap,rfl⟩:∃ a c,gv = .slice a gs.length c:=by obtain ⟨_,q⟩:=h1; exact Zae q.owns
 obtain ⟨va,vcap,rfl⟩:∃ a c,vv = .slice a vs.length c:=by obtain ⟨_,q⟩:=h2; exact Zae q.owns
 obtain ⟨ra,rcap,rfl⟩:∃ a c,rv = .slice a ds.length c:=by obtain ⟨_,q⟩:=h3; exact Zae q.owns
 obtain ⟨W,hW⟩:∃ W,W=((w.alloc (.cells #[.slice ga gs.length gcap,.slice va vs.length vcap,.slice ra ds.length rcap,.int .i64 u] 87)).alloc (.cells #[.slice ta ts.length tcap] 216)).alloc (.cells #[.slice none 0 0,.slice none 0 0,.slice none 0 0,.int .i64 0] 87):=⟨_,rfl⟩
 have hE0:Ext w W:=by rw [hW]; exact (Ext.of (by repeat' (first | with_reducible(first|exact Qx _ _|apply Kept.drew|apply Kept.drewN|apply Qz|refine Qy ?_ ?_ _)|exact fun h=>absurd h (by simp <;> omega))))
 have hWs:W.heap.size=w.heap.size+3:=by rw [hW]; simp
 have hb0:W.heap[w.heap.size]?=some (.cells #[.slice ga gs.length gcap,.slice va vs.length vcap,.slice ra ds.length rcap,.int .i64 u] 87 (0,0)):=by rw [hW]; exact Zau (Zau (heap_alloc_new w _) _) _
 have hb1:W.heap[w.heap.size+1]?=some (.cells #[.slice ta ts.length tcap] 216 (0,0)):=by
  rw [hW]; refine Zau ?_ _
  have:=heap_alloc_new (w.alloc (.cells #[.slice ga gs.length gcap,.slice va vs.length vcap,.slice ra ds.length rcap,.int .i64 u] 87)) (.cells #[.slice ta ts.length tcap] 216)
  simpa using this
 have hb2:W.heap[w.heap.size+2]?=some (.cells #[.slice none 0 0,.slice none 0 0,.slice none 0 0,.int .i64 0] 87 (0,0)):=by
  rw [hW]
  have:=heap_alloc_new ((w.alloc (.cells #[.slice ga gs.length gcap,.slice va vs.length vcap,.slice ra ds.length rcap,.int .i64 u] 87)).alloc (.cells #[.slice ta ts.length tcap] 216)) (.cells #[.slice none 0 0,.slice none 0 0,.slice none 0 0,.int .i64 0] 87)
  simpa using this
 have HC1:=Zac (Zjt W (.slice ta ts.length tcap) (.slice ga gs.length gcap) ts gs us (h.ext hE0) (h1.ext hE0) hl ht hg (fun l hl=>ho l (by simp [hl])))
 have HC2:Hid (∀ u,Ext W u→Calls Tryz.prog 161 #[.agg #[.slice ta ts.length tcap],.slice va vs.length vcap] u (AppliedOut ts vs u)):=fun u hE=>Zjt u _ _ ts vs us ((h.ext hE0).ext hE) ((h2.ext hE0).ext hE) hl ht hv (fun l hl=>ho l (by simp [hl]))
 have HC3:Hid (∀ u,Ext W u→Calls Tryz.prog 161 #[.agg #[.slice ta ts.length tcap],.slice ra ds.length rcap] u (AppliedOut ts ds u)):=fun u hE=>Zjt u _ _ ts ds us ((h.ext hE0).ext hE) ((h3.ext hE0).ext hE) hl ht hd (fun l hl=>ho l (by simp [hl]))
 have HB:Hid (∀ y,Ext W y→y.cell? ⟨w.heap.size,0,none⟩=some (.slice ga gs.length gcap)∧y.cell? ⟨w.heap.size,1,none⟩=some (.slice va vs.length vcap)∧y.cell? ⟨w.heap.size,2,none⟩=some (.slice ra ds.length rcap)∧y.cell? ⟨w.heap.size,3,none⟩=some (.int .i64 u)∧y.cell? ⟨w.heap.size+1,0,none⟩=some (.slice ta ts.length tcap) ∧
   y.heap[w.heap.size+2]?=some (.cells #[.slice none 0 0,.slice none 0 0,.slice none 0 0,.int .i64 0] 87 (0,0))∧w.heap.size+2<y.heap.size):=fun y hE=>by
  have e0:=(hE.block _ (Zab hb0)).trans hb0
  have e1:=(hE.block _ (Zab hb1)).trans hb1
  have e2:=(hE.block _ (Zab hb2)).trans hb2
  exact ⟨Zaa e0 0 _ rfl,Zaa e0 1 _ rfl,Zaa e0 2 _ rfl,Zaa e0 3 _ rfl,Zaa e1 0 _ rfl,e2,Zab e2⟩
 have HE0:=Zac hE0
 clear h h1 h2 h3 ht ho hE0 hb0 hb1 hb2
 go_enter Tryz.func129,Tryz.ntmps129
 go_wp2_with fail
 rw [← hW]
 refine HC1.out.mono ?_
 rintro e w1 hout1
 obtain ⟨hE1,ga1,gn1,gc1,b1,rfl,hT1,hF1⟩:=hout1.form
 obtain ⟨c0,c1,c2,c3,c4,c5,c6⟩:=HB.out w1 hE1
 have hz1:=hE1.size
 have HT1:=Zac hT1
 have HF1:=Zac hF1
 have HE1:=Zac hE1
 have HW:=Zac hW
 clear hout1 hT1 hF1 hE1 HC1 hW
 go_wp2_with fail
 refine (HC2.out w1 HE1.out).mono ?_
 rintro e w2 hout2
 obtain ⟨hE2,ga2,gn2,gc2,b2,rfl,hT2,hF2⟩:=hout2.form
 have hE2':=HE1.out.trans (hE2.mono hz1)
 obtain ⟨c0,c1,c2,c3,c4,c5,c6⟩:=HB.out w2 hE2'
 have hz2:=hE2.size
 have HT2:=Zac hT2
 have HF2:=Zac hF2
 have HE2:=Zac hE2
 have HE2':=Zac hE2'
 clear hout2 hT2 hF2 hE2 hE2'
 go_wp2_with fail
 refine (HC3.out w2 HE2'.out).mono ?_
 rintro e w3 hout3
 obtain ⟨hE3,ga3,gn3,gc3,b3,rfl,hT3,hF3⟩:=hout3.form
 have hE3':=HE2'.out.trans (hE3.mono (Qq hz1 hz2))
 obtain ⟨c0,c1,c2,c3,c4,c5,c6⟩:=HB.out w3 hE3'
 have r0:=Zaa c5 0 _ rfl
 have r1:=Zaa c5 1 _ rfl
 have r2:=Zaa c5 2 _ rfl
 have r3:=Zaa c5 3 _ rfl
 have rf:=fun i=>Zad c5 i
 have hz3:=hE3.size
 have hEw:Ext w w3:=HE0.out.trans (hE3'.mono (by omega))
 have HT3:=Zac hT3
 have HF3:=Zac hF3
 have HE3:=Zac hE3
 have HEw:=Zac hEw
 have Hc5:=Zac c5
 clear hout3 hT3 hF3 hE3 hE3' hEw c5
 have hbig:Hid (b1=false∨b2=false∨b3=false→∃ l ∈ gs++(vs++ds),30<(ap (sbOf ts) l).length):=by
  show _→_
  rintro (h | h | h)
  ·obtain ⟨l,h1,h2⟩:=HF1.out h; exact ⟨l,by simp [h1],h2⟩
  ·obtain ⟨l,h1,h2⟩:=HF2.out h; exact ⟨l,by simp [h1],h2⟩
  ·obtain ⟨l,h1,h2⟩:=HF3.out h; exact ⟨l,by simp [h1],h2⟩
 have hset:Hid (∀ x0 x1 x2 x3,Ext w ((((w3.setCell ⟨w.heap.size+2,0,none⟩ x0).setCell ⟨w.heap.size+2,1,none⟩ x1).setCell ⟨w.heap.size+2,2,none⟩ x2).setCell ⟨w.heap.size+2,3,none⟩ x3)):=fun x0 x1 x2 x3 =>
  (((HEw.out.setCell (p:=⟨w.heap.size+2,0,none⟩) (by simp) _).setCell (p:=⟨w.heap.size+2,1,none⟩) (by simp) _).setCell (p:=⟨w.heap.size+2,2,none⟩) (by simp) _).setCell (p:=⟨w.heap.size+2,3,none⟩) (by simp) _
 cases b1 with
 | false =>
  go_wp2
  refine bodyPost_ret (v := .tuple #[.agg #[.slice none 0 0,.slice none 0 0,.slice none 0 0,.int .i64 0],.int .i64 2]) (by simp [results,Tryz.results129,go_sem,r0,r1,r2,r3,rf,c6]) rfl ?_
  exact ⟨hset.out _ _ _ _,Or.inr ⟨hbig.out (by simp),rfl⟩⟩
 | true =>
  cases b2 with
  | false =>
   go_wp2
   refine bodyPost_ret (v := .tuple #[.agg #[.slice none 0 0,.slice none 0 0,.slice none 0 0,.int .i64 0],.int .i64 2]) (by simp [results,Tryz.results129,go_sem,r0,r1,r2,r3,rf,c6]) rfl ?_
   exact ⟨hset.out _ _ _ _,Or.inr ⟨hbig.out (by simp),rfl⟩⟩
  | true =>
   cases b3 with
   | false =>
    go_wp2
    refine bodyPost_ret (v := .tuple #[.agg #[.slice none 0 0,.slice none 0 0,.slice none 0 0,.int .i64 0],.int .i64 2]) (by simp [results,Tryz.results129,go_sem,r0,r1,r2,r3,rf,c6]) rfl ?_
    exact ⟨hset.out _ _ _ _,Or.inr ⟨hbig.out (by simp),rfl⟩⟩
   | true =>
    go_wp2
    refine bodyPost_ret (v := .tuple #[.agg #[.slice ga1 gn1 gc1,.slice ga2 gn2 gc2,.slice ga3 gn3 gc3,.int .i64 u],.int .i64 1]) (by simp [results,Tryz.results129,go_sem,r0,r1,r2,r3,rf,c6]) rfl ?_
    have hK:∀ x0 x1 x2 x3,Kept (fun j=>j=w.heap.size+2) w3 ((((w3.setCell ⟨w.heap.size+2,0,none⟩ x0).setCell ⟨w.heap.size+2,1,none⟩ x1).setCell ⟨w.heap.size+2,2,none⟩ x2).setCell ⟨w.heap.size+2,3,none⟩ x3):=fun x0 x1 x2 x3=>((((Qx (only (w.heap.size+2)) w3).put 0 _).put 1 _).put 2 _).put 3 _
    obtain ⟨s1,t1⟩:=HT1.out (by simp)
    obtain ⟨s2,t2⟩:=HT2.out (by simp)
    obtain ⟨s3,t3⟩:=HT3.out (by simp)
    refine ⟨hset.out _ _ _ _,Or.inl ⟨fun l hl => ?_,_,_,_,_,_,_,_,_,_,rfl,?_,?_,?_⟩⟩
    ·rcases Qk.1 hl with hl | hl
     ·exact s1 l hl
     ·rcases Qk.1 hl with hl | hl
      ·exact s2 l hl
      ·exact s3 l hl
    ·exact (((t1.ext HE2.out).ext HE3.out).box Hc5.out (by decide) (by decide) (hK _ _ _ _)).mono (by omega)
    ·exact ((t2.ext HE3.out).box Hc5.out (by decide) (by decide) (hK _ _ _ _)).mono (by omega)
    ·exact (t3.box Hc5.out (by decide) (by decide) (hK _ _ _ _)).mono (by omega)
theorem Ymx (a:List Sym):a.map (rn 0)=a:=by
 have:∀ s:Sym,rn 0 s=s:=fun s=>by
  unfold rn
  split
  ·rename_i h; cases s; simp at h; subst h; rfl
  ·rfl
 induction a with
 | nil=>rfl
 | cons s a ih=>rw [List.map_cons,this,ih]
theorem Zwd (w:World) (n:Nat):WordAt (w.alloc (.cells #[.string ⟨#[]⟩,.int .i64 n,.int .i64 0] 133)) (.slice (some ⟨w.heap.size,0,none⟩) 1 1) (vr n) :=
 ⟨rfl,Or.inr ⟨_,1,#[.string ⟨#[]⟩,.int .i64 n,.int .i64 0],rfl,Qm _,heap_alloc_new w _,Qe _,by unfold maxLen; omega,rfl,rfl⟩⟩
theorem TermsAt.aside {w w':World} {B B2 n:Nat} {v vv:Value} {ls:List (List Sym)} {vs ys:List Value} (h:TermsAt w B v ls vs) (hl:∀ j,v.ownBlock=some j→j<B2) (hv:w.ownsRow B2 105 1 vv n ys) (hk:Kept (Zbn vv) w w'):TermsAt w' B v ls vs :=
 ⟨hk.owns h.owns (fun j hj hS=>by have:=(hv.lt j hS).1; have:=hl j hj; omega),fun i l hi=>by
  obtain ⟨x,h1,h2⟩:=h.all i l hi
  refine ⟨x,h1,hk.owns h2 (fun j hj hS => ?_)⟩
  obtain ⟨cur,hc⟩:=Zbx hv j hS
  exact Zah h2 (by decide) hc hj⟩
theorem TermsIn.aside {w w':World} {B2 n:Nat} {v vv:Value} {ls:List (List Sym)} {ys:List Value} (h:TermsIn w v ls) (hl:∀ j,v.ownBlock=some j→j<B2) (hv:w.ownsRow B2 105 1 vv n ys) (hk:Kept (Zbn vv) w w'):TermsIn w' v ls:=by
 obtain ⟨vs,h⟩:=h
 exact ⟨vs,h.aside hl hv hk⟩
theorem TermsIn.box {w w':World} {M:Nat} {cs:Array Value} {t:TypeId} {fr:Nat × Nat} {v:Value} {ls:List (List Sym)} (h:TermsIn w v ls) (hM:w.heap[M]?=some (.cells cs t fr)) (h1:105≠t) (h2:133≠t) (hk:Kept (fun k=>k=M) w w'):TermsIn w' v ls:=by
 obtain ⟨vs,h⟩:=h
 exact ⟨vs,h.box hM h1 h2 hk⟩
theorem TermsIn.shape {w:World} {v:Value} {ls:List (List Sym)} (h:TermsIn w v ls):∃ a c,v = .slice a ls.length c:=by
 obtain ⟨vs,h⟩:=h
 exact Zae h.owns
abbrev NB (w:World) (b:Nat) (gv vv rv:Value) (u:Nat):Prop:=w.heap[b]?=some (.cells #[gv,vv,rv,.int .i64 u] 87 (0,0))
def CallApp (w0:World) (B:Nat) (l:List Sym) (gv:Value) (n:Nat) (xs:List Value) (F:Value→World→Prop):List Value→World→Prop
 | [],u=>u=w0
 | [x],u=>Zjs l w0 (.returned x) u
 | [x,y],u=>∃ u1,Zjs l w0 (.returned x) u1∧y = .slice (some ⟨u1.heap.size,0,none⟩) 1 1∧u=u1.alloc (.cells #[x] 105)
 | [x,_,z],u=>∃ u1,Zjs l w0 (.returned x) u1∧Appended u1 B 105 1 gv (n+1) (xs++[x]) z u
 | [_,_,z,_],u=>F z u
 | _,_=>False
theorem CallApp.ext {w0:World} {B:Nat} {l:List Sym} {gv:Value} {n:Nat} {xs:List Value} {F:Value→World→Prop}:∀ {vs:List Value} {u:World},CallApp w0 B l gv n xs F vs u→vs.length≤2→Ext w0 u
 | [],u,h,_=>by obtain rfl:u=w0:=h; exact Below.refl _ _
 | [x],u,h,_=>by obtain ⟨_,_,_,_,_,h⟩:=h; exact h
 | [x,y],u,h,_=>by
  obtain ⟨u1,⟨_,_,_,_,_,h⟩,_,rfl⟩:=h
  exact h.alloc h.size _
 | _::_::_::_,_,_,h=>by simp at h
theorem Zdm {w:World} {n:Nat} (h:w.heap.size=n) (o:Obj):(w.alloc o).heap[n]?=some o:=by subst h; exact heap_alloc_new w o
structure TopB (w:World) (B2:Nat) (hv bv vv:Value) (ls:List (List Sym)) (j:Nat) (gv v2:Value) (ys:List Value) (wr:World):Prop where
 ext:Ext w wr
 cls:wr.heap[w.heap.size]?=some (.cells #[hv,bv,vv] 107 (0,0))
 res:NB wr (w.heap.size+1) (.slice none 0 0) (.slice none 0 0) (.slice none 0 0) 0
 box:NB wr (w.heap.size+2) gv v2 (.slice none 0 0) 0
 goals:TermsIn wr gv ls
 low:∀ j,gv.ownBlock=some j→j<B2
 b1:w.heap.size≤B2
 b2:B2≤wr.heap.size
 vals:TermsAt wr B2 v2 ((List.range j).map vr) ys
theorem TopB.app {w wr w2:World} {B2:Nat} {hv bv vv gv v2 v3:Value} {ls:List (List Sym)} {j:Nat} {ys:List Value} (h:TopB w B2 hv bv vv ls j gv v2 ys wr)
  (hap:Appended (wr.alloc (.cells #[.string ⟨#[]⟩,.int .i64 j,.int .i64 0] 133)) B2 105 1 v2 (j+1) (ys++[.slice (some ⟨wr.heap.size,0,none⟩) 1 1]) v3 w2):TopB w B2 hv bv vv ls (j+1) gv v3 (ys++[.slice (some ⟨wr.heap.size,0,none⟩) 1 1]) (w2.setCell ⟨w.heap.size+2,1,none⟩ v3):=by
 obtain ⟨h1,h2,h3,h4,h5,h6,h7,h8,h9⟩:=h
 have hE:Ext wr (wr.alloc (.cells #[.string ⟨#[]⟩,.int .i64 j,.int .i64 0] 133)):=(Ext.of (by repeat' (first | with_reducible(first|exact Qx _ _|apply Kept.drew|apply Kept.drewN|apply Qz|refine Qy ?_ ?_ _)|exact fun h=>absurd h (by simp <;> omega))))
 have c2:=Zau h2 (.cells #[.string ⟨#[]⟩,.int .i64 j,.int .i64 0] 133)
 have c3:=Zau h3 (.cells #[.string ⟨#[]⟩,.int .i64 j,.int .i64 0] 133)
 have c4:=Zau h4 (.cells #[.string ⟨#[]⟩,.int .i64 j,.int .i64 0] 133)
 have c9:=h9.ext hE
 have b2:=(hap.kept.block _ (Zab c2) (Zah c9.owns (by decide) c2)).trans c2
 have b3:=(hap.kept.block _ (Zab c3) (Zah c9.owns (by decide) c3)).trans c3
 have b4:=(hap.kept.block _ (Zab c4) (Zah c9.owns (by decide) c4)).trans c4
 have hK:Kept (fun j=>j=w.heap.size+2) w2 (w2.setCell ⟨w.heap.size+2,1,none⟩ v3):=(Qx (only (w.heap.size+2)) w2).put 1 _
 have hlen:((List.range j).map vr).length=j:=by simp
 have ht:TermsAt w2 B2 v3 ((List.range (j+1)).map vr) (ys++[.slice (some ⟨wr.heap.size,0,none⟩) 1 1]):=by
  rw [List.range_succ,Qr]
  exact c9.snoc (by rw [hlen]; exact hap) (Zwd wr j)
 have hsz:=hap.kept.size
 have hbel:=hap.kept.below (B:=B2) (by simp; omega) (fun j hj=>(c9.owns.lt j hj).1)
 exact ⟨(h1.trans ((hE.mono h1.size).trans (hbel.mono h7))).setCell (p:=⟨w.heap.size+2,1,none⟩) (by simp) _,(hK.block _ (Zab b2) (by simp)).trans b2,(hK.block _ (Zab b3) (by simp)).trans b3,Zaf b4 1 _,
  ((h5.ext hE).aside h6 c9.owns hap.kept).box b4 (by decide) (by decide) hK,h6,h7,by simp at hsz ⊢; omega,ht.box b4 (by decide) (by decide) hK⟩
def TopA (w:World) (hv bv vv:Value) (ls:List (List Sym)) (k:Nat) (gv:Value) (xs:List Value) (wr:World):Prop :=
 Ext w wr∧wr.heap[w.heap.size]?=some (.cells #[hv,bv,vv] 107 (0,0))∧NB wr (w.heap.size+1) (.slice none 0 0) (.slice none 0 0) (.slice none 0 0) 0∧NB wr (w.heap.size+2) gv (.slice none 0 0) (.slice none 0 0) 0∧TermsAt wr w.heap.size gv (ls.take k) xs
theorem TopA.ext {w wr w1:World} {hv bv vv gv:Value} {ls:List (List Sym)} {k:Nat} {xs:List Value} (h:TopA w hv bv vv ls k gv xs wr) (e:Ext wr w1):TopA w hv bv vv ls k gv xs w1:=by
 obtain ⟨h1,h2,h3,h4,h5⟩:=h
 exact ⟨h1.trans (e.mono h1.size),(e.block _ (Zab h2)).trans h2,(e.block _ (Zab h3)).trans h3,(e.block _ (Zab h4)).trans h4,h5.ext e⟩
theorem TopA.app {w w1 w2:World} {hv bv vv gv gv2 x:Value} {ls:List (List Sym)} {k:Nat} {l:List Sym} {xs:List Value} (h:TopA w hv bv vv ls k gv xs w1) (hl:ls[k]?=some l) (hx:WordAt w1 x l) (hap:Appended w1 w.heap.size 105 1 gv (k+1) (xs++[x]) gv2 w2):TopA w hv bv vv ls (k+1) gv2 (xs++[x]) (w2.setCell ⟨w.heap.size+2,0,none⟩ gv2):=by
 obtain ⟨h1,h2,h3,h4,h5⟩:=h
 have hkl:=(Qa.1 hl).1
 have hlen:(ls.take k).length=k:=by simp; omega
 have b2:=(hap.kept.block _ (Zab h2) (Zah h5.owns (by decide) h2)).trans h2
 have b3:=(hap.kept.block _ (Zab h3) (Zah h5.owns (by decide) h3)).trans h3
 have b4:=(hap.kept.block _ (Zab h4) (Zah h5.owns (by decide) h4)).trans h4
 have hK:Kept (fun j=>j=w.heap.size+2) w2 (w2.setCell ⟨w.heap.size+2,0,none⟩ gv2):=(Qx (only (w.heap.size+2)) w2).put 0 _
 have ht:TermsAt w2 w.heap.size gv2 (ls.take (k+1)) (xs++[x]):=by
  rw [List.take_add_one,hl]
  exact h5.snoc (by rw [hlen]; exact hap) hx
 refine ⟨(h1.trans (hap.kept.below h1.size (fun j hj=>(h5.owns.lt j hj).1))).setCell (p:=⟨w.heap.size+2,0,none⟩) (by simp) _,(hK.block _ (Zab b2) (by simp)).trans b2,(hK.block _ (Zab b3) (by simp)).trans b3,Zaf b4 0 _,ht.box b4 (by decide) (by decide) hK⟩
def Yok (ls:List (List Sym)) (n:Nat) (w:World) (e:Ending) (w':World):Prop:=Ext w w'∧∃ g1 gc v1 vc,e = .returned (.agg #[.slice g1 ls.length gc,.slice v1 n vc,.slice none 0 0,.int .i64 n])∧TermsIn w' (.slice g1 ls.length gc) ls∧TermsIn w' (.slice v1 n vc) ((List.range n).map vr)
theorem Zro (w:World) (hv bv vv:Value) (ls:List (List Sym)) (ns:Names) (hh:∃ a n x,hv = .slice a n x) (hb:TermsIn w bv ls) (hns:w.ownsRow 0 9 1 vv ns.length (strs ns)) (hl:ls.length≤4000) (hn:ns.length≤4000) (hls:∀ l ∈ ls,TmOk l) :
  Calls Tryz.prog 51 #[.agg #[hv,bv,vv]] w (Yok ls ns.length w):=by
 obtain ⟨ha,hn1,hc1,rfl⟩:=hh
 obtain ⟨us,hb⟩:=hb
 obtain ⟨ba,bcap,rfl⟩:=Zae hb.owns
 obtain ⟨na,ncap,rfl⟩:=Zae hns
 have Hb:=Zac hb
 have Hls:=Zac hls
 clear hb hns hls
 go_enter Tryz.func51,Tryz.ntmps51
 go_wp2
 go_loopg [10] (ls.length+1) (fun gk iv wr=>∃ (k:Nat) (gv:Value) (xs:List Value),iv = .int .i64 k∧k≤ls.length∧ls.length - k<gk∧TopA w (.slice ha hn1 hc1) (.slice ba ls.length bcap) (.slice na ns.length ncap) ls k gv xs wr)
 case atStart =>
  refine ⟨0,.slice none 0 0,[],by go_num,Qm _,by omega,(Ext.of (by repeat' (first | with_reducible(first|exact Qx _ _|apply Kept.drew|apply Kept.drewN|apply Qz|refine Qy ?_ ?_ _)|exact fun h=>absurd h (by simp <;> omega)))),Zau (Zau (heap_alloc_new w _) _) _,Zau ?_ _,?_,TermsAt.nil _ _⟩
  ·exact Zdm (by simp) _
  ·exact Zdm (by simp) _
 case round =>
  obtain ⟨k,gv,xs,rfl,hk,hgk,hA⟩:=hrel
  have hlk:(ls.take k).length=k:=by simp; omega
  have hrow:=hA.2.2.2.2.owns
  rw [hlk] at hrow
  obtain ⟨ra,rcap,rfl⟩:=Zae hrow
  have hsr:=hA.1.size
  have q2:=Zaa hA.2.1 2 _ rfl
  have q3:=Zab hA.2.1
  have n0:wr.cell? ⟨w.heap.size+2,0,none⟩=some (.slice ra k rcap):=Zaa hA.2.2.2.1 0 _ rfl
  have n1:=Zaa hA.2.2.2.1 1 _ rfl
  have n2:=Zaa hA.2.2.2.1 2 _ rfl
  have n3:=Zaa hA.2.2.2.1 3 _ rfl
  have nf:=fun i=>Zad hA.2.2.2.1 i
  have nl:=Zab hA.2.2.2.1
  have HA:=Zac hA
  clear hA hrow hlk
  by_cases hlt:k<ls.length
  ·obtain ⟨l,hs⟩:∃ l,ls[k]?=some l:=⟨_,Qb hlt⟩
   obtain ⟨x,hx,hxo⟩:=Hb.out.all _ l hs
   obtain ⟨xa,xcap,rfl⟩:=Zae hxo
   obtain ⟨g,cap',cur,he,_,hgb,_⟩:=Zao Hb.out.owns (by omega)
   simp only [Value.slice.injEq] at he
   obtain ⟨rfl,_,rfl⟩:=he
   have hgw:=Zab hgb
   have hgr:g<wr.heap.size:=by omega
   have x0:wr.cell? ⟨g,k,none⟩=some (.slice xa l.length xcap):=(HA.out.1.cell (p:=⟨g,k,none⟩) hgw).trans (Zag Hb.out.owns _ _ hx)
   obtain ⟨_,o2,o3⟩:=Hls.out l (Qh hs)
   have HR:=Zim wr.drew (.slice xa l.length xcap) l 0 (WordAt.ext hxo (HA.out.1.trans ⟨rfl,rfl,rfl,Qe _,fun _ _=>rfl⟩)) o2 o3 (by omega)
   rw [Ymx] at HR
   have HR:=Zac HR
   have Hs:=Zac hs
   clear hs hx hxo hgb o2 o3
   go_wp2_with fail
   have HA':TopA w (.slice ha hn1 hc1) (.slice (some ⟨g,0,none⟩) ls.length bcap) (.slice na ns.length ncap) ls k (.slice ra k rcap) xs wr.drew:=HA.out.ext ⟨rfl,rfl,rfl,Qe _,fun _ _=>rfl⟩
   refine Zev (by kernel_rfl) [.rd 0 3 (fun _ => .pointer (some ⟨w.heap.size+2,0,none⟩)),.rd 0 2 (fun _ => .slice ra k rcap),.rd 0 3 (fun _ => .slice xa l.length xcap),.st 0,.st 1,.st 2,.rd 0 3 (fun _ => .pointer (some ⟨w.heap.size+2,0,none⟩)),.st 3] 4 6 (by kernel_rfl)
    (CallApp wr.drew w.heap.size l (.slice ra k rcap) k xs (fun z u=>∃ xs',TopA w (.slice ha hn1 hc1) (.slice (some ⟨g,0,none⟩) ls.length bcap) (.slice na ns.length ncap) ls (k+1) z xs' u)) rfl ?_ ?_
   ·refine ⟨⟨trivial,fun vs u _ hl hS => ?_⟩,⟨trivial,fun vs u _ hl hS => ?_⟩,⟨trivial,fun vs u _ hl hS => ?_⟩,⟨trivial,fun vs u hl hS => ?_⟩,⟨trivial,fun vs u hl hS => ?_⟩,⟨trivial,fun vs u hl hS => ?_⟩,⟨trivial,fun vs u _ hl hS => ?_⟩,⟨trivial,fun vs u hl hS => ?_⟩,trivial⟩
    ·simp [phAll,phA,pa,Ph.kd,Ph.val,Kd.val,go_sem]
    ·have t1:u.cell? ⟨w.heap.size+2,0,none⟩=some (.slice ra k rcap):=((hS.ext hl).cell (p:=⟨w.heap.size+2,0,none⟩) nl).trans n0
     simp [phAll,phA,pa,Ph.kd,Ph.val,Kd.val,go_sem,t1]
    ·simp [phAll,phA,pa,Ph.kd,Ph.val,Kd.val,go_sem]
    ·obtain rfl:=List.length_eq_zero_iff.1 hl
     have hu:u=wr.drew:=hS
     subst hu
     refine .call 74 #[.slice xa l.length xcap,.int .i64 0] _ (by simp [phAll,phA,pa,Ph.kd,Ph.val,Kd.val,go_sem]) (HR.out.mono ?_)
     rintro e u ⟨v,B,rfl,h⟩
     exact ⟨v,rfl,v,B,rfl,h⟩
    ·obtain ⟨x,rfl⟩:=List.length_eq_one_iff.1 hl
     have hS1:=hS
     obtain ⟨x',B',he,hB,hr,hE⟩:=hS1
     simp only [Ending.returned.injEq] at he
     subst he
     obtain ⟨xa1,xc1,rfl⟩:=Zae hr
     exact .value (.slice (some ⟨u.heap.size,0,none⟩) 1 1) (u.alloc (.cells #[.slice xa1 l.length xc1] 105)) (by simp [phAll,phA,pa,Ph.kd,Ph.val,Kd.val,go_sem]) ⟨u,hS,rfl,rfl⟩
    ·obtain ⟨x,y,rfl⟩:∃ x y,vs=[x,y]:=by
      match vs,hl with
      | [x,y],_=>exact ⟨x,y,rfl⟩
     obtain ⟨u1,hW,rfl,rfl⟩:=hS
     have hW1:=hW
     obtain ⟨x',B',he,hB,hr,hE⟩:=hW1
     simp only [Ending.returned.injEq] at he
     subst he
     obtain ⟨xa1,xc1,rfl⟩:=Zae hr
     have hrow:u1.ownsRow w.heap.size 105 1 (.slice ra k rcap) k xs:=by
      have:=(HA'.ext hE).2.2.2.2.owns
      rw [show (ls.take k).length=k by simp; omega] at this
      exact this
     have hsz:=hE.size
     obtain ⟨z,w',hrun,hap⟩:=Zhl (P:=Tryz.prog) u1 85 85 w.heap.size 105 Tryz.infoSyms Tryz.underlying85 rfl (by decide) (.slice ra k rcap) k xs hrow #[.slice xa1 l.length xc1] rfl (Zec _ _ _) (by omega) (Qq hsr hsz)
     refine .value z w' (Zil (.tmp 15) (.tmp 18) 85 rfl (by simp [phAll,phA,pa,Ph.kd,Ph.val,Kd.val,go_sem]) (by simp [phAll,phA,pa,Ph.kd,Ph.val,Kd.val,go_sem]) hrun) ⟨u1,hW,by simpa using hap⟩
    ·simp [phAll,phA,pa,Ph.kd,Ph.val,Kd.val,go_sem]
    ·obtain ⟨x,y,z,rfl⟩:∃ x y z,vs=[x,y,z]:=by
      match vs,hl with
      | [x,y,z],_=>exact ⟨x,y,z,rfl⟩
     obtain ⟨u1,hW,hap⟩:=hS
     obtain ⟨x',B',he,hB,hr,hE⟩:=hW
     simp only [Ending.returned.injEq] at he
     subst he
     obtain ⟨za,zc,rfl⟩:=Zae hap.owns
     have hA2:=(HA'.ext hE).app Hs.out (Zbe hr (Qm _)) hap
     have h4:=(HA'.ext hE).2.2.2.1
     have b4:=(hap.kept.block _ (Zab h4) (Zah (HA'.ext hE).2.2.2.2.owns (by decide) h4)).trans h4
     have c4:=Zaa b4 0 _ rfl
     have f4:=Zad b4 0
     exact .skip _ (by simp [phAll,phA,pa,Ph.kd,Ph.val,Kd.val,go_sem,c4,f4]) ⟨_,hA2⟩
   ·rintro vs u hl hS
    obtain ⟨x,y,z,y',rfl⟩:∃ x y z y',vs=[x,y,z,y']:=by
     match vs,hl with
     | [x,y,z,y'],_=>exact ⟨x,y,z,y',rfl⟩
    obtain ⟨xs',hA2⟩:=hS
    simp only [phAll,phA,paAll,pa,Ph.kd,Ph.val,Kd.val,List.map_cons,List.map_nil,if_true,Act.put,List.setIfInBounds_toArray,List.set_cons_succ,List.set_cons_zero]
    have HA2:=Zac hA2
    clear hA2
    go_wp2
    go_roundg (ls.length - k)
    case measure=>omega
    case rel=>exact ⟨k+1,_,xs',by go_num,by omega,by omega,HA2.out⟩
  ·have hek:k=ls.length:=by omega
   subst hek
   have hB:TopB w wr.heap.size (.slice ha hn1 hc1) (.slice ba ls.length bcap) (.slice na ns.length ncap) ls 0 (.slice ra ls.length rcap) (.slice none 0 0) [] wr:=by
    obtain ⟨h1,h2,h3,h4,h5⟩:=HA.out
    rw [List.take_length] at h5
    exact ⟨h1,h2,h3,h4,h5.inn,fun j hj=>(h5.owns.lt j hj).2,h1.size,Qe _,TermsAt.nil _ _⟩
   have HB:=Zac hB
   obtain ⟨wo,hwo⟩:∃ x,x=wr:=⟨_,rfl⟩
   subst hwo
   clear HA hB
   go_wp2
   go_loopg [25] (ns.length+1) (fun gk iv wr=>∃ (j:Nat) (v2:Value) (ys:List Value),iv = .int .i64 j∧j≤ns.length∧ns.length - j<gk∧TopB w wo.heap.size (.slice ha hn1 hc1) (.slice ba ls.length bcap) (.slice na ns.length ncap) ls j (.slice ra ls.length rcap) v2 ys wr)
   case atStart=>exact ⟨0,.slice none 0 0,[],by go_num,Qm _,by omega,HB.out⟩
   case round =>
    clear q2 q3 n0 n1 n2 n3 nf nl HB
    obtain ⟨j,v2,ys,rfl,hj,hgj,hB⟩:=hrel
    have hrow:=hB.vals.owns
    rw [show ((List.range j).map vr).length=j by simp] at hrow
    obtain ⟨va,vcap,rfl⟩:=Zae hrow
    have hsr:=hB.ext.size
    have hb2:=hB.b2
    have q2:=Zaa hB.cls 2 _ rfl
    have q3:=Zab hB.cls
    have n0:=Zaa hB.box 0 _ rfl
    have n1:wr.cell? ⟨w.heap.size+2,1,none⟩=some (.slice va j vcap):=Zaa hB.box 1 _ rfl
    have n2:=Zaa hB.box 2 _ rfl
    have n3:=Zaa hB.box 3 _ rfl
    have nf:=fun i=>Zad hB.box i
    have nl:=Zab hB.box
    have HB:=Zac hB
    have Hrow:Hid ((wr.alloc (.cells #[.string ⟨#[]⟩,.int .i64 j,.int .i64 0] 133)).ownsRow wo.heap.size 105 1 (.slice va j vcap) j ys):=Zai hrow (fun i hi=>Below.heap_alloc _ _ _ (hrow.lt i hi).2)
    clear hB hrow
    by_cases hlt:j<ns.length
    ·go_wp2_with (at_builtin; go_loud (refine Zal (wr.alloc (.cells #[.string ⟨#[]⟩,.int .i64 j,.int .i64 0] 133)) rfl (.tmp 29) (.tmp 33) 85 rfl wo.heap.size 105 Tryz.infoSyms Tryz.underlying85 rfl (by decide) (.slice va j vcap) j ys rfl Hrow.out #[.slice (some ⟨wr.heap.size,0,none⟩) 1 1] (N:=wr.heap.size+1) rfl (by simp) rfl (Zec _ _ _) ?_ ?_ ?_))
     ·omega
     ·simp; omega
     intro v3 w2 hap
     obtain ⟨a3,c3,rfl⟩:=Zae hap.owns
     have hB2:=HB.out.app hap
     have b4:w2.heap[w.heap.size+2]?=some (.cells #[.slice ra ls.length rcap,.slice va j vcap,.slice none 0 0,.int .i64 0] 87 (0,0)):=by
      have h4:=Zau HB.out.box (.cells #[.string ⟨#[]⟩,.int .i64 j,.int .i64 0] 133)
      exact (hap.kept.block _ (Zab h4) (Zah Hrow.out (by decide) h4)).trans h4
     have m1:=Zaa b4 1 _ rfl
     have mf:=fun i=>Zad b4 i
     have ml:=Zab b4
     have HB2:=Zac hB2
     clear hap hB2 b4
     go_wp2
     go_roundg (ns.length - j)
     case measure=>omega
     case rel=>exact ⟨j+1,_,_,by go_num,by omega,by omega,HB2.out⟩
    ·have hej:j=ns.length:=by omega
     subst hej
     have r0:=Zaa HB.out.res 0 _ rfl
     have r1:=Zaa HB.out.res 1 _ rfl
     have r2:=Zaa HB.out.res 2 _ rfl
     have r3:=Zaa HB.out.res 3 _ rfl
     have rf:=fun i=>Zad HB.out.res i
     have rl:=Zab HB.out.res
     go_wp2
     refine bodyPost_ret (v := .agg #[.slice ra ls.length rcap,.slice va ns.length vcap,.slice none 0 0,.int .i64 ns.length]) (by simp [results,Tryz.results51,go_sem,r0,r1,r2,r3,rf,rl]) rfl ?_
     have hE:∀ x0 x1 x2 x3 x,Ext w (((((wr.setCell ⟨w.heap.size+2,3,none⟩ x).setCell ⟨w.heap.size+1,0,none⟩ x0).setCell ⟨w.heap.size+1,1,none⟩ x1).setCell ⟨w.heap.size+1,2,none⟩ x2).setCell ⟨w.heap.size+1,3,none⟩ x3):=fun x0 x1 x2 x3 x =>
      ((((HB.out.ext.setCell (p:=⟨w.heap.size+2,3,none⟩) (by simp) _).setCell (p:=⟨w.heap.size+1,0,none⟩) (by simp) _).setCell (p:=⟨w.heap.size+1,1,none⟩) (by simp) _).setCell (p:=⟨w.heap.size+1,2,none⟩) (by simp) _).setCell (p:=⟨w.heap.size+1,3,none⟩) (by simp) _
     have hK1:∀ x,Kept (fun j=>j=w.heap.size+2) wr (wr.setCell ⟨w.heap.size+2,3,none⟩ x):=fun x=>(Qx (only (w.heap.size+2)) wr).put 3 _
     have hK2:∀ (y:World) x0 x1 x2 x3,Kept (fun j=>j=w.heap.size+1) y ((((y.setCell ⟨w.heap.size+1,0,none⟩ x0).setCell ⟨w.heap.size+1,1,none⟩ x1).setCell ⟨w.heap.size+1,2,none⟩ x2).setCell ⟨w.heap.size+1,3,none⟩ x3):=fun y x0 x1 x2 x3=>((((Qx (only (w.heap.size+1)) y).put 0 _).put 1 _).put 2 _).put 3 _
     have hr1:∀ x,(wr.setCell ⟨w.heap.size+2,3,none⟩ x).heap[w.heap.size+1]?=some (.cells #[.slice none 0 0,.slice none 0 0,.slice none 0 0,.int .i64 0] 87 (0,0)):=fun x=>((hK1 x).block _ rl (by simp)).trans HB.out.res
     have hv:=HB.out.vals.inn
     exact ⟨hE _ _ _ _ _,_,_,_,_,rfl,(HB.out.goals.box HB.out.box (by decide) (by decide) (hK1 _)).box (hr1 _) (by decide) (by decide) (hK2 _ _ _ _ _),(hv.box HB.out.box (by decide) (by decide) (hK1 _)).box (hr1 _) (by decide) (by decide) (hK2 _ _ _ _ _)⟩
theorem Zub (s:ByteArray) (w:World) (hl:s.size≤800) :
  Calls Tryz.prog 72 #[.string s] w fun e w'=>Below w.heap.size w w'∧(((runs s false).1≠0∧e = .returned (.tuple #[.slice none 0 0,.agg #[.int .i64 (runs s false).1,.int .i64 (runs s false).2.1]])) ∨
   ((runs s false).1=0∧∃ v B Sa Sb xs,e = .returned (.tuple #[v,.agg #[.int .i64 0,.int .i64 0]])∧CCRow w' B Sa Sb v (runs s false).2.2.clauses xs∧w.heap.size≤B)):=by
 obtain ⟨R,hR⟩:∃ R,R=runs s false:=⟨_,rfl⟩
 have hA:=Zmz ((w.alloc (.cells #[.int .i64 0,.int .i64 0] 91)).alloc (.cells (Zdg (st0 false) nilV) 169)) _ _ (st0 false) s (Ykr (w.alloc (.cells #[.int .i64 0,.int .i64 0] 91)) false) (Ydi false) (by omega)
 rw [show runT s.size (toks s.data.toList 0) (st0 false)=R from hR.symm] at hA
 rw [show (w.alloc (.cells #[.int .i64 0,.int .i64 0] 91)).heap.size=w.heap.size+1 from by simp] at hA
 have HA:=Zac hA
 rw [← hR]
 clear hR hA
 go_enter Tryz.func72,Tryz.ntmps72
 go_wp2_with fail
 refine HA.out.mono ?_
 rintro e w2 ⟨rfl,hr,hb⟩
 have hF:FaultAt w2 w.heap.size 0 0:=(hb.block w.heap.size (by omega)).trans (Zau (heap_alloc_new w _) _)
 have hB:Below w.heap.size w w2:=((Below.refl _ w).alloc (Qe _) _).trans ((((Below.refl _ _).alloc (by simp) _)).trans (hb.mono (by omega)))
 obtain ⟨V,Sa,Sb,vs,xs,h⟩:=hr
 have hrb:=Zab h.blk
 obtain ⟨c0,c1,c2,c3,c4,c5,c6,c7,c8⟩:=h.opens.facts
 have cf:=fun i=>Zad h.blk i
 obtain ⟨ca,ccap,hvc⟩:=Zae h.rest.cls.1
 rw [hvc] at c8
 obtain ⟨hT4,f0,f1,ff⟩:=hF.cells
 have HF:=Zac hF
 have HB:=Zac hB
 have HC:=Zac h.rest.cls
 have Hvc:=Zac hvc
 clear hF hB h hvc hb c0 c1 c2 c3 c4 c5 c6 c7
 by_cases hc:R.1=0
 ·have b0:((R.1:Int) != 0)=false:=by rw [hc]; rfl
  have Hc:=Zac hc
  clear hc
  go_wp2
  refine bodyPost_ret (v := .tuple #[.slice ca R.2.2.clauses.length ccap,.agg #[.int .i64 0,.int .i64 0]]) (by simp [results,Tryz.results72,go_sem,f0,f1,ff,hT4]) rfl ?_
  refine ⟨?_,Or.inr ⟨Hc.out,_,w.heap.size+1,Sa,Sb,xs,rfl,?_,by omega⟩⟩
  ·exact ((HB.out.setCell (p:=⟨w.heap.size,0,none⟩) (Qe _) _).setCell (p:=⟨w.heap.size,1,none⟩) (Qe _) _).alloc (by simp; omega) _
  ·rw [← Hvc.out]
   exact Yhu HC.out ((((Qx (only w.heap.size) w2).put 0 _).put 1 _).alloc _) (fun k cur T fr hk hb=>by
    have hk:k=w.heap.size:=hk
    rw [hk,HF.out] at hb
    simp only [Qo,Obj.cells.injEq] at hb
    rw [← hb.2.1]
    decide)
 ·have b0:((R.1:Int) != 0)=true:=by rw [bne_iff_ne]; omega
  have Hc:=Zac hc
  clear hc
  go_wp2_with fail
  go_region
  all_goals
   go_wp2
   refine bodyPost_ret (v := .tuple #[.slice none 0 0,.agg #[.int .i64 R.1,.int .i64 R.2.1]]) (by simp [results,Tryz.results72,go_sem,f0,f1,ff,hT4]) rfl ?_
   refine ⟨?_,Or.inl ⟨Hc.out,rfl⟩⟩
   exact (((HB.out.setCell (p:=⟨w.heap.size,0,none⟩) (Qe _) _).setCell (p:=⟨w.heap.size,1,none⟩) (Qe _) _).alloc (by simp; omega) _).drew
def Yjk (p:ByteArray) (w:World) (e:Ending) (w':World):Prop:=Ext w w'∧((Zci p=none∧∃ er pl:Nat,er≠0∧e = .returned (.tuple #[.slice none 0 0,.agg #[.int .i64 er,.int .i64 pl]])) ∨
 (∃ cs a c xs,Zci p=some cs∧e = .returned (.tuple #[.slice a cs.length c,.agg #[.int .i64 0,.int .i64 0]])∧ProgIn w' (.slice a cs.length c) cs xs∧∀ j,(Value.slice a cs.length c).ownBlock=some j→w.heap.size≤j))
theorem Yfx (p:ByteArray) (w:World) (hp:p.size≤maxLen):Calls Tryz.prog 72 #[.string p] w (Yjk p w):=by
 by_cases hb:800<p.size
 ·refine (Zqp p w hp hb).mono ?_
  rintro e w' ⟨rfl,hE⟩
  exact ⟨hE,Or.inl ⟨by unfold Zci; rw [if_pos hb],1,0,by omega,rfl⟩⟩
 ·refine (Zub p w (by omega)).mono ?_
  rintro e w' ⟨hE,⟨hne,rfl⟩ | ⟨h0,v,B,Sa,Sb,xs,rfl,hrow,hB⟩⟩
  ·obtain ⟨r1,_,_⟩:=Zdw p false
   refine ⟨hE,Or.inl ⟨?_,_,_,hne,rfl⟩⟩
   unfold Zci
   rw [if_neg hb,if_pos (by rw [← r1]; exact hne)]
  ·obtain ⟨r1,_,_⟩:=Zdw p false
   obtain ⟨cs,h1,h2⟩:=Ztg p (by omega) h0
   have hpo:Zci p=some cs:=by
    unfold Zci
    rw [if_neg hb,if_neg (by rw [← r1]; simp [h0]),h1]
   rw [h2] at hrow
   obtain ⟨a,c,rfl⟩:=Zae hrow.1
   exact ⟨hE,Or.inr ⟨cs,a,c,xs,hpo,rfl,hrow.prog,fun j hj=>Qq hB (hrow.1.lt j hj).1⟩⟩
def Ymy (q:ByteArray) (w:World) (e:Ending) (w':World):Prop:=Ext w w'∧((Zep q=none∧∃ er pl:Nat,er≠0∧e = .returned (.tuple #[.agg #[.slice none 0 0,.slice none 0 0,.slice none 0 0],.agg #[.int .i64 er,.int .i64 pl]])) ∨
 (∃ a h1 h2 h3 b1 bc n1 nc,Zep q=some a∧e = .returned (.tuple #[.agg #[.slice h1 h2 h3,.slice b1 a.1.length bc,.slice n1 a.2.length nc],.agg #[.int .i64 0,.int .i64 0]])∧TermsIn w' (.slice b1 a.1.length bc) a.1∧w'.ownsRow 0 9 1 (.slice n1 a.2.length nc) a.2.length (strs a.2)))
theorem Yjl (q:ByteArray) (w:World) (hq:q.size≤maxLen):Calls Tryz.prog 73 #[.string q] w (Ymy q w):=by
 by_cases hb:120<q.size
 ·refine (Zvb q w hq hb).mono ?_
  rintro e w' ⟨rfl,hE⟩
  exact ⟨hE,Or.inl ⟨by unfold Zep; rw [if_pos hb],1,0,by omega,rfl⟩⟩
 ·refine (Zzq q w (by omega) (fun h0 => ?_)).mono ?_
  ·obtain ⟨x,e1,e2,_⟩:=Ziv q (by omega) h0
   exact ⟨_,_,e2⟩
  rintro e w' ⟨hE,⟨hne,rfl⟩ | ⟨h0,hv,bv,vv,B,Sa,vs,c,cs,rfl,hcs,⟨h1,h2,h3,rfl⟩,hn,hbd⟩⟩
  ·obtain ⟨r1,_,_⟩:=Zdw q true
   refine ⟨hE,Or.inl ⟨?_,_,_,hne,rfl⟩⟩
   unfold Zep
   rw [if_neg hb,if_pos (by rw [← r1]; exact hne)]
  ·obtain ⟨r1,_,_⟩:=Zdw q true
   obtain ⟨x,e1,e2,_⟩:=Ziv q (by omega) h0
   have hao:Zep q=some (x.1,x.2.2):=by
    unfold Zep
    rw [if_neg hb,if_neg (by rw [← r1]; simp [h0]),e1]
    rfl
   rw [e2] at hcs
   simp only [List.cons.injEq] at hcs
   obtain ⟨rfl,_⟩:=hcs
   obtain ⟨n1,nc,rfl⟩:=Zae hn
   obtain ⟨b1,bc,rfl⟩:=Zae hbd.1
   exact ⟨hE,Or.inr ⟨(x.1,x.2.2),h1,h2,h3,b1,bc,n1,nc,hao,rfl,hbd.terms,Zbe hn (Qm _)⟩⟩
def Yjm (p q:ByteArray) (w:World) (e:Ending) (w':World):Prop:=Ext w w'∧((Zci p=none∧e = .returned (.tuple #[.slice none 0 0,.agg #[.slice none 0 0,.slice none 0 0,.slice none 0 0],.int .i64 4])) ∨
 ((∃ cs,Zci p=some cs)∧Zep q=none∧e = .returned (.tuple #[.slice none 0 0,.agg #[.slice none 0 0,.slice none 0 0,.slice none 0 0],.int .i64 5])) ∨
 (∃ cs a l1 lc xs h1 h2 h3 b1 bc n1 nc,Zci p=some cs∧Zep q=some a∧e = .returned (.tuple #[.slice l1 cs.length lc,.agg #[.slice h1 h2 h3,.slice b1 a.1.length bc,.slice n1 a.2.length nc],.int .i64 0])∧ProgIn w' (.slice l1 cs.length lc) cs xs∧TermsIn w' (.slice b1 a.1.length bc) a.1∧w'.ownsRow 0 9 1 (.slice n1 a.2.length nc) a.2.length (strs a.2)))
theorem ProgIn.box {w w':World} {M:Nat} {cs0:Array Value} {t:TypeId} {fr:Nat × Nat} {v:Value} {cs:List Cls} {xs:List (List Value)} (h:ProgIn w v cs xs) (hM:w.heap[M]?=some (.cells cs0 t fr)) (h1:107≠t∨∀ j,v.ownBlock=some j→j≠M) (h2:105≠t) (h3:133≠t) (h4:9≠t) (hk:Kept (fun k=>k=M) w w'):ProgIn w' v cs xs :=
 ⟨hk.owns h.owns (fun j hj hS=>by
  rcases h1 with h1 | h1
  ·have hS:j=M:=hS
   rw [hS] at hj
   exact Zah h.owns h1 hM hj
  ·exact h1 j hj hS),h.len,h.three,fun i c hc=>by
  obtain ⟨hv,bv,vv,e1,e2⟩:=h.all i c hc
  exact ⟨hv,bv,vv,e1,Zcu e2.head hM h3 hk,e2.body.box hM h2 h3 hk,Zcu e2.names hM h4 hk⟩⟩
theorem Znr (p q:ByteArray) (w:World) (hp:p.size≤maxLen) (hq:q.size≤maxLen):Calls Tryz.prog 50 #[.string p,.string q] w (Yjm p q w):=by
 have HP:=Zac (fun u=>Yfx p u hp)
 have HQ:=Zac (fun u=>Yjl q u hq)
 clear hp hq
 go_enter Tryz.func50,Tryz.ntmps50
 go_wp2_with fail
 refine (HP.out _).mono ?_
 rintro e w1 ⟨hE1,hc⟩
 have hs1:=hE1.size
 simp at hs1
 have hb1:w1.heap[w.heap.size]?=some (.cells #[.slice none 0 0,.slice none 0 0,.slice none 0 0] 107 (0,0)):=(hE1.block _ (by simp)).trans (heap_alloc_new w _)
 obtain ⟨b0,b1,b2,bf⟩:w1.cell? ⟨w.heap.size,0,none⟩=some (.slice none 0 0)∧w1.cell? ⟨w.heap.size,1,none⟩=some (.slice none 0 0)∧w1.cell? ⟨w.heap.size,2,none⟩=some (.slice none 0 0)∧∀ i,w1.frozen? ⟨w.heap.size,i,none⟩=false:=⟨Zaa hb1 0 _ rfl,Zaa hb1 1 _ rfl,Zaa hb1 2 _ rfl,fun i=>Zad hb1 i⟩
 have hm1:w.heap.size<w1.heap.size:=by omega
 have HEw1:Hid (Ext w w1):=((Ext.of (by repeat' (first | with_reducible(first|exact Qx _ _|apply Kept.drew|apply Kept.drewN|apply Qz|refine Qy ?_ ?_ _)|exact fun h=>absurd h (by simp <;> omega)))):Ext w (w.alloc _)).trans (hE1.mono (by simp))
 have Hb1:=Zac hb1
 rcases hc with ⟨hno,er,pl,her,rfl⟩ | ⟨cs,la,lcap,xs,hsome,rfl,hrow,hnew⟩
 ·have hb:((er:Int) != 0)=true:=by rw [bne_iff_ne]; omega
  have Hno:=Zac hno
  clear hno hE1 hb1
  go_wp2
  refine bodyPost_ret (v := .tuple #[.slice none 0 0,.agg #[.slice none 0 0,.slice none 0 0,.slice none 0 0],.int .i64 4]) (by simp [results,Tryz.results50,go_sem,b0,b1,b2,bf,hm1]) rfl ?_
  refine ⟨HEw1.out.trans (Kept.below (S:=fun i=>w.heap.size≤i) (by repeat' (first | with_reducible(first|exact Qx _ _|apply Kept.drew|apply Kept.drewN|apply Qz|refine Qy ?_ ?_ _)|(intro _; simp only; omega))) (by omega) (fun i e=>e)),Or.inl ⟨Hno.out,rfl⟩⟩
 ·have Hrow:=Zac hrow
  have Hsome:=Zac hsome
  have Hnew:Hid (∀ j,(Value.slice la cs.length lcap).ownBlock=some j→j≠w.heap.size):=fun j hj=>by
   have:=hnew j hj
   simp at this
   omega
  clear hrow hsome hE1 hb1 hnew
  go_wp2_with fail
  refine (HQ.out _).mono ?_
  rintro e w2 ⟨hE2,hc⟩
  have hs2:=hE2.size
  simp at hs2
  have hE12:Ext w1 w2:=(Below.refl _ w1 |>.alloc (Qe _) _).trans (hE2.mono (by simp))
  have hb2:=(hE12.block _ hm1).trans Hb1.out
  obtain ⟨b0,b1,b2,bf⟩:w2.cell? ⟨w.heap.size,0,none⟩=some (.slice none 0 0)∧w2.cell? ⟨w.heap.size,1,none⟩=some (.slice none 0 0)∧w2.cell? ⟨w.heap.size,2,none⟩=some (.slice none 0 0)∧∀ i,w2.frozen? ⟨w.heap.size,i,none⟩=false:=⟨Zaa hb2 0 _ rfl,Zaa hb2 1 _ rfl,Zaa hb2 2 _ rfl,fun i=>Zad hb2 i⟩
  have hm2:w.heap.size<w2.heap.size:=by omega
  have HEw2:Hid (Ext w w2):=HEw1.out.trans (hE12.mono (by omega))
  have Hb2:=Zac hb2
  have HE2:=Zac hE12
  clear hE12
  rcases hc with ⟨hno,er,pl,her,rfl⟩ | ⟨a,h1,h2,h3,c1,cc,n1,nc,hask,rfl,hA,hN⟩
  ·have hb:((er:Int) != 0)=true:=by rw [bne_iff_ne]; omega
   have Hno:=Zac hno
   clear hno hE2 hb2
   go_wp2
   refine bodyPost_ret (v := .tuple #[.slice none 0 0,.agg #[.slice none 0 0,.slice none 0 0,.slice none 0 0],.int .i64 5]) (by simp [results,Tryz.results50,go_sem,b0,b1,b2,bf,hm2]) rfl ?_
   refine ⟨HEw2.out.trans (Kept.below (S:=fun i=>w.heap.size≤i) (by repeat' (first | with_reducible(first|exact Qx _ _|apply Kept.drew|apply Kept.drewN|apply Qz|refine Qy ?_ ?_ _)|(intro _; simp only; omega))) (by omega) (fun i e=>e)),Or.inr (Or.inl ⟨⟨cs,Hsome.out⟩,Hno.out,rfl⟩)⟩
  ·have HA:=Zac hA
   have HN:=Zac hN
   have Hask:=Zac hask
   clear hA hN hask hE2 hb2
   go_wp2_with fail
   go_region
   all_goals
    go_wp2
    refine bodyPost_ret (v := .tuple #[.slice la cs.length lcap,.agg #[.slice h1 h2 h3,.slice c1 a.1.length cc,.slice n1 a.2.length nc],.int .i64 0]) (by simp [results,Tryz.results50,go_sem,b0,b1,b2,bf,hm2]) rfl ?_
    refine ⟨HEw2.out.trans (Kept.below (S:=fun i=>w.heap.size≤i) (by repeat' (first | with_reducible(first|exact Qx _ _|apply Kept.drew|apply Kept.drewN|apply Qz|refine Qy ?_ ?_ _)|(intro _; simp only; omega))) (by omega) (fun i e=>e)),Or.inr (Or.inr ⟨cs,a,la,lcap,xs,h1,h2,h3,c1,cc,n1,nc,Hsome.out,Hask.out,rfl,?_,?_,?_⟩)⟩
    ·exact ((Hrow.out.ext HE2.out).box Hb2.out (Or.inr Hnew.out) (by decide) (by decide) (by decide) ((((Qx (only w.heap.size) w2).put 0 _).put 1 _).put 2 _)).ext (Ext.of (by repeat' (first | with_reducible(first|exact Qx _ _|apply Kept.drew|apply Kept.drewN|apply Qz|refine Qy ?_ ?_ _)|exact fun h=>absurd h (by simp <;> omega))))
    ·exact (HA.out.box Hb2.out (by decide) (by decide) ((((Qx (only w.heap.size) w2).put 0 _).put 1 _).put 2 _)).ext (Ext.of (by repeat' (first | with_reducible(first|exact Qx _ _|apply Kept.drew|apply Kept.drewN|apply Qz|refine Qy ?_ ?_ _)|exact fun h=>absurd h (by simp <;> omega))))
    ·exact Zai (Zcu HN.out Hb2.out (by decide) ((((Qx (only w.heap.size) w2).put 0 (.slice h1 h2 h3)).put 1 (.slice c1 a.1.length cc)).put 2 (.slice n1 a.2.length nc))) (fun j hj=>((Ext.of (by repeat' (first | with_reducible(first|exact Qx _ _|apply Kept.drew|apply Kept.drewN|apply Qz|refine Qy ?_ ?_ _)|exact fun h=>absurd h (by simp <;> omega)))):Ext _ _).block j (by simp; have:=(HN.out.lt j hj).2; omega))
structure WBg (w:World) (gv vv rv:Value) (u uu:Nat) (hv bv nv:Value) (gl:List (List Sym)) (g:Value) (xs:List Value) (wr:World):Prop where
 ext:Ext w wr
 nb:NB wr w.heap.size gv vv rv u
 cb:wr.heap[w.heap.size+1]?=some (.cells #[hv,bv,nv] 107 (0,0))
 res:NB wr (w.heap.size+2) (.slice none 0 0) (.slice none 0 0) (.slice none 0 0) 0
 box:NB wr (w.heap.size+3) g vv (.slice none 0 0) uu
 row:TermsAt wr w.heap.size g gl xs
theorem WBg.on {w wr w1:World} {gv vv rv hv bv nv g:Value} {u uu:Nat} {gl:List (List Sym)} {xs:List Value} (h:WBg w gv vv rv u uu hv bv nv gl g xs wr) (e:Ext wr w1):WBg w gv vv rv u uu hv bv nv gl g xs w1:=by
 obtain ⟨h1,h2,h3,h4,h5,h6⟩:=h
 exact ⟨h1.trans (e.mono h1.size),(e.block _ (Zab h2)).trans h2,(e.block _ (Zab h3)).trans h3,(e.block _ (Zab h4)).trans h4,(e.block _ (Zab h5)).trans h5,h6.ext e⟩
theorem WBg.app {w w1 w2:World} {gv vv rv hv bv nv g g2 x:Value} {u uu n:Nat} {gl:List (List Sym)} {l:List Sym} {xs:List Value} (h:WBg w gv vv rv u uu hv bv nv gl g xs w1) (hn:gl.length=n) (hx:WordAt w1 x l) (hap:Appended w1 w.heap.size 105 1 g (n+1) (xs++[x]) g2 w2) :
  WBg w gv vv rv u uu hv bv nv (gl++[l]) g2 (xs++[x]) (w2.setCell ⟨w.heap.size+3,0,none⟩ g2):=by
 obtain ⟨h1,h2,h3,h4,h5,h6⟩:=h
 have b2:=(hap.kept.block _ (Zab h2) (Zah h6.owns (by decide) h2)).trans h2
 have b3:=(hap.kept.block _ (Zab h3) (Zah h6.owns (by decide) h3)).trans h3
 have b4:=(hap.kept.block _ (Zab h4) (Zah h6.owns (by decide) h4)).trans h4
 have b5:=(hap.kept.block _ (Zab h5) (Zah h6.owns (by decide) h5)).trans h5
 have hK:Kept (fun j=>j=w.heap.size+3) w2 (w2.setCell ⟨w.heap.size+3,0,none⟩ g2):=(Qx (only (w.heap.size+3)) w2).put 0 _
 exact ⟨(h1.trans (hap.kept.below h1.size (fun j hj=>(h6.owns.lt j hj).1))).setCell (p:=⟨w.heap.size+3,0,none⟩) (by simp) _,(hK.block _ (Zab b2) (by simp)).trans b2,(hK.block _ (Zab b3) (by simp)).trans b3,(hK.block _ (Zab b4) (by simp)).trans b4,Zaf b5 0 _,
  (h6.snoc (by rw [hn]; exact hap) hx).box b5 (by decide) (by decide) hK⟩
structure WBr (w:World) (B:Nat) (gv vv rv:Value) (u uu:Nat) (hv bv nv:Value) (gl:List (List Sym)) (g:Value) (rl:List (List Sym)) (r:Value) (ys:List Value) (wr:World):Prop where
 ext:Ext w wr
 nb:NB wr w.heap.size gv vv rv u
 cb:wr.heap[w.heap.size+1]?=some (.cells #[hv,bv,nv] 107 (0,0))
 res:NB wr (w.heap.size+2) (.slice none 0 0) (.slice none 0 0) (.slice none 0 0) 0
 box:NB wr (w.heap.size+3) g vv r uu
 goals:TermsIn wr g gl
 low:∀ j,g.ownBlock=some j→j<B
 b1:w.heap.size≤B
 b2:B≤wr.heap.size
 row:TermsAt wr B r rl ys
theorem WBr.on {w wr w1:World} {B:Nat} {gv vv rv hv bv nv g r:Value} {u uu:Nat} {gl rl:List (List Sym)} {ys:List Value} (h:WBr w B gv vv rv u uu hv bv nv gl g rl r ys wr) (e:Ext wr w1):WBr w B gv vv rv u uu hv bv nv gl g rl r ys w1:=by
 obtain ⟨h1,h2,h3,h4,h5,h6,h7,h8,h9,h10⟩:=h
 exact ⟨h1.trans (e.mono h1.size),(e.block _ (Zab h2)).trans h2,(e.block _ (Zab h3)).trans h3,(e.block _ (Zab h4)).trans h4,(e.block _ (Zab h5)).trans h5,h6.ext e,h7,h8,Qq h9 e.size,h10.ext e⟩
theorem WBr.app {w w1 w2:World} {B n:Nat} {gv vv rv hv bv nv g r r2 x:Value} {u uu:Nat} {gl rl:List (List Sym)} {l:List Sym} {ys:List Value} (h:WBr w B gv vv rv u uu hv bv nv gl g rl r ys w1) (hn:rl.length=n) (hx:WordAt w1 x l) (hap:Appended w1 B 105 1 r (n+1) (ys++[x]) r2 w2) :
  WBr w B gv vv rv u uu hv bv nv gl g (rl++[l]) r2 (ys++[x]) (w2.setCell ⟨w.heap.size+3,2,none⟩ r2):=by
 obtain ⟨h1,h2,h3,h4,h5,h6,h7,h8,h9,h10⟩:=h
 have b2:=(hap.kept.block _ (Zab h2) (Zah h10.owns (by decide) h2)).trans h2
 have b3:=(hap.kept.block _ (Zab h3) (Zah h10.owns (by decide) h3)).trans h3
 have b4:=(hap.kept.block _ (Zab h4) (Zah h10.owns (by decide) h4)).trans h4
 have b5:=(hap.kept.block _ (Zab h5) (Zah h10.owns (by decide) h5)).trans h5
 have hK:Kept (fun j=>j=w.heap.size+3) w2 (w2.setCell ⟨w.heap.size+3,2,none⟩ r2):=(Qx (only (w.heap.size+3)) w2).put 2 _
 have hsz:=hap.kept.size
 exact ⟨(h1.trans (hap.kept.below h1.size (fun j hj=>Qq h8 (h10.owns.lt j hj).1))).setCell (p:=⟨w.heap.size+3,2,none⟩) (by simp) _,(hK.block _ (Zab b2) (by simp)).trans b2,(hK.block _ (Zab b3) (by simp)).trans b3,(hK.block _ (Zab b4) (by simp)).trans b4,Zaf b5 2 _,
  (h6.aside h7 h10.owns hap.kept).box b5 (by decide) (by decide) hK,h7,h8,by simp; omega,(h10.snoc (by rw [hn]; exact hap) hx).box b5 (by decide) (by decide) hK⟩
def LayApp (w0:World) (B:Nat) (x gv:Value) (n:Nat) (xs:List Value) (F:Value→World→Prop):List Value→World→Prop
 | [],u=>u=w0
 | [y],u=>y = .slice (some ⟨w0.heap.size,0,none⟩) 1 1∧u=w0.alloc (.cells #[x] 105)
 | [_,z],u=>Appended w0 B 105 1 gv (n+1) (xs++[x]) z u
 | [_,z,_],u=>F z u
 | _,_=>False
theorem LayApp.ext {w0:World} {B:Nat} {x gv:Value} {n:Nat} {xs:List Value} {F:Value→World→Prop}:∀ {vs:List Value} {u:World},LayApp w0 B x gv n xs F vs u→vs.length≤1→Ext w0 u
 | [],u,h,_=>by obtain rfl:u=w0:=h; exact Below.refl _ _
 | [y],u,h,_=>by
  obtain ⟨_,rfl⟩:=h
  exact (Below.refl _ _).alloc (Qe _) _
 | _::_::_,_,_,h=>by simp at h
def Ymz (gl vl rl:List (List Sym)) (vv:Value) (uu:Nat) (w:World) (e:Ending) (w':World):Prop:=Ext w w'∧∃ g1 gc r1 rc,e = .returned (.agg #[.slice g1 gl.length gc,vv,.slice r1 rl.length rc,.int .i64 uu])∧TermsIn w' (.slice g1 gl.length gc) gl∧TermsIn w' (.slice r1 rl.length rc) rl
theorem Zuc (w:World) (gv vv rv hv bv nv:Value) (g0:List Sym) (gs vl rl body:List (List Sym)) (ns:Names) (u:Nat) (h1:TermsIn w gv (g0::gs)) (h2:TermsIn w vv vl) (h3:TermsIn w rv rl) (hh:∃ a n x,hv = .slice a n x) (hb:TermsIn w bv body) (hns:w.ownsRow 0 9 1 nv ns.length (strs ns))
  (hgl:(g0::gs).length≤1000) (hrl:rl.length≤1000) (hbl:body.length≤1000) (hnl:ns.length≤4000) (hu:u≤190000) (hbo:∀ l ∈ body,TmOk l) :
  Calls Tryz.prog 128 #[.agg #[gv,vv,rv,.int .i64 u],.agg #[hv,bv,nv]] w (Ymz (body.map (fun l=>l.map (rn u))++gs) vl (rl++[g0]) vv (u+ns.length) w):=by
 obtain ⟨ha,hn1,hc1,rfl⟩:=hh
 obtain ⟨gus,h1⟩:=h1
 obtain ⟨rus,h3⟩:=h3
 obtain ⟨bus,hb⟩:=hb
 obtain ⟨va,vcap,rfl⟩:=h2.shape
 obtain ⟨ga,gcap,rfl⟩:=Zae h1.owns
 obtain ⟨ra,rcap,rfl⟩:=Zae h3.owns
 obtain ⟨ba,bcap,rfl⟩:=Zae hb.owns
 obtain ⟨na,ncap,rfl⟩:=Zae hns
 obtain ⟨GL,hGL⟩:∃ G,G=g0::gs:=⟨_,rfl⟩
 rw [← hGL] at h1 hgl ⊢
 have hGpos:0<GL.length:=by rw [hGL]; simp
 have H1:=Zac h1
 have H3:=Zac h3
 have Hb:=Zac hb
 have Hbo:=Zac hbo
 have HGL:=Zac hGL
 clear h1 h2 h3 hb hns hbo hGL
 obtain ⟨uu,huu⟩:∃ n,n=u+ns.length:=⟨_,rfl⟩
 have HI:Hid ((u:Int)+(ns.length:Int)=(uu:Int)):=by show _=_; omega
 have huu2:uu≤200000:=by omega
 obtain ⟨bl',hbl'⟩:∃ L,L=body.map (fun l=>l.map (rn u)):=⟨_,rfl⟩
 rw [← huu,← hbl']
 have hbn:bl'.length=body.length:=by rw [hbl']; simp
 have Hbl:=Zac hbl'
 clear huu hbl'
 go_enter Tryz.func128,Tryz.ntmps128
 go_wp2
 rw [HI.out]
 go_loopg [24] (body.length+1) (fun gk iv wr=>∃ (k:Nat) (g:Value) (xs:List Value),iv = .int .i64 k∧k≤body.length∧body.length - k<gk∧WBg w (.slice ga GL.length gcap) (.slice va vl.length vcap) (.slice ra rl.length rcap) u uu (.slice ha hn1 hc1) (.slice ba body.length bcap) (.slice na ns.length ncap) ((body.take k).map (fun l=>l.map (rn u))) g xs wr)
 case atStart=>exact ⟨0,.slice none 0 0,[],by go_num,Qm _,by omega,(Ext.of (by repeat' (first | with_reducible(first|exact Qx _ _|apply Kept.drew|apply Kept.drewN|apply Qz|refine Qy ?_ ?_ _)|exact fun h=>absurd h (by simp <;> omega)))),Zau (Zau (Zau (heap_alloc_new w _) _) _) _,Zau (Zau (Zdm (by simp) _) _) _,Zau (Zdm (by simp) _) _,Zdm (by simp) _,TermsAt.nil _ _⟩
 case round =>
  obtain ⟨k,g,xs,rfl,hk,hgk,hA⟩:=hrel
  have hlk:((body.take k).map (fun l=>l.map (rn u))).length=k:=by simp; omega
  have hrow:=hA.row.owns
  rw [hlk] at hrow
  obtain ⟨ra1,rcap1,rfl⟩:=Zae hrow
  have hsr:=hA.ext.size
  have m3:wr.cell? ⟨w.heap.size,3,none⟩=some (.int .i64 u):=Zaa hA.nb 3 _ rfl
  have m0:wr.cell? ⟨w.heap.size,0,none⟩=some (.slice ga GL.length gcap):=Zaa hA.nb 0 _ rfl
  have m2:wr.cell? ⟨w.heap.size,2,none⟩=some (.slice ra rl.length rcap):=Zaa hA.nb 2 _ rfl
  have n0:wr.cell? ⟨w.heap.size+3,0,none⟩=some (.slice ra1 k rcap1):=Zaa hA.box 0 _ rfl
  have ml:=Zab hA.nb
  have nl:=Zab hA.box
  have HA:=Zac hA
  clear hA hrow hlk
  by_cases hlt:k<body.length
  ·obtain ⟨l,hs⟩:∃ l,body[k]?=some l:=⟨_,Qb hlt⟩
   obtain ⟨x,hx,hxo⟩:=Hb.out.all _ l hs
   obtain ⟨xa,xcap,rfl⟩:=Zae hxo
   obtain ⟨bb,cap',cur,he,_,hgb,_⟩:=Zao Hb.out.owns (by omega)
   simp only [Value.slice.injEq] at he
   obtain ⟨rfl,_,rfl⟩:=he
   have hgw:=Zab hgb
   have hgr:bb<wr.heap.size:=by omega
   have x0:wr.cell? ⟨bb,k,none⟩=some (.slice xa l.length xcap):=(HA.out.ext.cell (p:=⟨bb,k,none⟩) hgw).trans (Zag Hb.out.owns _ _ hx)
   obtain ⟨_,o2,o3⟩:=Hbo.out l (Qh hs)
   have HR:=Zac (Zim wr.drew (.slice xa l.length xcap) l u (WordAt.ext hxo (HA.out.ext.trans ⟨rfl,rfl,rfl,Qe _,fun _ _=>rfl⟩)) o2 o3 (by omega))
   have hnx:(body.take (k+1)).map (fun l=>l.map (rn u))=(body.take k).map (fun l=>l.map (rn u))++[l.map (rn u)]:=by rw [List.take_add_one,hs]; simp
   have Hnx:=Zac hnx
   clear hs hx hxo hgb o2 o3 hnx
   go_wp2_with fail
   have HA':=HA.out.on (w1:=wr.drew) ⟨rfl,rfl,rfl,Qe _,fun _ _=>rfl⟩
   have hlk:((body.take k).map (fun l=>l.map (rn u))).length=k:=by simp; omega
   refine Zev (by kernel_rfl) [.rd 0 3 (fun _ => .pointer (some ⟨w.heap.size+3,0,none⟩)),.rd 0 2 (fun _ => .slice ra1 k rcap1),.rd 0 3 (fun _ => .slice xa l.length xcap),.rd 0 3 (fun _ => .pointer (some ⟨w.heap.size,3,none⟩)),.rd 0 2 (fun _ => .int .i64 u),.st 0,.st 1,.st 2,.rd 0 3 (fun _ => .pointer (some ⟨w.heap.size+3,0,none⟩)),.st 3] 4 7 (by kernel_rfl)
    (CallApp wr.drew w.heap.size (l.map (rn u)) (.slice ra1 k rcap1) k xs (fun z y=>∃ xs',WBg w (.slice ga GL.length gcap) (.slice va vl.length vcap) (.slice ra rl.length rcap) u uu (.slice ha hn1 hc1) (.slice (some ⟨bb,0,none⟩) body.length bcap) (.slice na ns.length ncap) ((body.take (k+1)).map (fun l=>l.map (rn u))) z xs' y)) rfl ?_ ?_
   ·refine ⟨⟨trivial,fun vs y _ hl hS => ?_⟩,⟨trivial,fun vs y _ hl hS => ?_⟩,⟨trivial,fun vs y _ hl hS => ?_⟩,⟨trivial,fun vs y _ hl hS => ?_⟩,⟨trivial,fun vs y _ hl hS => ?_⟩,⟨trivial,fun vs y hl hS => ?_⟩,⟨trivial,fun vs y hl hS => ?_⟩,⟨trivial,fun vs y hl hS => ?_⟩,⟨trivial,fun vs y _ hl hS => ?_⟩,⟨trivial,fun vs y hl hS => ?_⟩,trivial⟩
    ·simp [phAll,phA,pa,Ph.kd,Ph.val,Kd.val,go_sem]
    ·have t1:y.cell? ⟨w.heap.size+3,0,none⟩=some (.slice ra1 k rcap1):=((hS.ext hl).cell (p:=⟨w.heap.size+3,0,none⟩) nl).trans n0
     simp [phAll,phA,pa,Ph.kd,Ph.val,Kd.val,go_sem,t1]
    ·simp [phAll,phA,pa,Ph.kd,Ph.val,Kd.val,go_sem]
    ·simp [phAll,phA,pa,Ph.kd,Ph.val,Kd.val,go_sem]
    ·have t1:y.cell? ⟨w.heap.size,3,none⟩=some (.int .i64 u):=((hS.ext hl).cell (p:=⟨w.heap.size,3,none⟩) ml).trans m3
     simp [phAll,phA,pa,Ph.kd,Ph.val,Kd.val,go_sem,t1]
    ·obtain rfl:=List.length_eq_zero_iff.1 hl
     have hy:y=wr.drew:=hS
     subst hy
     refine .call 74 #[.slice xa l.length xcap,.int .i64 u] _ (by simp [phAll,phA,pa,Ph.kd,Ph.val,Kd.val,go_sem]) (HR.out.mono ?_)
     rintro e y ⟨v,B,rfl,h⟩
     exact ⟨v,rfl,v,B,rfl,h⟩
    ·obtain ⟨x,rfl⟩:=List.length_eq_one_iff.1 hl
     have hS1:=hS
     obtain ⟨x',B',he,hB,hr,hE⟩:=hS1
     simp only [Ending.returned.injEq] at he
     subst he
     obtain ⟨xa1,xc1,rfl⟩:=Zae hr
     exact .value (.slice (some ⟨y.heap.size,0,none⟩) 1 1) (y.alloc (.cells #[.slice xa1 (l.map (rn u)).length xc1] 105)) (by simp [phAll,phA,pa,Ph.kd,Ph.val,Kd.val,go_sem]) ⟨y,hS,rfl,rfl⟩
    ·obtain ⟨x,x2,rfl⟩:∃ x y,vs=[x,y]:=by
      match vs,hl with
      | [x,y],_=>exact ⟨x,y,rfl⟩
     obtain ⟨u1,hW,rfl,rfl⟩:=hS
     have hW1:=hW
     obtain ⟨x',B',he,hB,hr,hE⟩:=hW1
     simp only [Ending.returned.injEq] at he
     subst he
     obtain ⟨xa1,xc1,rfl⟩:=Zae hr
     have hrow:u1.ownsRow w.heap.size 105 1 (.slice ra1 k rcap1) k xs:=by
      have:=(HA'.on hE).row.owns
      rw [hlk] at this
      exact this
     have hsz:=hE.size
     obtain ⟨z,w',hrun,hap⟩:=Zhl (P:=Tryz.prog) u1 85 85 w.heap.size 105 Tryz.infoSyms Tryz.underlying85 rfl (by decide) (.slice ra1 k rcap1) k xs hrow #[.slice xa1 (l.map (rn u)).length xc1] rfl (Zec _ _ _) (by omega) (Qq hsr hsz)
     refine .value z w' (Zil (.tmp 29) (.tmp 34) 85 rfl (by simp [phAll,phA,pa,Ph.kd,Ph.val,Kd.val,go_sem]) (by simp [phAll,phA,pa,Ph.kd,Ph.val,Kd.val,go_sem]) hrun) ⟨u1,hW,by simpa using hap⟩
    ·simp [phAll,phA,pa,Ph.kd,Ph.val,Kd.val,go_sem]
    ·obtain ⟨x,x2,z,rfl⟩:∃ x y z,vs=[x,y,z]:=by
      match vs,hl with
      | [x,y,z],_=>exact ⟨x,y,z,rfl⟩
     obtain ⟨u1,hW,hap⟩:=hS
     obtain ⟨x',B',he,hB,hr,hE⟩:=hW
     simp only [Ending.returned.injEq] at he
     subst he
     obtain ⟨za,zc,rfl⟩:=Zae hap.owns
     have hA2:=(HA'.on hE).app hlk (Zbe hr (Qm _)) hap
     rw [← Hnx.out] at hA2
     have h4:=(HA'.on hE).box
     have b4:=(hap.kept.block _ (Zab h4) (Zah (HA'.on hE).row.owns (by decide) h4)).trans h4
     have c4:=Zaa b4 0 _ rfl
     have f4:=Zad b4 0
     exact .skip _ (by simp [phAll,phA,pa,Ph.kd,Ph.val,Kd.val,go_sem,c4,f4]) ⟨_,hA2⟩
   ·rintro vs y hl hS
    obtain ⟨x,x2,z,x3,rfl⟩:∃ x y z y',vs=[x,y,z,y']:=by
     match vs,hl with
     | [x,y,z,y'],_=>exact ⟨x,y,z,y',rfl⟩
    obtain ⟨xs',hA2⟩:=hS
    simp only [phAll,phA,paAll,pa,Ph.kd,Ph.val,Kd.val,List.map_cons,List.map_nil,if_true,Act.put,List.setIfInBounds_toArray,List.set_cons_succ,List.set_cons_zero]
    have HA2:=Zac hA2
    clear hA2
    go_wp2
    go_roundg (body.length - k)
    case measure=>omega
    case rel=>exact ⟨k+1,_,xs',by go_num,by omega,by omega,HA2.out⟩
  ·have hek:k=body.length:=by omega
   subst hek
   have HA1:Hid (WBg w (.slice ga GL.length gcap) (.slice va vl.length vcap) (.slice ra rl.length rcap) u uu (.slice ha hn1 hc1) (.slice ba body.length bcap) (.slice na ns.length ncap) (bl'++(GL.take 0).drop 1) (.slice ra1 body.length rcap1) xs wr):=by
    have:=HA.out
    rw [List.take_length,← Hbl.out] at this
    show WBg _ _ _ _ _ _ _ _ _ _ _ _ _
    simpa using this
   obtain ⟨wo,hwo⟩:∃ x,x=wr:=⟨_,rfl⟩
   subst hwo
   clear HA
   go_wp2
   go_loopg [41] (GL.length+1) (fun gk iv wr=>∃ (k:Nat) (g:Value) (xs:List Value),iv = .int .i64 k∧k≤GL.length∧GL.length - k<gk∧WBg w (.slice ga GL.length gcap) (.slice va vl.length vcap) (.slice ra rl.length rcap) u uu (.slice ha hn1 hc1) (.slice ba body.length bcap) (.slice na ns.length ncap) (bl'++(GL.take k).drop 1) g xs wr)
   case atStart=>exact ⟨0,_,xs,by go_num,Qm _,by omega,HA1.out⟩
   case round =>
    clear m0 m2 m3 n0 ml nl HA1
    obtain ⟨k,g,xs,rfl,hk,hgk,hA⟩:=hrel
    obtain ⟨N,hN⟩:∃ N,N=(bl'++(GL.take k).drop 1).length:=⟨_,rfl⟩
    have hN2:N≤4000:=by rw [hN]; simp; omega
    have hrow:=hA.row.owns
    rw [← hN] at hrow
    obtain ⟨ra1,rcap1,rfl⟩:=Zae hrow
    have hsr:=hA.ext.size
    have m0:wr.cell? ⟨w.heap.size,0,none⟩=some (.slice ga GL.length gcap):=Zaa hA.nb 0 _ rfl
    have m2:wr.cell? ⟨w.heap.size,2,none⟩=some (.slice ra rl.length rcap):=Zaa hA.nb 2 _ rfl
    have n0:wr.cell? ⟨w.heap.size+3,0,none⟩=some (.slice ra1 N rcap1):=Zaa hA.box 0 _ rfl
    have nf:=fun i=>Zad hA.box i
    have ml:=Zab hA.nb
    have nl:=Zab hA.box
    have HA:=Zac hA
    have Hrow:=Zac hrow
    have HN:=Zac hN
    clear hA hrow hN
    by_cases hlt:k<GL.length
    ·obtain ⟨l,hs⟩:∃ l,GL[k]?=some l:=⟨_,Qb hlt⟩
     obtain ⟨x,hx,hxo⟩:=H1.out.all _ l hs
     obtain ⟨xa,xcap,rfl⟩:=Zae hxo
     obtain ⟨gg,cap',cur,he,_,hgb,_⟩:=Zao H1.out.owns (by omega)
     simp only [Value.slice.injEq] at he
     obtain ⟨rfl,_,rfl⟩:=he
     have hgw:=Zab hgb
     have hgr:gg<wr.heap.size:=by omega
     have x0:wr.cell? ⟨gg,k,none⟩=some (.slice xa l.length xcap):=(HA.out.ext.cell (p:=⟨gg,k,none⟩) hgw).trans (Zag H1.out.owns _ _ hx)
     have Hxo:Hid (WordAt wr (.slice xa l.length xcap) l):=WordAt.ext hxo HA.out.ext
     have Hs:=Zac hs
     clear hs hx hxo hgb
     by_cases hk0:k=0
     ·subst hk0
      go_wp2
      go_roundg (GL.length - 0)
      case measure=>omega
      case rel =>
       refine ⟨1,.slice ra1 N rcap1,xs,by go_num,by omega,by omega,?_⟩
       have:=HA.out
       simpa using this
     ·have hk1:(0:Int)<(k:Int):=by omega
      go_wp2_with (at_builtin; go_loud (refine Zal wr rfl (.tmp 49) (.tmp 51) 85 rfl w.heap.size 105 Tryz.infoSyms Tryz.underlying85 rfl (by decide) (.slice ra1 N rcap1) N xs rfl Hrow.out #[.slice xa l.length xcap] (N:=wr.heap.size) rfl (by simp) rfl (Zec _ _ _) ?_ ?_ ?_))
      ·omega
      ·omega
      intro v3 w2 hap
      obtain ⟨a3,c3,rfl⟩:=Zae hap.owns
      have hA2:=HA.out.app HN.out.symm Hxo.out hap
      have hnx:(bl'++(GL.take k).drop 1)++[l]=bl'++(GL.take (k+1)).drop 1:=by
       rw [List.take_add_one,Hs.out,Qi]
       congr 1
       rw [List.drop_append_of_le_length (by simp; omega)]
       rfl
      rw [hnx] at hA2
      have b4:=(hap.kept.block _ (Zab HA.out.box) (Zah Hrow.out (by decide) HA.out.box)).trans HA.out.box
      have m1:=Zaa b4 0 _ rfl
      have mf:=fun i=>Zad b4 i
      have mll:=Zab b4
      have HA2:=Zac hA2
      clear hap hA2 b4 hnx
      go_wp2
      go_roundg (GL.length - k)
      case measure=>omega
      case rel=>exact ⟨k+1,_,_,by go_num,by omega,by omega,HA2.out⟩
    ·have hek:k=GL.length:=by omega
     subst hek
     obtain ⟨FL,hFL⟩:∃ L,L=bl'++GL.drop 1:=⟨_,rfl⟩
     have hFN:FL.length=N:=by rw [hFL,HN.out,List.take_length]
     have hWr:WBr w wr.heap.size (.slice ga GL.length gcap) (.slice va vl.length vcap) (.slice ra rl.length rcap) u uu (.slice ha hn1 hc1) (.slice ba body.length bcap) (.slice na ns.length ncap) FL (.slice ra1 N rcap1) (rl.take 0) (.slice none 0 0) [] wr:=by
      obtain ⟨h1,h2,h3,h4,h5,h6⟩:=HA.out
      rw [List.take_length,← hFL] at h6
      exact ⟨h1,h2,h3,h4,h5,h6.inn,fun j hj=>(h6.owns.lt j hj).2,h1.size,Qe _,TermsAt.nil _ _⟩
     have HW:=Zac hWr
     have HFL:=Zac hFL
     have HFN:=Zac hFN
     obtain ⟨wp,hwp⟩:∃ x,x=wr:=⟨_,rfl⟩
     subst hwp
     clear HA hWr hFL hFN Hrow HN
     go_wp2
     go_loopg [58] (rl.length+1) (fun gk iv wr=>∃ (k:Nat) (r:Value) (ys:List Value),iv = .int .i64 k∧k≤rl.length∧rl.length - k<gk∧WBr w wp.heap.size (.slice ga GL.length gcap) (.slice va vl.length vcap) (.slice ra rl.length rcap) u uu (.slice ha hn1 hc1) (.slice ba body.length bcap) (.slice na ns.length ncap) FL (.slice ra1 N rcap1) (rl.take k) r ys wr)
     case atStart=>exact ⟨0,_,[],by go_num,Qm _,by omega,HW.out⟩
     case round =>
      clear m0 m2 n0 nf ml nl HW
      obtain ⟨k,r,ys,rfl,hk,hgk,hA⟩:=hrel
      have hlk:(rl.take k).length=k:=by simp; omega
      have hrow:=hA.row.owns
      rw [hlk] at hrow
      obtain ⟨sa,scap,rfl⟩:=Zae hrow
      have hsr:=hA.ext.size
      have hb2:=hA.b2
      have m0:wr.cell? ⟨w.heap.size,0,none⟩=some (.slice ga GL.length gcap):=Zaa hA.nb 0 _ rfl
      have m2:wr.cell? ⟨w.heap.size,2,none⟩=some (.slice ra rl.length rcap):=Zaa hA.nb 2 _ rfl
      have n2:wr.cell? ⟨w.heap.size+3,2,none⟩=some (.slice sa k scap):=Zaa hA.box 2 _ rfl
      have nf:=fun i=>Zad hA.box i
      have ml:=Zab hA.nb
      have nl:=Zab hA.box
      have HA:=Zac hA
      have Hrow:=Zac hrow
      clear hA hrow hlk
      by_cases hlt:k<rl.length
      ·obtain ⟨l,hs⟩:∃ l,rl[k]?=some l:=⟨_,Qb hlt⟩
       obtain ⟨x,hx,hxo⟩:=H3.out.all _ l hs
       obtain ⟨xa,xcap,rfl⟩:=Zae hxo
       obtain ⟨rr,cap',cur,he,_,hgb,_⟩:=Zao H3.out.owns (by omega)
       simp only [Value.slice.injEq] at he
       obtain ⟨rfl,_,rfl⟩:=he
       have hgw:=Zab hgb
       have hgr:rr<wr.heap.size:=by omega
       have x0:wr.cell? ⟨rr,k,none⟩=some (.slice xa l.length xcap):=(HA.out.ext.cell (p:=⟨rr,k,none⟩) hgw).trans (Zag H3.out.owns _ _ hx)
       have Hxo:Hid (WordAt wr (.slice xa l.length xcap) l):=WordAt.ext hxo HA.out.ext
       have Hs:=Zac hs
       clear hs hx hxo hgb
       go_wp2_with (at_builtin; go_loud (refine Zal wr rfl (.tmp 63) (.tmp 65) 85 rfl wp.heap.size 105 Tryz.infoSyms Tryz.underlying85 rfl (by decide) (.slice sa k scap) k ys rfl Hrow.out #[.slice xa l.length xcap] (N:=wr.heap.size) rfl (by simp) rfl (Zec _ _ _) ?_ ?_ ?_))
       ·omega
       ·omega
       intro v3 w2 hap
       obtain ⟨a3,c3,rfl⟩:=Zae hap.owns
       have hA2:=HA.out.app (by simp; omega) Hxo.out hap
       have hnx:rl.take k++[l]=rl.take (k+1):=by rw [List.take_add_one,Hs.out]; rfl
       rw [hnx] at hA2
       have b4:=(hap.kept.block _ (Zab HA.out.box) (Zah Hrow.out (by decide) HA.out.box)).trans HA.out.box
       have m1:=Zaa b4 2 _ rfl
       have mf:=fun i=>Zad b4 i
       have mll:=Zab b4
       have HA2:=Zac hA2
       clear hap hA2 b4 hnx
       go_wp2
       go_roundg (rl.length - k)
       case measure=>omega
       case rel=>exact ⟨k+1,_,_,by go_num,by omega,by omega,HA2.out⟩
      ·have hek:k=rl.length:=by omega
       subst hek
       obtain ⟨x,hx,hxo⟩:=H1.out.all 0 g0 (by rw [HGL.out]; rfl)
       obtain ⟨xa,xcap,rfl⟩:=Zae hxo
       obtain ⟨gg,cap',cur,he,_,hgb,_⟩:=Zao H1.out.owns (by omega)
       simp only [Value.slice.injEq] at he
       obtain ⟨rfl,_,rfl⟩:=he
       have hgw:=Zab hgb
       have hgr:gg<wr.heap.size:=by omega
       have x0:wr.cell? ⟨gg,0,none⟩=some (.slice xa g0.length xcap):=(HA.out.ext.cell (p:=⟨gg,0,none⟩) hgw).trans (Zag H1.out.owns _ _ hx)
       have Hxo:Hid (WordAt wr.drew (.slice xa g0.length xcap) g0):=WordAt.ext hxo (HA.out.ext.trans ⟨rfl,rfl,rfl,Qe _,fun _ _=>rfl⟩)
       have hGi:(0:Int)<(GL.length:Int):=by omega
       clear hx hxo hgb
       have HA':=Zac (HA.out.on (w1:=wr.drew) ⟨rfl,rfl,rfl,Qe _,fun _ _=>rfl⟩)
       rw [List.take_length] at HA'
       go_wp2_with fail
       refine Zev (by kernel_rfl) [.rd 0 2 (fun _ => .pointer (some ⟨w.heap.size+3,2,none⟩)),.rd 0 1 (fun _ => .slice sa rl.length scap),.rd 0 0 (fun _ => .pointer (some ⟨w.heap.size,0,none⟩)),.rd 0 0 (fun _ => .slice (some ⟨gg,0,none⟩) GL.length gcap),.rd 0 0 (fun _ => .pointer (some ⟨gg,0,none⟩)),.rd 0 0 (fun _ => .slice xa g0.length xcap),.st 0,.st 1,.rd 0 2 (fun _ => .pointer (some ⟨w.heap.size+3,2,none⟩)),.st 2] 3 7 (by kernel_rfl)
        (LayApp wr.drew wp.heap.size (.slice xa g0.length xcap) (.slice sa rl.length scap) rl.length ys (fun z y=>∃ ys',WBr w wp.heap.size (.slice (some ⟨gg,0,none⟩) GL.length gcap) (.slice va vl.length vcap) (.slice ra rl.length rcap) u uu (.slice ha hn1 hc1) (.slice ba body.length bcap) (.slice na ns.length ncap) FL (.slice ra1 N rcap1) (rl++[g0]) z ys' y)) rfl ?_ ?_
       ·refine ⟨⟨trivial,fun vs y _ hl hS => ?_⟩,⟨trivial,fun vs y _ hl hS => ?_⟩,⟨trivial,fun vs y _ hl hS => ?_⟩,⟨trivial,fun vs y _ hl hS => ?_⟩,⟨trivial,fun vs y _ hl hS => ?_⟩,⟨trivial,fun vs y _ hl hS => ?_⟩,⟨trivial,fun vs y hl hS => ?_⟩,⟨trivial,fun vs y hl hS => ?_⟩,⟨trivial,fun vs y _ hl hS => ?_⟩,⟨trivial,fun vs y hl hS => ?_⟩,trivial⟩
        ·simp [phAll,phA,pa,Ph.kd,Ph.val,Kd.val,go_sem]
        ·have t1:y.cell? ⟨w.heap.size+3,2,none⟩=some (.slice sa rl.length scap):=((hS.ext hl).cell (p:=⟨w.heap.size+3,2,none⟩) nl).trans n2
         simp [phAll,phA,pa,Ph.kd,Ph.val,Kd.val,go_sem,t1]
        ·simp [phAll,phA,pa,Ph.kd,Ph.val,Kd.val,go_sem]
        ·have t1:y.cell? ⟨w.heap.size,0,none⟩=some (.slice (some ⟨gg,0,none⟩) GL.length gcap):=((hS.ext (by omega)).cell (p:=⟨w.heap.size,0,none⟩) ml).trans m0
         simp [phAll,phA,pa,Ph.kd,Ph.val,Kd.val,go_sem,t1]
        ·simp [phAll,phA,pa,Ph.kd,Ph.val,Kd.val,go_sem,hGpos]
        ·have t1:y.cell? ⟨gg,0,none⟩=some (.slice xa g0.length xcap):=((hS.ext (by omega)).cell (p:=⟨gg,0,none⟩) hgr).trans x0
         simp [phAll,phA,pa,Ph.kd,Ph.val,Kd.val,go_sem,t1]
        ·obtain rfl:=List.length_eq_zero_iff.1 hl
         have hy:y=wr.drew:=hS
         subst hy
         exact .value (.slice (some ⟨wr.drew.heap.size,0,none⟩) 1 1) (wr.drew.alloc (.cells #[.slice xa g0.length xcap] 105)) (by simp [phAll,phA,pa,Ph.kd,Ph.val,Kd.val,go_sem]) ⟨rfl,rfl⟩
        ·obtain ⟨x,rfl⟩:=List.length_eq_one_iff.1 hl
         obtain ⟨rfl,rfl⟩:=hS
         have hrow:wr.drew.ownsRow wp.heap.size 105 1 (.slice sa rl.length scap) rl.length ys:=HA'.out.row.owns
         obtain ⟨z,w',hrun,hap⟩:=Zhl (P:=Tryz.prog) wr.drew 85 85 wp.heap.size 105 Tryz.infoSyms Tryz.underlying85 rfl (by decide) (.slice sa rl.length scap) rl.length ys hrow #[.slice xa g0.length xcap] rfl (Zec _ _ _) (by omega) HA'.out.b2
         exact .value z w' (Zil (.tmp 74) (.tmp 79) 85 rfl (by simp [phAll,phA,pa,Ph.kd,Ph.val,Kd.val,go_sem]) (by simp [phAll,phA,pa,Ph.kd,Ph.val,Kd.val,go_sem]) hrun) (by simpa [LayApp] using hap)
        ·simp [phAll,phA,pa,Ph.kd,Ph.val,Kd.val,go_sem]
        ·obtain ⟨x,z,rfl⟩:∃ x y,vs=[x,y]:=by
          match vs,hl with
          | [x,y],_=>exact ⟨x,y,rfl⟩
         have hap:Appended _ _ _ _ _ _ _ z y:=hS
         obtain ⟨za,zc,rfl⟩:=Zae hap.owns
         have hA2:=HA'.out.app rfl Hxo.out hap
         have h4:=HA'.out.box
         have b4:=(hap.kept.block _ (Zab h4) (Zah HA'.out.row.owns (by decide) h4)).trans h4
         have c4:=Zaa b4 2 _ rfl
         have f4:=Zad b4 2
         exact .skip _ (by simp [phAll,phA,pa,Ph.kd,Ph.val,Kd.val,go_sem,c4,f4]) ⟨_,hA2⟩
       ·rintro vs y hl hS
        obtain ⟨x,z,x3,rfl⟩:∃ x y z,vs=[x,y,z]:=by
         match vs,hl with
         | [x,y,z],_=>exact ⟨x,y,z,rfl⟩
        obtain ⟨ys',hA2⟩:=hS
        have hrow:=hA2.row.owns
        obtain ⟨ta,tcap,rfl⟩:=Zae hrow
        simp only [phAll,phA,paAll,pa,Ph.kd,Ph.val,Kd.val,List.map_cons,List.map_nil,if_true,Act.put,List.setIfInBounds_toArray,List.set_cons_succ,List.set_cons_zero]
        have q0:=Zaa hA2.box 0 _ rfl
        have q1:=Zaa hA2.box 1 _ rfl
        have q2:=Zaa hA2.box 2 _ rfl
        have q3:=Zaa hA2.box 3 _ rfl
        have ql:=Zab hA2.box
        have r0:=Zaa hA2.res 0 _ rfl
        have r1:=Zaa hA2.res 1 _ rfl
        have r2:=Zaa hA2.res 2 _ rfl
        have r3:=Zaa hA2.res 3 _ rfl
        have rf:=fun i=>Zad hA2.res i
        have rll:=Zab hA2.res
        have HA2:=Zac hA2
        clear hA2 hrow HA' HA
        go_wp2
        refine bodyPost_ret (v := .agg #[.slice ra1 N rcap1,.slice va vl.length vcap,.slice ta (rl++[g0]).length tcap,.int .i64 uu]) (by simp [results,Tryz.results128,go_sem,r0,r1,r2,r3,rf,rll]) rfl ?_
        have hK2:∀ x0 x1 x2 x3,Kept (fun j=>j=w.heap.size+2) y ((((y.setCell ⟨w.heap.size+2,0,none⟩ x0).setCell ⟨w.heap.size+2,1,none⟩ x1).setCell ⟨w.heap.size+2,2,none⟩ x2).setCell ⟨w.heap.size+2,3,none⟩ x3):=fun x0 x1 x2 x3=>((((Qx (only (w.heap.size+2)) y).put 0 _).put 1 _).put 2 _).put 3 _
        have hE:=(((HA2.out.ext.setCell (p:=⟨w.heap.size+2,0,none⟩) (by simp) (.slice ra1 N rcap1)).setCell (p:=⟨w.heap.size+2,1,none⟩) (by simp) (.slice va vl.length vcap)).setCell (p:=⟨w.heap.size+2,2,none⟩) (by simp) (.slice ta (rl++[g0]).length tcap)).setCell (p:=⟨w.heap.size+2,3,none⟩) (by simp) (.int .i64 uu)
        have hFL:FL=bl'++gs:=by rw [HFL.out,HGL.out]; rfl
        have hg:=HA2.out.goals.box HA2.out.res (by decide) (by decide) (hK2 (.slice ra1 N rcap1) (.slice va vl.length vcap) (.slice ta (rl++[g0]).length tcap) (.int .i64 uu))
        have hr:=HA2.out.row.inn.box HA2.out.res (by decide) (by decide) (hK2 (.slice ra1 N rcap1) (.slice va vl.length vcap) (.slice ta (rl++[g0]).length tcap) (.int .i64 uu))
        rw [← HFN.out] at hg hE hr ⊢
        rw [hFL] at hg hE hr ⊢
        rw [show rl.length+1=(rl++[g0]).length by simp]
        exact ⟨hE,_,_,_,_,rfl,hg,hr⟩
end Go.Proofs.YtlmjilpjmgjjcaaGreatDoor
