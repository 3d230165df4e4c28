/-
  PROVED HERE: the rules that are made of raw numbers (the conditions stand in each statement).
-/
import Derived.Test.YtlmjilpjmgjjcaaGreatDoorT10
import Derived.Deep.CutRange
set_option linter.unusedSimpArgs false
set_option linter.unusedVariables false
set_option maxRecDepth 10000
set_option maxHeartbeats 4000000
namespace Go.Proofs.YtlmjilpjmgjjcaaGreatDoor
open Go.RowKit
def cst (c:Nat):List Sym:=[⟨[symA c],0,0⟩]
def Gnd (θ:Nat→List Sym):Prop:=∀ n,∃ c,c<3∧θ n=cst c
theorem Yjm (c:Nat):Wf 1 (cst c):=⟨by omega,fun h=>absurd h (by simp),fun _=>rfl,rfl⟩
theorem Gnd.ts {θ:Nat→List Sym} (h:Gnd θ):Ts θ:=fun n=>by
 obtain ⟨c,_,e⟩:=h n
 rw [e]
 exact Yjm c
theorem Yic {c:Nat} (h:c<3):AbcN [symA c]:=by
 rcases (by omega:c=0∨c=1∨c=2) with rfl | rfl | rfl
 ·exact Or.inl rfl
 ·exact Or.inr (Or.inl rfl)
 ·exact Or.inr (Or.inr rfl)
theorem Ygk {s:List UInt8} (h:AbcN s):∃ c,c<3∧s=[symA c]:=by
 rcases h with rfl | rfl | rfl
 ·exact ⟨0,by omega,rfl⟩
 ·exact ⟨1,by omega,rfl⟩
 ·exact ⟨2,by omega,rfl⟩
theorem Zpv {s:Sym} (hs:ArgS s) (hw:Wf 1 [s]) (hn:s.name≠[]):∃ c,c<3∧[s]=cst c:=by
 obtain ⟨c,hc,e⟩:=Ygk (hs.name.resolve_left hn)
 obtain ⟨_,_,h0,_⟩:=hw
 have h1:=h0 hn
 have h2:=hs.args
 refine ⟨c,hc,?_⟩
 cases s
 simp only at e h1 h2
 subst e h1 h2
 rfl
theorem Ycn {θ:Nat→List Sym} (h:Gnd θ) {l:List Sym} (hl:F1 l) (wl:Wf 1 l):∃ c,c<3∧ap θ l=cst c:=by
 obtain ⟨s,rfl,hs⟩:=hl
 rw [Zay,Zer,Qs]
 unfold ap1
 split
 ·exact h _
 ·rename_i hn
  exact Zpv hs wl hn
theorem Yid {l:List Sym} (h:Wf 1 l):∃ c,c<3∧toC l=cst c:=by
 unfold toC
 split
 ·rename_i s
  split
  ·rename_i ha
   have hn:s.name≠[]:=fun e=>by rw [e] at ha; rcases ha with h | h | h <;> simp at h
   exact Zpv ⟨Zmk h,Or.inr ha⟩ h hn
  ·exact ⟨0,by omega,rfl⟩
 ·exact ⟨0,by omega,rfl⟩
theorem Yie {c:Nat} (h:c<3):toC (cst c)=cst c:=by simp [toC,cst,Yic h]
def Zhh (m:List Bool) (l:List Sym):Prop:=∃ p a b,p<3∧a<3∧b<3∧l=[⟨[symP p],0,2⟩,⟨[symA a],0,0⟩,⟨[symA b],0,0⟩]∧m.getD (p * 9+a * 3+b) false=true
def ClsM (m:List Bool) (c:Cls):Prop:=∀ θ,Gnd θ→(∀ t ∈ c.body,Zhh m (ap θ t))→Zhh m (ap θ c.head)
theorem Zuc {τ θ:Nat→List Sym} (hθ:Gnd θ) {x:Sym} (hx:ArgS x) (hf:F1 (ap1 τ x)) (hw:Wf 1 (ap1 τ x)):ap1 (fun v=>toC (ap θ (τ v))) x=ap θ (ap1 τ x):=by
 have e:ap1 (fun v=>ap θ (τ v)) x=ap θ (ap1 τ x):=by
  unfold ap1
  split
  ·rfl
  ·rename_i h
   rw [Zay,Zer]
   simp [ap1,h]
 have e1:=Zin (θ:=fun v=>ap θ (τ v)) hx
 rw [e1,e]
 obtain ⟨c,hc,e2⟩:=Ycn hθ hf hw
 rw [e2,Yie hc]
theorem Yif {τ:Nat→List Sym} (hτ:Ts τ) {P x y:Sym} (hP:P.name≠[]) (hf:FA (ap τ [P,x,y])):F1 (ap1 τ x)∧F1 (ap1 τ y):=by
 obtain ⟨P',s,t,e,_,_,hs,ht⟩:=hf
 rw [Zjk τ hP] at e
 have e:=(List.cons.inj e).2
 have l1:=Zkb hτ x
 have l2:=Zkb hτ y
 have l3:=congrArg List.length e
 simp only [Qg,Qf,Jt] at l3
 obtain ⟨a,ha⟩:∃ a,ap1 τ x=[a]:=List.length_eq_one_iff.1 (by omega)
 obtain ⟨b,hb⟩:∃ b,ap1 τ y=[b]:=List.length_eq_one_iff.1 (by omega)
 rw [ha,hb] at e
 simp only [List.cons_append,List.nil_append,List.cons.injEq,and_true] at e
 obtain ⟨rfl,rfl⟩:=e
 exact ⟨⟨a,ha,hs⟩,⟨b,hb,ht⟩⟩
theorem Yjn {τ θ:Nat→List Sym} (hθ:Gnd θ) (hτ:Ts τ) {l:List Sym} (h:FA l) (wl:Wf 1 l) (h2:FA (ap τ l)):ap (fun v=>toC (ap θ (τ v))) l=ap θ (ap τ l):=by
 obtain ⟨P,x,y,rfl,hP,hP2,hx,hy⟩:=h
 obtain ⟨nx,ny⟩:=Zka wl hP2 hx hy
 obtain ⟨f1,f2⟩:=Yif hτ hP h2
 rw [Zjk _ hP,Zjk τ hP,Zuc hθ hx f1 (Zkr hτ hx nx),Zuc hθ hy f2 (Zkr hτ hy ny),Zay,Zcq]
 simp [ap1,hP]
theorem Yjo {τ θ:Nat→List Sym} (hθ:Gnd θ) (hτ:Ts τ) {l:List Sym} (h:F1 l) (wl:Wf 1 l) (h2:F1 (ap τ l)):ap (fun v=>toC (ap θ (τ v))) l=ap θ (ap τ l):=by
 obtain ⟨x,rfl,hx⟩:=h
 have e:∀ σ:Nat→List Sym,ap σ [x]=ap1 σ x:=fun σ=>by rw [Zay,Zer,Qs]
 have hw:=Zhj hτ wl
 rw [e] at h2 hw
 rw [e,e,Zuc hθ hx h2 hw]
theorem Zvo {n m:ND} (hn:NOk n) (fn:FFn n) (fm:FFn m) (hs:Same m n) {θ:Nat→List Sym} (hθ:Gnd θ):∃ θ',Gnd θ'∧n.vals.map (ap θ')=m.vals.map (ap θ)∧(n.goals.map (·.1)).map (ap θ')=(m.goals.map (·.1)).map (ap θ):=by
 obtain ⟨τ,hτ,e⟩:=hs.al.2
 have lg:=hs.gl
 have lv:=hs.vl
 have hwf:=hn.wf
 unfold ND.terms at e hwf
 rw [Qr,Qr] at e
 obtain ⟨e1,e⟩:=List.append_inj e (by simp [lg])
 obtain ⟨e2,_⟩:=List.append_inj e (by simp [lv])
 refine ⟨fun v=>toC (ap θ (τ v)),fun v=>Yid (Zhj hθ.ts (hτ v)),?_,?_⟩
 ·rw [e2,List.map_map]
  refine List.map_congr_left (fun t ht => ?_)
  exact Yjo hθ hτ (fn.vals t ht) (hwf t (by simp [ht])) (fm.vals _ (by rw [e2]; exact List.mem_map_of_mem ht))
 ·rw [e1,List.map_map (l:=n.goals.map (·.1))]
  refine List.map_congr_left (fun t ht => ?_)
  have hm:ap τ t ∈ m.goals.map (·.1):=by rw [e1]; exact List.mem_map_of_mem ht
  obtain ⟨g',hg',eg'⟩:=List.mem_map.1 hm
  have hft:FA (ap τ t):=by rw [← eg']; exact fm.goals g' hg'
  obtain ⟨g,hg,rfl⟩:=List.mem_map.1 ht
  exact Yjn hθ hτ (fn.goals g hg) (hwf g.1 (List.mem_append_left _ ht)) hft
theorem Yco {M:List Bool} {n:ND} (hn:NOk n) (hf:FFn n) {c:Cls} (hc:COk c) (hfc:FFc c) (hM:ClsM M c) {k:Nat} (hk:(tryN n c k).2=1∨(tryN n c k).2=2) :
  FFn (tryN n c k).1∧∀ θ1,Gnd θ1→(∀ g ∈ (tryN n c k).1.goals,Zhh M (ap θ1 g.1))→∃ θ,Gnd θ∧n.vals.map (ap θ)=(tryN n c k).1.vals.map (ap θ1)∧∀ g ∈ n.goals,Zhh M (ap θ g.1):=by
 by_cases hex:∃ r:ND × Nat,∃ m,NOk m∧Same m n∧Out m c k r.2 r.1
 ·have e:tryN n c k=Classical.choose hex:=by unfold tryN; rw [dif_pos hex]
  obtain ⟨m,hm,hS,ho⟩:=Classical.choose_spec hex
  have hfm:FFn m:=hf.same hn.wf hS
  rw [e] at hk ⊢
  have hff:=hfm.child hm hc hfc ho hk
  refine ⟨hff,fun θ1 h1 hg1 => ?_⟩
  obtain ⟨g,gs,hgm,ho⟩:=ho
  rcases ho with ⟨q0,_⟩ | ⟨q3,_⟩ | ⟨σ,hσ,_,_,hch⟩
  ·omega
  ·omega
  ·have hga:FA g.1:=hfm.goals g (by rw [hgm]; simp)
   have hha:FA (ap (Zcb m.vars) c.head):=hfc.1.apF (fun _=>Zml _)
   have wg:Wf 1 g.1:=hm.wf g.1 (by unfold ND.terms; rw [hgm]; simp)
   have wh:Wf 1 (ap (Zcb m.vars) c.head):=Zhj (fun j=>Zmx _) hc.wfh
   have hF:=Zvf hga hha wg wh hσ
   have hG:Gnd (fun v=>ap θ1 (σ v)):=fun v=>Ycn h1 (hF v) (hσ.ts v)
   rw [hch] at hg1
   have key:∀ t,ap θ1 (ap σ (ap (Zcb m.vars) t))=ap (fun j=>ap θ1 (σ (j+m.vars))) t:=fun t=>by
    rw [Zlp σ,Zlp θ1]
    congr 1
    funext j
    rw [Zcb,Zku]
   have hbody:∀ t ∈ c.body,Zhh M (ap (fun j=>ap θ1 (σ (j+m.vars))) t):=fun t ht=>by
    rw [← key]
    refine hg1 (ap σ (ap (Zcb m.vars) t),g.2+1) ?_
    simp only [Zan,carr,List.mem_map,Qk]
    exact ⟨(ap (Zcb m.vars) t,g.2+1),Or.inl ⟨t,ht,rfl⟩,rfl⟩
   have hhead:Zhh M (ap (fun v=>ap θ1 (σ v)) g.1):=by
    rw [← Zlp θ1 σ,hσ.unif,key]
    exact hM _ (fun j=>Ycn h1 (hF _) (hσ.ts _)) hbody
   obtain ⟨θ,hθ,ev,eg⟩:=Zvo hn hf hfm hS hG
   refine ⟨θ,hθ,?_,fun x hx => ?_⟩
   ·rw [ev,hch]
    simp only [Zan,List.map_map]
    exact List.map_congr_left (fun t _=>(Zlp θ1 σ t).symm)
   ·have hx2:ap θ x.1 ∈ (m.goals.map (·.1)).map (ap (fun v=>ap θ1 (σ v))):=by
     rw [← eg]
     exact List.mem_map_of_mem (List.mem_map_of_mem hx)
    rw [hgm] at hx2
    simp only [List.map_cons,Qp,List.mem_map] at hx2
    rcases hx2 with e | ⟨_,⟨y,hy,rfl⟩,e⟩
    ·rw [e]
     exact hhead
    ·rw [← e,← Zlp θ1 σ]
     refine hg1 (ap σ y.1,y.2) ?_
     simp only [Zan,carr,List.mem_map,Qk]
     exact ⟨y,Or.inr hy,rfl⟩
 ·have e:(tryN n c k).2=0:=by unfold tryN; rw [dif_neg hex]
  omega
theorem Zse {M:List Bool} {cs:List Cls} (hcs:∀ c ∈ cs,COk c∧FFc c∧ClsM M c):∀ (ks:List Nat) (n:ND) (i:Nat),NOk n→FFn n→(Zfj cs n ks i).2.1=0→FFn (Zfj cs n ks i).1∧NOk (Zfj cs n ks i).1∧(Zfj cs n ks i).1.goals=[] ∧
  ∀ θ1,Gnd θ1→∃ θ,Gnd θ∧n.vals.map (ap θ)=(Zfj cs n ks i).1.vals.map (ap θ1)∧∀ g ∈ n.goals,Zhh M (ap θ g.1):=by
 intro ks
 induction ks with
 | nil =>
  intro n i hn hf h0
  unfold Zfj at h0 ⊢
  by_cases hg:n.goals=[]
  ·rw [if_pos hg] at h0 ⊢
   exact ⟨hf,hn,hg,fun θ1 h1=>⟨θ1,h1,rfl,fun g hgg=>by rw [hg] at hgg; simp at hgg⟩⟩
  ·rw [if_neg hg] at h0
   simp at h0
 | cons k ks ih =>
  intro n i hn hf h0
  rw [Zfj] at h0 ⊢
  cases hc:cs[k]? with
  | none=>rw [hc] at h0; simp at h0
  | some c =>
   rw [hc] at h0
   simp only at h0 ⊢
   obtain ⟨h1,h2,h3⟩:=hcs c (Qh hc)
   by_cases hg:n.goals=[]
   ·rw [if_pos hg] at h0
    simp at h0
   ·rw [if_neg hg] at h0 ⊢
    by_cases hk:(tryN n c k).2=1∨(tryN n c k).2=2
    ·rw [if_pos hk] at h0 ⊢
     obtain ⟨hff,hup⟩:=Yco hn hf h1 h2 h3 hk
     obtain ⟨i1,i2,i3,i4⟩:=ih _ _ (Zpo h1 hk) hff h0
     refine ⟨i1,i2,i3,fun θ1 hθ1 => ?_⟩
     obtain ⟨θ2,g2,e2,hh2⟩:=i4 θ1 hθ1
     obtain ⟨θ,g,e,hh⟩:=hup θ2 g2 hh2
     exact ⟨θ,g,e.trans e2,hh⟩
    ·rw [if_neg hk] at h0
     simp at h0
theorem Zkg (N:Names) (s:List UInt8):N <+: (Zbb N s).1∧(N.Nodup→(Zbb N s).1.Nodup)∧(Zbb N s).1[(Zbb N s).2]?=some s:=by
 unfold Zbb
 by_cases h:s ∈ N
 ·rw [if_pos h]
  refine ⟨List.prefix_refl _,fun h=>h,?_⟩
  have hl:=List.idxOf_lt_length_iff.2 h
  rw [Qb hl,List.getElem_idxOf hl]
 ·rw [if_neg h]
  refine ⟨List.prefix_append _ _,fun hn => ?_,by simp⟩
  rw [List.nodup_append]
  refine ⟨hn,by simp,fun a ha b hb => ?_⟩
  simp at hb
  subst hb
  exact fun e=>h (e ▸ ha)
theorem Zle (t:GT):∀ N:Names,N <+: (t.syms N).2∧(N.Nodup→(t.syms N).2.Nodup):=by
 induction t with
 | v s=>intro N; exact ⟨(Zkg N s).1,(Zkg N s).2.1⟩
 | n s=>intro N; exact ⟨List.prefix_refl _,fun h=>h⟩
 | f s t ih=>intro N; exact ih N
 | g s t u iht ihu=>intro N; exact ⟨(iht N).1.trans (ihu _).1,fun h=>(ihu _).2 ((iht N).2 h)⟩
theorem Zlf:∀ (l:List GT) (N:Names),N <+: (Zck l N).2∧(N.Nodup→(Zck l N).2.Nodup):=by
 intro l
 induction l with
 | nil=>intro N; exact ⟨List.prefix_refl _,fun h=>h⟩
 | cons t l ih=>intro N; exact ⟨(Zle t N).1.trans (ih _).1,fun h=>(ih _).2 ((Zle t N).2 h)⟩
def Zud (θ:Nat→List Sym) (Nf:Names) (n:Nat):Prop:=∀ j i,j<3→Nf[i]?=some [symA (3+j)]→θ i=cst (gv n j)
theorem Yig {θ:Nat→List Sym} (hθ:Gnd θ) {Nf:Names} (hnd:Nf.Nodup):∃ n,n<27∧Zud θ Nf n:=by
 have key:∀ s,∃ c,c<3∧∀ i:Nat,Nf[i]?=some s→θ i=cst c:=by
  intro s
  by_cases h:∃ i:Nat,Nf[i]?=some s
  ·obtain ⟨i,hi⟩:=h
   obtain ⟨c,hc,e⟩:=hθ i
   refine ⟨c,hc,fun j hj => ?_⟩
   obtain ⟨li,ei⟩:=Qa.1 hi
   obtain ⟨lj,ej⟩:=Qa.1 hj
   have hp:=List.pairwise_iff_getElem.1 hnd
   have:j=i:=by
    rcases Nat.lt_trichotomy j i with hji | hji | hji
    ·exact absurd (ej.trans ei.symm) (hp j i lj li hji)
    ·exact hji
    ·exact absurd (ei.trans ej.symm) (hp i j li lj hji)
   rw [this]
   exact e
  ·exact ⟨0,by omega,fun i hi=>absurd ⟨i,hi⟩ h⟩
 obtain ⟨c0,h0,e0⟩:=key [symA (3+0)]
 obtain ⟨c1,h1,e1⟩:=key [symA (3+1)]
 obtain ⟨c2,h2,e2⟩:=key [symA (3+2)]
 refine ⟨c0+3 * c1+9 * c2,by omega,fun j i hj hi => ?_⟩
 have g0:gv (c0+3 * c1+9 * c2) 0=c0:=by unfold gv; simp; omega
 have g1:gv (c0+3 * c1+9 * c2) 1=c1:=by unfold gv; simp; omega
 have g2:gv (c0+3 * c1+9 * c2) 2=c2:=by unfold gv; simp; omega
 rcases (by omega:j=0∨j=1∨j=2) with rfl | rfl | rfl
 ·rw [g0]; exact e0 i hi
 ·rw [g1]; exact e1 i hi
 ·rw [g2]; exact e2 i hi
theorem Yjp {N Nf:Names} (h:N <+: Nf) {i:Nat} {s:List UInt8} (hi:N[i]?=some s):Nf[i]?=some s:=by
 obtain ⟨r,rfl⟩:=h
 rw [Qc (Qa.1 hi).1]
 exact hi
theorem Ycp {θ:Nat→List Sym} {Nf:Names} {n:Nat} (hF:Zud θ Nf n) {i:Nat} (hi:i<6) {N:Names} (hN:((argT i).syms N).2 <+: Nf):ap θ ((argT i).syms N).1=cst (gA n i):=by
 unfold argT at hN ⊢
 unfold gA
 by_cases h:i<3
 ·rw [if_pos h,if_pos h]
  show ap θ [⟨[symA i],0,0⟩]=_
  rw [Zay,Zer]
  simp [ap1,cst]
 ·rw [if_neg h] at hN ⊢
  rw [if_neg h]
  show ap θ [⟨[],(Zbb N [symA i]).2,0⟩]=_
  rw [Zay,Zer,Qs]
  show θ (Zbb N [symA i]).2=_
  refine hF (i - 3) _ (by omega) ?_
  rw [show 3+(i - 3)=i by omega]
  exact Yjp hN (Zkg N [symA i]).2.2
theorem Ygl {θ:Nat→List Sym} {Nf:Names} {n:Nat} (hF:Zud θ Nf n) {x:At3} (hx:AtOk x) {N:Names} (hN:((atG x).syms N).2 <+: Nf):ap θ ((atG x).syms N).1=[⟨[symP x.1],0,2⟩,⟨[symA (gA n x.2.1)],0,0⟩,⟨[symA (gA n x.2.2)],0,0⟩]:=by
 obtain ⟨P,A,B⟩:=x
 show ap θ (⟨[symP P],0,2⟩::(((argT A).syms N).1++((argT B).syms ((argT A).syms N).2).1))=_
 have hN2:((argT B).syms ((argT A).syms N).2).2 <+: Nf:=hN
 rw [Zay,Zcq,Ycp hF hx.2.1 ((Zle _ _).1.trans hN2),Ycp hF hx.2.2 hN2]
 simp [ap1,cst]
theorem Yfq {p q:Nat} (hp:p<3) (hq:q<3) (h:symP p=symP q):p=q:=by
 rcases (by omega:p=0∨p=1∨p=2) with rfl | rfl | rfl <;> rcases (by omega:q=0∨q=1∨q=2) with rfl | rfl | rfl <;> first | rfl | exact absurd h (by decide)
theorem Zfz {p q:Nat} (hp:p<6) (hq:q<6) (h:symA p=symA q):p=q:=by
 rcases (by omega:p=0∨p=1∨p=2∨p=3∨p=4∨p=5) with rfl | rfl | rfl | rfl | rfl | rfl <;> rcases (by omega:q=0∨q=1∨q=2∨q=3∨q=4∨q=5) with rfl | rfl | rfl | rfl | rfl | rfl <;> first | rfl | exact absurd h (by decide)
theorem Zvp {θ:Nat→List Sym} {Nf:Names} {n:Nat} (hF:Zud θ Nf n) (m:List Bool) {x:At3} (hx:AtOk x) {N:Names} (hN:((atG x).syms N).2 <+: Nf):Zhh m (ap θ ((atG x).syms N).1)↔hA m n x=true:=by
 rw [Ygl hF hx hN]
 constructor
 ·rintro ⟨p,a,b,hp,ha,hb,e,hh⟩
  simp only [List.cons.injEq,Sym.mk.injEq,and_true] at e
  obtain ⟨e1,e2,e3⟩:=e
  have e1:=Yfq hx.1 hp e1
  have e2:=Zfz (by have:=Zgw n x.2.1; omega) (by omega) e2
  have e3:=Zfz (by have:=Zgw n x.2.2; omega) (by omega) e3
  unfold hA ixA
  rw [e1,e2,e3]
  exact hh
 ·intro h
  exact ⟨x.1,gA n x.2.1,gA n x.2.2,hx.1,Zgw _ _,Zgw _ _,rfl,h⟩
theorem Zpw {θ:Nat→List Sym} {Nf:Names} {n:Nat} (hF:Zud θ Nf n) (m:List Bool):∀ (l:List At3) (N:Names),(∀ x ∈ l,AtOk x)→(Zck (l.map atG) N).2 <+: Nf→((∀ t ∈ (Zck (l.map atG) N).1,Zhh m (ap θ t))↔hAll m n l=true):=by
 intro l
 induction l with
 | nil=>intro N _ _; simp [Zck,hAll]
 | cons x l ih =>
  intro N ho hN
  have h1:=Zvp hF m (ho x (by simp)) (N:=N) ((Zlf (l.map atG) ((atG x).syms N).2).1.trans hN)
  have h2:=ih ((atG x).syms N).2 (fun y hy=>ho y (by simp [hy])) hN
  unfold hAll at h2 ⊢
  simp only [List.map_cons,Zck,Qp,forall_eq_or_imp,List.all_cons,Bool.and_eq_true]
  rw [h1,h2]
theorem Yfr {R:List (At3 × List At3)} {m:List Bool} (hC:Yat R m) {r:At3 × List At3} (hr:r ∈ R) (ho:RlOk r):ClsM m (clOf (rlG r)):=fun θ hθ hb=>by
 obtain ⟨n,hn,hF⟩:=Yig hθ (Nf:=(Zck (r.2.map atG) ((atG r.1).syms []).2).2) ((Zlf _ _).2 ((Zle _ _).2 List.nodup_nil))
 have hbody:=(Zpw hF m r.2 _ ho.2.1 (List.prefix_refl _)).1 hb
 exact (Zvp hF m ho.1 (Zlf _ _).1).2 (hC r hr n hn hbody)
def ltr (Mf:List Nat) (t:List Sym):UInt8:=match t with
 | [s]=>if s.name=[] then UInt8.ofNat (65+Mf.idxOf s.num) else s.name.headD 0
 | _=>0
theorem Zvq (n:Nat) (met:List Nat):met <+: meet n met∧n ∈ meet n met∧(meet n met).idxOf n=met.idxOf n:=by
 unfold meet
 by_cases h:n ∈ met
 ·have:=List.idxOf_lt_length_iff.2 h
  rw [if_neg (by omega)]
  exact ⟨List.prefix_refl _,h,rfl⟩
 ·have h1:met.idxOf n=met.length:=by
   have h2:=List.idxOf_le_length (a:=n) (l:=met)
   have h3:¬ met.idxOf n<met.length:=fun e=>h (List.idxOf_lt_length_iff.1 e)
   omega
  rw [if_pos h1]
  refine ⟨List.prefix_append _ _,by simp,?_⟩
  rw [h1,List.idxOf_append,if_neg h]
  simp
theorem Yih {a b:List Nat} (h:a <+: b) {n:Nat} (hn:n ∈ a):b.idxOf n=a.idxOf n:=by
 obtain ⟨r,rfl⟩:=h
 rw [List.idxOf_append,if_pos hn]
theorem Zog:∀ (ts:List (List Sym)) (met:List Nat),(∀ t ∈ ts,F1 t)→met <+: (Zau ts met).2∧(Zau ts met).2.length≤met.length+ts.length:=by
 intro ts
 induction ts with
 | nil=>intro met _; exact ⟨List.prefix_refl _,by simp [Zau]⟩
 | cons t ts ih =>
  intro met hf
  obtain ⟨s,rfl,hs⟩:=hf t (by simp)
  have h:=ih (Zaq [s] met).2 (fun x hx=>hf x (by simp [hx]))
  have h1:met <+: (Zaq [s] met).2∧(Zaq [s] met).2.length≤met.length+1:=by
   simp only [Zaq]
   split
   ·refine ⟨(Zvq _ _).1,?_⟩
    unfold meet
    split <;> simp
   ·exact ⟨List.prefix_refl _,by simp⟩
  simp only [Zau,Qf]
  exact ⟨h1.1.trans h.1,by omega⟩
theorem Zyk:∀ (ts:List (List Sym)) (met Mf:List Nat),(∀ t ∈ ts,F1 t)→(Zau ts met).2 <+: Mf→Mf.length≤26 →
  (Zau ts met).1.map (fun t=>Zby t [])=ts.map (fun t=>[ltr Mf t])∧∀ t ∈ ts,∀ v,Occ v t→v ∈ Mf:=by
 intro ts
 induction ts with
 | nil=>intro met Mf _ _ _; exact ⟨rfl,by simp⟩
 | cons t ts ih =>
  intro met Mf hf hM h26
  obtain ⟨s,rfl,hs⟩:=hf t (by simp)
  have hf2:∀ t ∈ ts,F1 t:=fun x hx=>hf x (by simp [hx])
  simp only [Zau] at hM ⊢
  obtain ⟨i1,i2⟩:=ih (Zaq [s] met).2 Mf hf2 hM h26
  have hp:=(Zog ts (Zaq [s] met).2 hf2).1.trans hM
  by_cases hn:s.name=[]
  ·have hc:Zaq [s] met=([⟨[],met.idxOf s.num,s.args⟩],meet s.num met):=by simp [Zaq,hn]
   rw [hc] at hp i1
   simp only at hp
   obtain ⟨m1,m2,m3⟩:=Zvq s.num met
   have e1:=Yih hp m2
   have hmem:s.num ∈ Mf:=by obtain ⟨r,rfl⟩:=hp; simp [m2]
   have hlt:=List.idxOf_lt_length_iff.2 hmem
   refine ⟨?_,fun x hx v hv => ?_⟩
   ·rw [hc,List.map_cons,List.map_cons,i1]
    congr 1
    simp only [Zby,ltr,hn,hs.args]
    rw [← m3,← e1]
    simp [symC,Zbt,Zef]
    omega
   ·rcases Qp.1 hx with rfl | hx
    ·obtain ⟨u,hu,h1,h2⟩:=hv
     simp at hu
     subst hu
     rw [← h2]
     exact hmem
    ·exact i2 x hx v hv
  ·have hc:Zaq [s] met=([s],met):=by simp [Zaq,hn]
   rw [hc] at i1
   refine ⟨?_,fun x hx v hv => ?_⟩
   ·rw [hc,List.map_cons,List.map_cons,i1]
    congr 1
    obtain ⟨c,hc3,e⟩:=Ygk (hs.name.resolve_left hn)
    simp only [Zby,ltr,hs.args]
    simp [symC,Zbt,e]
   ·rcases Qp.1 hx with rfl | hx
    ·obtain ⟨u,hu,h1,h2⟩:=hv
     simp at hu
     subst hu
     exact absurd h1 hn
    ·exact i2 x hx v hv
def ansT:List UInt8→List Nat→List UInt8→List UInt8
 | sep,v::vs,b::bs=>sep++(symA v::61::b::ansT [44] vs bs)
 | _,_,_=>[]
def nmV (v:Nat):List UInt8:=[symA v]
theorem Ycq:∀ (vs:List Nat) (ts:List (List Sym)) (bs:List UInt8) (sep:List UInt8),ts.map (fun t=>Zby t [])=bs.map (fun b=>[b])→Zgj sep (vs.map nmV) ts=ansT sep vs bs:=by
 intro vs
 induction vs with
 | nil=>intro ts bs sep _; cases ts <;> cases bs <;> simp [Zgj,ansT]
 | cons v vs ih =>
  intro ts bs sep h
  cases ts with
  | nil =>
   cases bs with
   | nil=>simp [Zgj,ansT]
   | cons b bs=>simp at h
  | cons t ts =>
   cases bs with
   | nil=>simp at h
   | cons b bs =>
    simp only [List.map_cons,List.cons.injEq] at h
    simp only [List.map_cons,Zgj,ansT]
    rw [h.1,ih ts bs [44] h.2]
    rfl
def Zib (n:Nat) (vs:List Nat) (bs:List UInt8):Prop:=∀ (i v:Nat) (b:UInt8),vs[i]?=some v→bs[i]?=some b→((97≤b.toNat∧b.toNat≤122)→symA (gA n v)=b)∧∀ (k v':Nat) (b':UInt8),k<i→vs[k]?=some v'→bs[k]?=some b'→b=b'→gA n v=gA n v'
theorem Zue {c:Nat} (h:c<3):97≤(symA c).toNat∧(symA c).toNat≤122:=by
 rcases (by omega:c=0∨c=1∨c=2) with rfl | rfl | rfl <;> decide
theorem Zit {s:Sym} (hs:ArgS s) (hn:s.name=[]):[s]=vr s.num:=by
 have h2:=hs.args
 cases s
 simp only at hn h2
 subst hn h2
 rfl
theorem Yfs {vals:List (List Sym)} {Mf:List Nat} {n:Nat} {vs:List Nat} (hF:∀ t ∈ vals,F1 t) (hw:∀ t ∈ vals,Wf 1 t) (hl:vs.length=vals.length) (hi:Zib n vs (vals.map (ltr Mf))):∃ θ,Gnd θ∧vals.map (ap θ)=vs.map (fun v=>cst (gA n v)):=by
 have key:∀ u:Nat,∃ c,c<3∧∀ (i v:Nat),vals[i]?=some (vr u)→vs[i]?=some v→gA n v=c:=by
  intro u
  by_cases h:∃ i:Nat,vals[i]?=some (vr u)
  ·obtain ⟨i,hi0⟩:=h
   have hil:=(Qa.1 hi0).1
   obtain ⟨v0,hv0⟩:∃ v0,vs[i]?=some v0:=⟨_,Qb (by omega)⟩
   refine ⟨gA n v0,Zgw _ _,fun j v hj hv => ?_⟩
   have bi:(vals.map (ltr Mf))[i]?=some (ltr Mf (vr u)):=by rw [Qj,hi0]; rfl
   have bj:(vals.map (ltr Mf))[j]?=some (ltr Mf (vr u)):=by rw [Qj,hj]; rfl
   rcases Nat.lt_trichotomy i j with h | h | h
   ·exact (hi j v _ hv bj).2 i v0 _ h hv0 bi rfl
   ·subst h
    rw [hv] at hv0
    simp at hv0
    rw [hv0]
   ·exact ((hi i v0 _ hv0 bi).2 j v _ h hv bj rfl).symm
  ·exact ⟨0,by omega,fun i v hi0 _=>absurd ⟨i,hi0⟩ h⟩
 refine ⟨fun u=>cst (Classical.choose (key u)),fun u=>⟨_,(Classical.choose_spec (key u)).1,rfl⟩,?_⟩
 refine List.ext_getElem? (fun i => ?_)
 rw [Qj,Qj]
 by_cases hil:i<vals.length
 ·obtain ⟨t,ht⟩:∃ t,vals[i]?=some t:=⟨_,Qb hil⟩
  obtain ⟨v,hv⟩:∃ v,vs[i]?=some v:=⟨_,Qb (by omega)⟩
  rw [ht,hv]
  simp only [Option.map_some,Qo]
  have htm:=Qh ht
  obtain ⟨s,rfl,hs⟩:=hF t htm
  by_cases hn:s.name=[]
  ·rw [Zit hs hn] at ht ⊢
   rw [Zku,(Classical.choose_spec (key s.num)).2 i v ht hv]
  ·obtain ⟨c,hc,e⟩:=Zpv hs (hw _ htm) hn
   rw [e] at ht ⊢
   have bi:(vals.map (ltr Mf))[i]?=some (symA c):=by rw [Qj,ht]; simp [cst,ltr]
   have h1:=(hi i v _ hv bi).1 (Zue hc)
   have h2:=Zfz (by have:=Zgw n v; omega) (by omega) h1
   rw [h2,cst,Zay,Zer]
   simp [ap1]
 ·rw [List.getElem?_eq_none (by omega),List.getElem?_eq_none (by omega)]
  rfl
def addV (out:List Nat) (a:Nat):List Nat:=if a<3∨a ∈ out then out else out++[a]
def askF (out:List Nat) (x:At3):List Nat:=addV (addV out x.2.1) x.2.2
def askV (l:List At3):List Nat:=l.foldl askF []
theorem Ycr {out:List Nat} {a:Nat} (h:∀ v ∈ out,3≤v∧v<6) (ha:a<6):∀ v ∈ addV out a,3≤v∧v<6:=by
 intro v hv
 unfold addV at hv
 split at hv
 ·exact h v hv
 ·rename_i hn
  rcases Qk.1 hv with hv | hv
  ·exact h v hv
  ·simp at hv
   subst hv
   exact ⟨by omega,ha⟩
theorem Zsf {out:List Nat} {i:Nat} (h:∀ v ∈ out,3≤v∧v<6) (hi:i<6):((argT i).syms (out.map nmV)).2=(addV out i).map nmV:=by
 unfold argT addV
 by_cases h3:i<3
 ·rw [if_pos h3,if_pos (Or.inl h3)]
  rfl
 ·rw [if_neg h3]
  show (Zbb (out.map nmV) [symA i]).1=_
  unfold Zbb
  by_cases hm:i ∈ out
  ·have n1:i<3∨i ∈ out:=Or.inr hm
   have n2:[symA i] ∈ out.map nmV:=List.mem_map.2 ⟨i,hm,rfl⟩
   rw [if_pos n1,if_pos n2]
  ·have n1:¬ (i<3∨i ∈ out):=fun e=>by
    rcases e with e | e
    ·exact h3 e
    ·exact hm e
   have n2:[symA i] ∉ out.map nmV:=fun e=>by
    obtain ⟨v,hv,e⟩:=List.mem_map.1 e
    simp only [nmV,List.cons.injEq,and_true] at e
    have:=Zfz (h v hv).2 hi e
    exact hm (this ▸ hv)
   rw [if_neg n1,if_neg n2]
   simp [nmV]
theorem Zmu:∀ (l:List At3) (out:List Nat),(∀ x ∈ l,AtOk x)→(∀ v ∈ out,3≤v∧v<6)→(Zck (l.map atG) (out.map nmV)).2=(l.foldl askF out).map nmV∧∀ v ∈ l.foldl askF out,3≤v∧v<6:=by
 intro l
 induction l with
 | nil=>intro out _ h; exact ⟨rfl,h⟩
 | cons x l ih =>
  intro out ho h
  obtain ⟨P,A,B⟩:=x
  have hx:=ho (P,A,B) (by simp)
  have h1:=Zsf h hx.2.1
  have k1:=Ycr h hx.2.1
  have h2:=Zsf k1 hx.2.2
  have k2:=Ycr k1 hx.2.2
  have e:((atG (P,A,B)).syms (out.map nmV)).2=(askF out (P,A,B)).map nmV:=by
   show ((argT B).syms ((argT A).syms (out.map nmV)).2).2=_
   rw [h1]
   exact h2
  simp only [List.map_cons,Zck,List.foldl_cons]
  rw [e]
  exact ih _ (fun y hy=>ho y (by simp [hy])) k2
theorem Zvr (out:List Nat) (a:Nat):(addV out a).length≤out.length+1:=by unfold addV; split <;> simp
theorem Zlg (l:List At3):(askV l).length≤2 * l.length:=by
 have key:∀ (l:List At3) (out:List Nat),(l.foldl askF out).length≤out.length+2 * l.length:=by
  intro l
  induction l with
  | nil=>intro out; simp
  | cons x l ih =>
   intro out
   have:=ih (askF out x)
   have h1:=Zvr out x.2.1
   have h2:=Zvr (addV out x.2.1) x.2.2
   simp only [List.foldl_cons,Qf]
   unfold askF at this ⊢
   omega
 have:=key l []
 simpa [askV] using this
theorem Ycs:∀ (R:List (At3 × List At3)),(∀ r ∈ R,RlOk r)→(Zde (R.map rlG)).length≤40 * R.length:=by
 intro R
 induction R with
 | nil=>intro _; simp [Zde]
 | cons y R ih =>
  intro hl
  have h1:=ih (fun z hz=>hl z (by simp [hz]))
  have h2:=(hl y (by simp)).2.2
  have h3:(clT (rlG y).1 (rlG y).2).length≤40:=by
   show (clT (atG y.1) (y.2.map atG)).length≤40
   have h6:(atG y.1).text.length=6:=Zhl _ _ _
   by_cases hb:y.2.map atG=[]
   ·rw [hb]
    simp only [clT,Qg,Qn]
    omega
   ·rw [Zpi _ _ hb]
    have h5:=Zjg y.2
    simp only [Qg,Qf,Jt]
    omega
  simp only [List.map_cons,Zde,List.flatMap_cons,Qg,Qf] at h1 ⊢
  omega
theorem Zyl {R:List (At3 × List At3)} (h:∀ r ∈ R,RlOk r):∀ c ∈ R.map rlG,ClFine c:=fun c hc=>by
 obtain ⟨y,hy,rfl⟩:=List.mem_map.1 hc
 have ho:=h y hy
 refine ⟨Zhy _ _ _ ho.1.1 ho.1.2.1 ho.1.2.2,fun t ht => ?_,by have:=ho.2.2; simp [rlG]; omega⟩
 obtain ⟨z,hz,rfl⟩:=List.mem_map.1 ht
 have:=ho.2.1 z hz
 exact Zhy _ _ _ this.1 this.2.1 this.2.2
theorem Zoh {R:List (At3 × List At3)} (h:∀ r ∈ R,RlOk r) (hl:R.length≤8):Zdb ⟨(Zde (R.map rlG)).toArray⟩=some ((R.map rlG).map clOf) :=
 Zmh _ (Zyl h) (by simp; omega) (by have:=Ycs R h; omega)
theorem Yct {l:List At3} (h:∀ x ∈ l,AtOk x) (h1:1≤l.length) (h2:l.length≤2):Zex ⟨(Zfo (l.map atG)++[46]).toArray⟩=some (Zck (l.map atG) []):=by
 have h5:=Zjg l
 cases l with
 | nil=>simp at h1
 | cons x l =>
  have hx:∀ y ∈ x::l,(atG y).fine=true:=fun y hy=>by
   have:=h y hy
   exact Zhy _ _ _ this.1 this.2.1 this.2.2
  simp only [Qf] at h2 h5
  refine Zno (atG x) (l.map atG) (hx x (by simp)) (fun u hu => ?_) (by simp; omega) ?_
  ·obtain ⟨z,hz,rfl⟩:=List.mem_map.1 hu
   exact hx z (by simp [hz])
  ·have:(Zfo ((x::l).map atG)).length≤14:=by omega
   simp only [List.map_cons,Zfo] at this
   simp only [Qg,Qf,Jt]
   omega
def Zkw (vs:List Nat) (bs:List UInt8):List UInt8:=if vs=[] then [121,101,115] else ansT [] vs bs
theorem Yjq {l:List At3} (hl:∀ x ∈ l,AtOk x):FFn (topN (Zck (l.map atG) [])):=by
 obtain ⟨h3,_⟩:=Zub l [] hl
 refine ⟨fun g hg => ?_,fun v hv => ?_,fun g hg=>by simp [topN] at hg⟩
 ·simp only [topN,List.mem_map] at hg
  obtain ⟨t,ht,rfl⟩:=hg
  exact h3 t ht
 ·simp only [topN,List.mem_map] at hv
  obtain ⟨i,_,rfl⟩:=hv
  exact Zml i
theorem Ycu {R:List (At3 × List At3)} (hR:∀ r ∈ R,RlOk r) (hl:R.length≤8):∀ c ∈ (R.map rlG).map clOf,COk c∧FFc c∧ClsM (Zdu R) c:=by
 have hp:=Zoh hR hl
 obtain ⟨_,_,_,hcs,_⟩:=Zej hp
 intro c hc
 have hc2:=hc
 simp only [List.map_map,List.mem_map,Function.comp] at hc2
 obtain ⟨r,hr,rfl⟩:=hc2
 obtain ⟨h1,_⟩:=Yfp (hR r hr).1 []
 obtain ⟨h3,_⟩:=Zub r.2 ((atG r.1).syms []).2 (hR r hr).2.1
 exact ⟨(hcs _ hc).1,⟨h1,h3⟩,Yfr (Zpk R hR) hr (hR r hr)⟩
theorem Zvs {l:List At3} (hl:∀ x ∈ l,AtOk x) {M:List Bool} {n:Nat} {θ:Nat→List Sym} (ev:(topN (Zck (l.map atG) [])).vals.map (ap θ)=(askV l).map (fun v=>cst (gA n v))):(∀ g ∈ (topN (Zck (l.map atG) [])).goals,Zhh M (ap θ g.1))↔hAll M n l=true:=by
 obtain ⟨e1,e2⟩:=Zmu l [] hl (by simp)
 have hF:Zud θ (Zck (l.map atG) []).2 n:=by
  intro j i hj hi
  have e1':(Zck (l.map atG) []).2=(askV l).map nmV:=e1
  rw [e1',Qj,Option.map_eq_some_iff] at hi
  obtain ⟨v,hv,e⟩:=hi
  simp only [nmV,List.cons.injEq,and_true] at e
  have hve:=Zfz (e2 v (Qh hv)).2 (by omega) e
  have hvl:=(Qa.1 hv).1
  have h1:=congrArg (fun z=>z[i]?) ev
  simp only [topN,Qj,hv,Option.map_some] at h1
  rw [List.getElem?_range (by rw [e1']; simpa using hvl)] at h1
  simp only [Option.map_some,Qo] at h1
  rw [Zku] at h1
  rw [h1,hve]
  unfold gA
  rw [if_neg (by omega),Nat.add_sub_cancel_left]
 rw [← Zpw hF M l [] hl (List.prefix_refl _)]
 simp only [topN,List.mem_map]
 constructor
 ·intro h t ht
  exact h (t,0) ⟨t,ht,rfl⟩
 ·rintro h _ ⟨t,ht,rfl⟩
  exact h t ht
def BldP (w0:World) (v1:Value) (w1:World):List Value→World→Prop
 | [],y=>y=w0
 | v::_,y=>v=v1∧y=w1
structure OutAt (w u:World) (tb A B:Nat) (sv:Value) (out:List Nat):Prop where
 owns:u.ownsRow w.heap.size 3 1 sv out.length (ints out)
 ext:Ext w u
 box:u.heap[tb]?=some (.cells #[.int .i64 A,.int .i64 B] 3 (0,0))
 far:∀ k,Zbl sv k→k≠tb
theorem OutAt.drewN {w u:World} {tb A B:Nat} {sv:Value} {out:List Nat} (h:OutAt w u tb A B sv out) (n:Nat):OutAt w (u.drewN n) tb A B sv out :=
 ⟨Zal h.owns (fun k hk=>rfl),Zdg h.ext n,h.box,h.far⟩
theorem Zuf {l:List Nat} {j v:Nat} (h:l[j]?=some v):(ints l)[j]?=some (.int .i64 v):=by unfold ints; rw [Qj,h]; rfl
set_option maxHeartbeats 8000000 in
theorem Zsg (w:World) (a:Option Addr) (c:Nat) (l:List At3) (h:AtomsIn w (.slice a l.length c) l) (hl:l.length≤100):Calls Tryz.prog 46 #[.slice a l.length c] w fun e w'=>∃ (va:Option Addr) (vc:Nat),e = .returned (.slice va (askV l).length vc)∧w'.ownsRow w.heap.size 3 1 (.slice va (askV l).length vc) (askV l).length (ints (askV l))∧Ext w w':=by
 have H:Hid (∀ u,Ext w u→AtomsIn u (.slice a l.length c) l):=fun u hu=>h.ext hu
 have HO:=Zac h.ok
 clear h
 go_enter Tryz.func46,Tryz.ntmps46
 go_wp2
 go_loopw [3,4] (fun sv i u=>∃ (k:Nat) (va:Option Addr) (vc:Nat) (out:List Nat),k≤l.length∧i = .int .i64 k∧out=(l.take k).foldl askF []∧sv = .slice va out.length vc∧u.ownsRow w.heap.size 3 1 (.slice va out.length vc) out.length (ints out)∧Ext w u) (fun _ i _=>l.length - (intOf i).toNat)
 case atStart=>exact ⟨0,none,0,[],Qm _,rfl,rfl,rfl,World.ownsRow_nil _ _ _ _,Below.refl _ _⟩
 case round =>
  obtain ⟨k,va,vc,out,hk,rfl,hout,rfl,hrow,hEu⟩:=hrel
  by_cases hlt:k<l.length
  ·obtain ⟨x,hx⟩:∃ x,l[k]?=some x:=⟨_,Qb hlt⟩
   obtain ⟨P,A,B⟩:=x
   have Hnext:Hid ((l.take (k+1)).foldl askF []=addV (addV out A) B):=Zac (by rw [List.take_add_one,hx,List.foldl_append,← hout]; rfl)
   obtain ⟨g,rfl,hg,d0,d1,d2⟩:=(H.out wr hEu).cells hx
   obtain ⟨o1,o2,o3⟩:=HO.out _ (Qh hx)
   simp only at d0 d1 d2 o1 o2 o3
   have hol:out.length≤2 * k:=by
    have:=Zlg (l.take k)
    rw [List.length_take] at this
    rw [hout]
    show (askV (l.take k)).length≤_
    omega
   obtain ⟨tb,htb⟩:∃ tb,tb=wr.heap.size:=⟨_,rfl⟩
   obtain ⟨U1,hU1⟩:∃ U1,U1=wr.drew.alloc (.cells #[.int .i64 A,.int .i64 B] 3):=⟨_,rfl⟩
   have HO1:Hid (OutAt w U1 tb A B (.slice va out.length vc) out):=by
    have e1:Ext wr U1:=by rw [hU1]; exact (Ext.of (by repeat' (first | with_reducible(first|exact Qx _ _|apply Kept.drew|apply Kept.drewN|apply Qz|refine Qy ?_ ?_ _)|exact fun h=>absurd h (by simp <;> omega))))
    refine ⟨Zal hrow (fun j hj=>e1.block j (hrow.lt j hj).2),Zaj hEu e1,by rw [hU1,htb]; exact heap_alloc_new _ _,fun j hj e=>by have:=(hrow.lt j hj).2; omega⟩
   have HU1:=Zac hU1
   have Htb:=Zac htb
   have HEu:=Zac hEu
   have Hout:=Zac hout
   clear hrow hEu hx hout hU1 htb
   go_wp2_with fail
   refine Zeu (by kernel_rfl) [.rd 0 0 (fun _ => .slice (some ⟨g,0,none⟩) l.length c),.rd 0 0 (fun _ => .int .i64 k),.rd 0 0 (fun _ => .pointer (some ⟨g,k * 3,none⟩)),.rd 0 0 (fun _ => .pointer (some ⟨g,k * 3+1,none⟩)),.rd 0 0 (fun _ => .int .i64 A),.rd 0 0 (fun _ => .slice (some ⟨g,0,none⟩) l.length c),.rd 0 0 (fun _ => .int .i64 k),.rd 0 0 (fun _ => .pointer (some ⟨g,k * 3,none⟩)),.rd 0 0 (fun _ => .pointer (some ⟨g,k * 3+2,none⟩)),.rd 0 0 (fun _ => .int .i64 B),.st 0,.rd 1 1 (fun vs=>vs.getD 0 undef)] 1 12 (by kernel_rfl)
    (BldP wr.drew (.slice (some ⟨tb,0,none⟩) 2 2) U1) rfl ?_ ?_
   ·refine ⟨⟨trivial,fun vs y hlo hl hS => ?_⟩,⟨trivial,fun vs y hlo hl hS => ?_⟩,⟨trivial,fun vs y hlo hl hS => ?_⟩,⟨trivial,fun vs y hlo hl hS => ?_⟩,⟨trivial,fun vs y hlo hl hS => ?_⟩,⟨trivial,fun vs y hlo hl hS => ?_⟩,⟨trivial,fun vs y hlo hl hS => ?_⟩,⟨trivial,fun vs y hlo hl hS => ?_⟩,⟨trivial,fun vs y hlo hl hS => ?_⟩,⟨trivial,fun vs y hlo hl hS => ?_⟩,⟨trivial,fun vs y hl hS => ?_⟩,⟨trivial,fun vs y hlo hl hS => ?_⟩,trivial⟩
    all_goals try (obtain rfl:=List.length_eq_zero_iff.1 (Nat.le_zero.1 hl); obtain rfl:y=wr.drew:=hS; simp [phAll,phA,pa,Ph.kd,Ph.val,Kd.val,go_sem,d0,d1,d2,hg,hlt]; done)
    ·obtain rfl:=List.length_eq_zero_iff.1 hl
     obtain rfl:y=wr.drew:=hS
     exact .value _ _ (by simp [phAll,phA,pa,Ph.kd,Ph.val,Kd.val,go_sem]; exact ⟨Htb.out.symm,by rw [HU1.out]; rfl⟩) ⟨rfl,rfl⟩
    ·obtain ⟨v,rfl⟩:=List.length_eq_one_iff.1 (show vs.length=1 by omega)
     simp [phAll,phA,pa,Ph.kd,Ph.val,Kd.val,go_sem]
   rintro vs y hl2 hS
   obtain ⟨v,rfl⟩:=List.length_eq_one_iff.1 hl2
   obtain ⟨rfl,rfl⟩:=hS
   simp only [phAll,phA,paAll,pa,Ph.kd,Ph.val,Kd.val,List.map_cons,List.map_nil,if_true,Act.put,List.setIfInBounds_toArray,List.set_cons_succ,List.set_cons_zero,List.take_succ_cons,List.take_zero,List.getD_cons_zero]
   have HltI:decide ((k:Int)<(l.length:Int))=true:=by simp only [decide_eq_true_eq]; omega
   clear d0 d1 d2 hg
   go_wp2
   go_loopw [3,6] (fun sv i u=>∃ (q:Nat) (va:Option Addr) (vc:Nat) (o1:List Nat),q≤2∧i = .int .i64 q∧o1=([A,B].take q).foldl addV out∧o1.length≤out.length+q∧sv = .slice va o1.length vc∧OutAt w u tb A B (.slice va o1.length vc) o1) (fun _ i _=>2 - (intOf i).toNat)
   case atStart=>exact ⟨0,va,vc,out,by omega,rfl,rfl,by omega,rfl,HO1.out⟩
   case round =>
    obtain ⟨q,va1,vc1,out1,hq,rfl,hout1,hl1,rfl,hO⟩:=hrel
    by_cases hq2:q<2
    ·obtain ⟨t,ht⟩:∃ t,[A,B][q]?=some t:=⟨_,Qb (by simpa using hq2)⟩
     have ht6:t<6:=by
      rcases (by omega:q=0∨q=1) with rfl | rfl
      ·simp at ht; omega
      ·simp at ht; omega
     have Hout2:Hid (([A,B].take (q+1)).foldl addV out=addV out1 t):=Zac (by rw [List.take_add_one,ht,List.foldl_append,← hout1]; rfl)
     have hbt:(#[Value.int .i64 A,Value.int .i64 B])[q]?=some (.int .i64 t):=by
      rcases (by omega:q=0∨q=1) with rfl | rfl
      ·simp at ht; simp [ht]
      ·simp at ht; simp [ht]
     have Hcell:Hid (∀ u:World,u.heap[tb]?=some (.cells #[.int .i64 A,.int .i64 B] 3 (0,0))→u.cell? ⟨tb,q,none⟩=some (.int .i64 t)∧tb<u.heap.size):=fun u hu=>⟨Zaa hu q _ hbt,Zab hu⟩
     obtain ⟨c0,cl⟩:=Hcell.out wr hO.box
     obtain ⟨b3,hb3⟩:∃ b3:Bool,b3=decide ((t:Int)<3):=⟨_,rfl⟩
     have Hb3:Hid (b3=true↔t<3):=by rw [hb3,decide_eq_true_eq]; show _↔_; omega
     have hb3':decide ((t:Int)<3)=b3:=hb3.symm
     have HO2:=Zac hO
     have Hout1:=Zac hout1
     clear hO hbt ht hout1 hb3
     obtain ⟨wq,hwq⟩:∃ wq,wq=wr:=⟨_,rfl⟩
     rw [← hwq] at HO2 c0 cl ⊢
     clear hwq
     clear wr
     have hqd:decide ((q:Int)<2)=true:=by simp only [decide_eq_true_eq]; omega
     go_wp2
     go_loopw [7,8] (fun sv i u=>∃ (j:Nat) (bs:Bool),j≤out1.length∧i = .int .i64 j∧sv = .bool bs∧(bs=true↔(t<3∨t ∈ out1.take j))∧OutAt w u tb A B (.slice va1 out1.length vc1) out1) (fun _ i _=>out1.length - (intOf i).toNat)
     case atStart=>exact ⟨0,b3,Qm _,rfl,rfl,by rw [Hb3.out]; simp,HO2.out⟩
     case round =>
      obtain ⟨j,bs,hj,rfl,rfl,hbs,hO3⟩:=hrel
      have Hbs:=Zac hbs
      have HO3:=Zac hO3
      clear hbs
      by_cases hjl:j<out1.length
      ·obtain ⟨v,hv⟩:∃ v,out1[j]?=some v:=⟨_,Qb hjl⟩
       have htk:t ∈ out1.take (j+1)↔(t ∈ out1.take j∨t=v):=by rw [List.take_add_one,hv]; simp
       obtain ⟨og,hog,hogl,oc⟩:∃ og,va1=some ⟨og,0,none⟩∧og<wr.heap.size∧wr.cell? ⟨og,j,none⟩=some (.int .i64 v):=by
        rcases hO3.owns.2 with ⟨h1,h2⟩ | ⟨og,cap,cur,h1,_⟩
        ·omega
        ·simp only [Value.slice.injEq] at h1
         obtain ⟨rfl,_,rfl⟩:=h1
         exact ⟨og,rfl,(hO3.owns.lt og rfl).2,Zag hO3.owns _ _ (Zuf hv)⟩
       obtain ⟨e0,el⟩:=Hcell.out wr hO3.box
       subst hog
       have Htk:=Zac htk
       clear hO3 hv htk c0 cl
       cases bs with
       | true =>
        go_wp2_with fail
        go_quiet (fail)
        go_wp2
        go_roundw
        case rel=>exact ⟨j+1,true,by omega,by go_num,rfl,by rw [Htk.out]; have:=Hbs.out; simp at this ⊢; rcases this with h | h <;> simp [h],HO3.out.drewN _⟩
        case measure=>simp [intOf]; omega
       | false =>
        obtain ⟨b4,hb4⟩:∃ b4:Bool,((v:Int) == (t:Int))=b4:=⟨_,rfl⟩
        have Hb4:Hid (b4=true↔v=t):=by
         show _↔_
         rw [← hb4,beq_iff_eq]
         omega
        go_wp2_with fail
        go_quiet (fail)
        go_wp2
        go_roundw
        case rel =>
         refine ⟨j+1,b4,by omega,by go_num,rfl,?_,HO3.out.drewN _⟩
         rw [Htk.out,Hb4.out]
         have:=Hbs.out
         simp at this
         constructor
         ·intro e
          exact Or.inr (Or.inr e.symm)
         ·rintro (h | h | h)
          ·omega
          ·exact absurd h this.2
          ·exact h.symm
        case measure=>simp [intOf]; omega
      ·obtain rfl:j=out1.length:=by omega
       rw [List.take_length] at Hbs
       obtain ⟨e0,el⟩:=Hcell.out wr hO3.box
       clear hO3 c0 cl
       cases bs with
       | true =>
        have Ha:Hid (addV out1 t=out1):=Zac (by unfold addV; rw [if_pos (Hbs.out.1 rfl)])
        go_wp2
        go_roundw
        case rel=>exact ⟨q+1,va1,vc1,out1,by omega,by go_num,by rw [Hout2.out,Ha.out],by omega,rfl,HO3.out⟩
        case measure=>simp [intOf]; omega
       | false =>
        have Ha:Hid (addV out1 t=out1++[t]):=Zac (by unfold addV; rw [if_neg (fun e=>by have:=Hbs.out.2 e; simp at this)])
        have HrU:=Zac HO3.out.owns
        have hbw:w.heap.size≤wr.heap.size:=HO3.out.ext.size
        go_wp2_with (at_builtin; go_loud (refine Zam wr rfl (.tmp 55) (.tmp 60) 25 rfl w.heap.size 3 Tryz.infoInt Tryz.underlying25 rfl (by decide) (.slice va1 out1.length vc1) out1.length (ints out1) rfl HrU.out #[.int .i64 t] (N:=wr.heap.size) rfl rfl rfl (Zlk _) ?_ ?_ ?_))
        ·omega
        ·omega
        intro v4 w4 hA4
        obtain ⟨a4,c4,rfl⟩:=Zad hA4.owns
        have Hend:Hid (OutAt w w4 tb A B (.slice a4 (out1++[t]).length c4) (out1++[t])):=by
         have hfar:¬ Zbl (.slice va1 out1.length vc1) tb:=fun e=>HO3.out.far tb e rfl
         have k1:Ext w wr:=HO3.out.ext
         refine ⟨by simpa [ints] using hA4.owns,?_,(hA4.kept.block tb el hfar).trans HO3.out.box,fun j hj e => ?_⟩
         ·exact ⟨hA4.kept.os.trans k1.os,hA4.kept.tape.trans k1.tape,hA4.kept.output.trans k1.output,Qq k1.size hA4.kept.size,fun i hi=>(hA4.kept.block i (by omega) (fun e=>by have:=(HrU.out.lt i e).1; omega)).trans (k1.block i hi)⟩
         ·subst e
          have hj:Zbl (.slice a4 (out1.length+1) c4) j:=by
           have h5:=hj
           simp only [Qg,Qf,Jt] at h5
           exact h5
          rcases hA4.where_ with hw | ⟨g2,hw,hg2⟩
          ·exact hfar (hw.symm.trans hj)
          ·have:some g2=some j:=hw.symm.trans hj
           simp only [Qo] at this
           omega
        clear hA4
        go_wp2
        go_roundw
        case rel=>exact ⟨q+1,a4,c4,out1++[t],by omega,by go_num,by rw [Hout2.out,Ha.out],by simp; omega,by simp,Hend.out⟩
        case measure=>simp [intOf]; omega
    ·obtain rfl:q=2:=by omega
     have Hend:Hid (out1=(l.take (k+1)).foldl askF []):=Zac (by rw [Hnext.out,hout1]; rfl)
     have Ho:=Zac hO
     clear hO hout1
     go_wp2
     go_roundw
     case rel=>exact ⟨k+1,va1,vc1,out1,by omega,by go_num,Hend.out,rfl,Ho.out.owns,Ho.out.ext⟩
     case measure=>simp [intOf]; omega
  ·obtain rfl:k=l.length:=by omega
   have Hf:Hid (out=askV l):=Zac (by rw [hout,List.take_length]; rfl)
   have Hrow:=Zac hrow
   have HEu:=Zac hEu
   clear hrow hEu hout
   go_wp2
   go_ret
   exact ⟨va,vc,by rw [← Hf.out]; rfl,by rw [← Hf.out]; exact Hrow.out,HEu.out⟩
theorem Ycv:∀ (vs:List Nat) (bs:List UInt8),bs.length=vs.length→(ansT [44] vs bs).length=4 * vs.length:=by
 intro vs
 induction vs with
 | nil=>intro bs _; cases bs <;> simp [ansT]
 | cons v vs ih =>
  intro bs h
  cases bs with
  | nil=>simp at h
  | cons b bs =>
   have:=ih bs (by simpa using h)
   simp only [ansT,Qg,Qf,Jt,this]
   omega
theorem Yft:∀ (vs:List Nat) (bs:List UInt8) (i v:Nat) (b:UInt8),vs[i]?=some v→bs[i]?=some b→(ansT [44] vs bs)[4 * i]?=some 44∧(ansT [44] vs bs)[4 * i+1]?=some (symA v)∧(ansT [44] vs bs)[4 * i+2]?=some 61∧(ansT [44] vs bs)[4 * i+3]?=some b:=by
 intro vs
 induction vs with
 | nil=>intro bs i v b h; simp at h
 | cons x vs ih =>
  intro bs i v b hv hb
  cases bs with
  | nil=>simp at hb
  | cons y bs =>
   cases i with
   | zero =>
    simp at hv hb
    subst hv hb
    simp [ansT]
   | succ i =>
    simp at hv hb
    obtain ⟨h1,h2,h3,h4⟩:=ih bs i v b hv hb
    simp only [ansT,List.cons_append,List.nil_append,show 4 * (i+1)=4 * i+1+1+1+1 by omega,List.getElem?_cons_succ]
    exact ⟨h1,h2,h3,h4⟩
theorem Zvt {vs:List Nat} {bs:List UInt8} (hv:vs≠[]) (hl:bs.length=vs.length):ansT [44] vs bs=44::ansT [] vs bs:=by
 cases vs with
 | nil=>exact absurd rfl hv
 | cons v vs =>
  cases bs with
  | nil=>simp at hl
  | cons b bs=>simp [ansT]
theorem Ycw {vs:List Nat} {bs:List UInt8} (hl:bs.length=vs.length) {i v:Nat} {b:UInt8} (hv:vs[i]?=some v) (hb:bs[i]?=some b):(ansT [] vs bs)[4 * i]?=some (symA v)∧(ansT [] vs bs)[4 * i+1]?=some 61∧(ansT [] vs bs)[4 * i+2]?=some b∧(0<i→(ansT [] vs bs)[4 * i - 1]?=some 44):=by
 have hne:vs≠[]:=fun e=>by rw [e] at hv; simp at hv
 obtain ⟨h1,h2,h3,h4⟩:=Yft vs bs i v b hv hb
 rw [Zvt hne hl] at h1 h2 h3 h4
 simp only [List.getElem?_cons_succ] at h2 h3 h4
 refine ⟨h2,h3,h4,fun h0 => ?_⟩
 rw [show 4 * i=4 * i - 1+1 by omega,List.getElem?_cons_succ] at h1
 exact h1
theorem Yii {vs:List Nat} {bs:List UInt8} (hv:vs≠[]) (hl:bs.length=vs.length):(ansT [] vs bs).length+1=4 * vs.length:=by
 have:=Ycv vs bs hl
 rw [Zvt hv hl] at this
 simpa using this
theorem Ygm {v:Nat} (h:v<6):∃ hk:v<(⟨#[97,98,99,88,89,90]⟩:ByteArray).size,(⟨#[97,98,99,88,89,90]⟩:ByteArray)[v]=symA v:=by
 rcases (by omega:v=0∨v=1∨v=2∨v=3∨v=4∨v=5) with rfl | rfl | rfl | rfl | rfl | rfl <;> exact ⟨by decide,rfl⟩
theorem Yfu {s:ByteArray} {k:Nat} (h:k<s.size) {c:UInt8} (hc:s[k]=c):s.extract k (k+1)=⟨[c].toArray⟩:=by
 subst hc
 rw [Lib.extract_eq]
 have hl:k<s.data.toList.length:=by simpa using h
 have e:(s.data.toList.drop k).take (k+1 - k)=[s[k]]:=by
  rw [List.drop_eq_getElem_cons hl,show k+1 - k=1 by omega]
  rfl
 first
  | (rw [e])
  | (congr 1; apply Array.ext'; simpa using e)
  | simp [e]
theorem Yjr (d:Nat) (h:d≤100):IntKind.i64.wrap ((d:Int)+1)=(d:Int)+1∧IntKind.i64.wrap ((d:Int)+2)=(d:Int)+2∧IntKind.i64.wrap ((d:Int)+3)=(d:Int)+3∧IntKind.i64.wrap ((d:Int) - 1)=(d:Int) - 1:=by
 rw [IntKind.wrap_i64,IntKind.wrap_i64,IntKind.wrap_i64,IntKind.wrap_i64]
 omega
theorem Ycx {l:List At3} (h:∀ x ∈ l,AtOk x):∀ v ∈ askV l,3≤v∧v<6:=(Zmu l [] h (by simp)).2
set_option maxHeartbeats 8000000 in
theorem Zoi (w:World) (a:Option Addr) (c:Nat) (l:List At3) (h:AtomsIn w (.slice a l.length c) l) (hl:l.length≤2) (bs:List UInt8) (hb:bs.length=(askV l).length):Calls Tryz.prog 26 #[.slice a l.length c,.string ⟨(Zkw (askV l) bs).toArray⟩] w fun e w'=>e = .returned (.tuple #[.string ⟨bs.toArray⟩,.bool true])∧Ext w w':=by
 have HK:=Zac (Zsg w a c l h (by omega))
 have hvok:=Ycx h.ok
 have hvl:=Zlg l
 obtain ⟨vs,hvs⟩:∃ vs,vs=askV l:=⟨_,rfl⟩
 rw [← hvs] at HK hvok hvl hb ⊢
 have Hvok:=Zac hvok
 clear h hvs hvok
 by_cases h0:vs=[]
 ·subst h0
  have hb0:bs=[]:=List.length_eq_zero_iff.1 (by simpa using hb)
  subst hb0
  have e:Zkw [] []=[121,101,115]:=rfl
  rw [e]
  go_enter Tryz.func26,Tryz.ntmps26
  go_wp2_with fail
  refine HK.out.mono ?_
  rintro e w1 ⟨va,vc,rfl,hrow,hE⟩
  have HE:=Zac hE
  clear hrow hE
  go_wp2
  refine bodyPost_ret (v := .tuple #[.string ⟨#[]⟩,.bool true]) (by simp [results,Tryz.results26,go_sem]) rfl ?_
  exact ⟨rfl,HE.out⟩
 ·obtain ⟨S,hS⟩:∃ S:ByteArray,S=⟨(Zkw vs bs).toArray⟩:=⟨_,rfl⟩
  have hST:S.data.toList=ansT [] vs bs:=by rw [hS]; unfold Zkw; rw [if_neg h0]
  have hSz:S.size+1=4 * vs.length:=by
   have:=Yii h0 hb
   rw [← hST] at this
   simpa using this
  have hv1:1≤vs.length:=by
   cases vs with
   | nil=>exact absurd rfl h0
   | cons v vs=>simp
  have HB:Hid (∀ (i v p:Nat) (b:UInt8),4 * i=p→vs[i]?=some v→bs[i]?=some b→(∃ h:p<S.size,S[p]=symA v)∧(∃ h:p+1<S.size,S[p+1]=61)∧(p+2<S.size∧S.extract (p+2) (p+3)=⟨[b].toArray⟩)∧(0<i→∃ p1,p1+1=p∧∃ h:p1<S.size,S[p1]=44)):=fun i v p b hp hv hbi=>by
   subst hp
   obtain ⟨k1,k2,k3,k4⟩:=Ycw hb hv hbi
   rw [← hST] at k1 k2 k3 k4
   obtain ⟨q1,q2⟩:=Zmm k3
   exact ⟨Zmm k1,Zmm k2,⟨q1,Yfu q1 q2⟩,fun hi=>⟨4 * i - 1,by omega,Zmm (k4 hi)⟩⟩
  rw [← hS]
  have hI:(S.size:Int)=4 * (vs.length:Int) - 1:=by omega
  have hI2:((S.size:Int) != 4 * (vs.length:Int) - 1)=false:=by simp [hI]
  have hI3:((vs.length:Int) == 0)=false:=by rw [Qu]; omega
  have Hb:=Zac hb
  clear hS hST hSz h0 hb hI
  go_enter Tryz.func26,Tryz.ntmps26
  go_wp2_with fail
  refine HK.out.mono ?_
  rintro e w1 ⟨va,vc,rfl,hrow,hE⟩
  have HE:=Zac hE
  have Hrow:=Zac hrow
  clear hrow hE
  go_wp2
  go_loopw [7,8] (fun ov i u=>∃ k:Nat,k≤vs.length∧i = .int .i64 k∧ov = .string ⟨(bs.take k).toArray⟩∧Ext w1 u) (fun _ i _=>vs.length - (intOf i).toNat)
  case atStart=>exact ⟨0,Qm _,rfl,rfl,Below.refl _ _⟩
  case round =>
   obtain ⟨k,hk,rfl,rfl,hEu⟩:=hrel
   have HEu:=Zac hEu
   by_cases hlt:k<vs.length
   ·obtain ⟨v,hv⟩:∃ v,vs[k]?=some v:=⟨_,Qb hlt⟩
    obtain ⟨b,hbk⟩:∃ b,bs[k]?=some b:=⟨_,Qb (by rw [Hb.out]; exact hlt)⟩
    obtain ⟨p,hp4,hp⟩:∃ p:Nat,4 * k=p∧(4:Int) * (k:Int)=(p:Int):=⟨4 * k,rfl,by omega⟩
    obtain ⟨⟨q1,q2⟩,⟨q3,q4⟩,⟨q5,q7⟩,q6⟩:=HB.out k v p b hp4 hv hbk
    have hv6:=(Hvok.out v (Qh hv)).2
    obtain ⟨s1,s2⟩:=Ygm hv6
    obtain ⟨g,hgs,hg,d0⟩:∃ g,va=some ⟨g,0,none⟩∧g<wr.heap.size∧wr.cell? ⟨g,k,none⟩=some (.int .i64 v):=by
     have hr2:=Zal Hrow.out (fun j hj=>hEu.block j (Hrow.out.lt j hj).2)
     rcases hr2.2 with ⟨h1,h2⟩ | ⟨g,cap,cur,h1,_⟩
     ·omega
     ·simp only [Value.slice.injEq] at h1
      obtain ⟨rfl,_,rfl⟩:=h1
      exact ⟨g,rfl,(hr2.lt g rfl).2,Zag hr2 _ _ (Zuf hv)⟩
    subst hgs
    have Hs:Hid ((⟨(bs.take k).toArray⟩:ByteArray)++⟨[b].toArray⟩=⟨(bs.take (k+1)).toArray⟩):=Zac (by rw [Zbk,List.take_add_one,hbk]; rfl)
    have n1:(((symA v).toNat:Int) != ((symA v).toNat:Int))=false:=by simp
    have hbs:(bs.take k).length≤12:=by simp; omega
    by_cases hk0:k=0
    ·subst hk0
     obtain rfl:p=0:=by omega
     clear hEu hv hbk q6
     go_wp2_with fail
     go_quiet (fail)
     go_wp2
     exact ⟨⟨1,hv1,rfl,congrArg Value.string Hs.out,Zdg HEu.out _⟩,by simp [intOf]; omega⟩
    ·obtain ⟨p1,hp1,z1,z2⟩:=q6 (by omega)
     have hkp:(0:Int)<(k:Int):=by omega
     have hkpd:decide ((0:Int)<(k:Int))=true:=by simp only [decide_eq_true_eq]; omega
     have hpp:(p:Int) - 1=(p1:Int):=by omega
     have Hp1:=Zac hp1
     have hv6':¬ (6:Int)≤(v:Int):=by omega
     have hpb:p≤50:=by omega
     obtain ⟨wr1,wr2,wr3,wr4⟩:=Yjr p (by omega)
     rw [hpp] at wr4
     have hkn:decide (0<k)=true:=by simp only [decide_eq_true_eq]; omega
     have f1:¬ ((S.size:Int)≤(p:Int)):=by omega
     have f2:¬ ((S.size:Int)≤(p:Int)+1):=by omega
     have f3:¬ ((S.size:Int)≤(p1:Int)):=by omega
     have f4:¬ ((p:Int)+1<0):=by omega
     have f5:((p:Int)+1).toNat=p+1:=by omega
     have f6:((p:Int)+2).toNat=p+2:=by omega
     have f7:((p:Int)+3).toNat=p+3:=by omega
     have f8:¬ ((p:Int)+2<0):=by omega
     have f9:¬ ((p:Int)+3<0):=by omega
     have fa:(0:Int)≤(p:Int)+1:=by omega
     have fb:(p:Int)+1<(S.size:Int):=by omega
     clear hEu hv hbk q6 hp1 hp4
     go_wp2_with fail
     go_quiet (fail)
     go_wp2
     exact ⟨⟨k+1,by omega,by go_num,congrArg Value.string Hs.out,Zdg HEu.out _⟩,by simp [intOf]; omega⟩
   ·obtain rfl:k=vs.length:=by omega
    have Hf:Hid (bs.take vs.length=bs):=Zac (by rw [← Hb.out,List.take_length])
    clear hEu
    go_wp2
    refine bodyPost_ret (v := .tuple #[.string ⟨(bs.take vs.length).toArray⟩,.bool true]) (by simp [results,Tryz.results26,go_sem]) rfl ?_
    exact ⟨by rw [Hf.out],Zaj HE.out HEu.out⟩
def Ycy (n:Nat) (vs:List Nat) (bs:List UInt8) (m:Nat):Prop:=∀ (i v:Nat) (b:UInt8),i<m→vs[i]?=some v→bs[i]?=some b→((97≤b.toNat∧b.toNat≤122)→symA (gA n v)=b)∧∀ (k v':Nat) (b':UInt8),k<i→vs[k]?=some v'→bs[k]?=some b'→b=b'→gA n v=gA n v'
theorem Ycz {n:Nat} {vs:List Nat} {bs:List UInt8} (h:Ycy n vs bs vs.length):Zib n vs bs:=fun i v b hv hb=>h i v b (Qa.1 hv).1 hv hb
theorem Zym {n:Nat} {vs:List Nat} {bs:List UInt8} {m v:Nat} {b:UInt8} (h:Ycy n vs bs m) (hv:vs[m]?=some v) (hb:bs[m]?=some b) (h1:(97≤b.toNat∧b.toNat≤122)→symA (gA n v)=b) (h2:∀ (k v':Nat) (b':UInt8),k<m→vs[k]?=some v'→bs[k]?=some b'→b=b'→gA n v=gA n v'):Ycy n vs bs (m+1):=fun i v' b' hi hv' hb'=>by
 by_cases e:i<m
 ·exact h i v' b' e hv' hb'
 ·obtain rfl:i=m:=by omega
  rw [hv] at hv'
  rw [hb] at hb'
  simp only [Qo] at hv' hb'
  subst hv' hb'
  exact ⟨h1,h2⟩
def Zpx (n:Nat) (vs:List Nat) (bs:List UInt8) (w:World) (e:Ending) (w':World):Prop:=∃ r:Bool,e = .returned (.bool r)∧(r=true↔Zib n vs bs)∧Ext w w'
set_option maxHeartbeats 8000000 in
theorem Zkt (w:World) (a:Option Addr) (c:Nat) (l:List At3) (h:AtomsIn w (.slice a l.length c) l) (hl:l.length≤2) (bs:List UInt8) (hb:bs.length=(askV l).length) (n:Nat):Calls Tryz.prog 29 #[.slice a l.length c,.string ⟨bs.toArray⟩,gval n] w (Zpx n (askV l) bs w):=by
 unfold gval
 obtain ⟨W0,hW0⟩:∃ W0,W0=w.alloc (.cells #[.int .i64 (gv n 0),.int .i64 (gv n 1),.int .i64 (gv n 2)] 56):=⟨_,rfl⟩
 have HE0:Hid (Ext w W0):=by rw [hW0]; exact (Ext.of (by repeat' (first | with_reducible(first|exact Qx _ _|apply Kept.drew|apply Kept.drewN|apply Qz|refine Qy ?_ ?_ _)|exact fun h=>absurd h (by simp <;> omega))))
 have HB:Hid (W0.heap[w.heap.size]?=some (.cells #[.int .i64 (gv n 0),.int .i64 (gv n 1),.int .i64 (gv n 2)] 56 (0,0))):=by rw [hW0]; exact heap_alloc_new _ _
 have HW0:=Zac hW0
 have HK:=Zac (Zsg W0 a c l (h.ext HE0.out) (by omega))
 have hvok:=Ycx h.ok
 have hvl:=Zlg l
 obtain ⟨vs,hvs⟩:∃ vs,vs=askV l:=⟨_,rfl⟩
 rw [← hvs] at HK hvok hvl hb ⊢
 have Hvok:=Zac hvok
 have Hb:=Zac hb
 obtain ⟨S,hS⟩:∃ S:ByteArray,S=⟨bs.toArray⟩:=⟨_,rfl⟩
 have HSb:Hid (∀ (i:Nat) (b:UInt8),bs[i]?=some b→∃ h:i<S.size,S[i]=b):=fun i b hi=>Zmm (by rw [hS]; exact hi)
 rw [← hS]
 have HOf:Hid (∀ (v:Nat) (u:World),v<6→Calls Tryz.prog 44 #[.agg #[.int .i64 (gv n 0),.int .i64 (gv n 1),.int .i64 (gv n 2)],.int .i64 v] u fun e w'=>e = .returned (.int .i64 (gA n v))∧Ext u w'):=fun v u hv=>Zre n v hv u
 clear h hvs hvok hW0 hS hb
 go_enter Tryz.func29,Tryz.ntmps29
 go_wp2_with fail
 rw [← HW0.out]
 refine HK.out.mono ?_
 rintro e w1 ⟨va,vc,rfl,hrow,hE1⟩
 have HE1:=Zac hE1
 have HBu:Hid (∀ u,Ext w1 u→u.cell? ⟨w.heap.size,0,none⟩=some (.int .i64 (gv n 0))∧u.cell? ⟨w.heap.size,1,none⟩=some (.int .i64 (gv n 1))∧u.cell? ⟨w.heap.size,2,none⟩=some (.int .i64 (gv n 2))∧(∀ i,u.frozen? ⟨w.heap.size,i,none⟩=false)∧w.heap.size<u.heap.size):=fun u hu=>by
  have b1:=((Zaj HE1.out hu).block _ (Zab HB.out)).trans HB.out
  exact ⟨Zaa b1 0 _ rfl,Zaa b1 1 _ rfl,Zaa b1 2 _ rfl,fun i=>Zae b1 i,Zab b1⟩
 have HVu:Hid (∀ u,Ext w1 u→∀ (k v:Nat),vs[k]?=some v→∃ g,va=some ⟨g,0,none⟩∧g<u.heap.size∧u.cell? ⟨g,k,none⟩=some (.int .i64 v)):=fun u hu k v hv=>by
  have hr2:=Zal hrow (fun j hj=>hu.block j (hrow.lt j hj).2)
  rcases hr2.2 with ⟨h1,h2⟩ | ⟨g,cap,cur,h1,_⟩
  ·have:=(Qa.1 hv).1
   omega
  ·simp only [Value.slice.injEq] at h1
   obtain ⟨rfl,_,rfl⟩:=h1
   exact ⟨g,rfl,(hr2.lt g rfl).2,Zag hr2 _ _ (Zuf hv)⟩
 clear hrow hE1
 go_wp2
 go_loopw [8] (fun i u=>∃ k:Nat,k≤vs.length∧i = .int .i64 k∧Ycy n vs bs k∧Ext w1 u) (fun i _=>vs.length - (intOf i).toNat)
 case atStart=>exact ⟨0,Qm _,rfl,fun i v b hi=>by omega,Below.refl _ _⟩
 case round =>
  obtain ⟨k,hk,rfl,hI,hEu⟩:=hrel
  have HI:=Zac hI
  have HEu:=Zac hEu
  clear hI
  by_cases hlt:k<vs.length
  ·obtain ⟨v,hv⟩:∃ v,vs[k]?=some v:=⟨_,Qb hlt⟩
   obtain ⟨b,hbk⟩:∃ b,bs[k]?=some b:=⟨_,Qb (by rw [Hb.out]; exact hlt)⟩
   have hv6:=(Hvok.out v (Qh hv)).2
   obtain ⟨g,hgs,hg,d0⟩:=HVu.out wr hEu k v hv
   subst hgs
   obtain ⟨p0,p1,p2,pf,l1⟩:=HBu.out wr hEu
   obtain ⟨z1,z2⟩:=HSb.out k b hbk
   have hx:=Zgw n v
   have HO:=Zac (fun u=>HOf.out v u hv6)
   obtain ⟨x,ex⟩:∃ x,x=gA n v:=⟨_,rfl⟩
   rw [← ex] at HO hx
   have Hx:=Zac ex
   have Hv:=Zac hv
   have Hbk:=Zac hbk
   obtain ⟨y1,y2⟩:=Ygm (v:=x) (by omega)
   clear hEu ex hv hbk
   go_wp2_with fail
   refine Zds (by kernel_rfl) [.pur (.agg #[.int .i64 (gv n 0),.int .i64 (gv n 1),.int .i64 (gv n 2)]),.pur (.slice (some ⟨g,0,none⟩) vs.length vc),.pur (.int .i64 k),.pur (.pointer (some ⟨g,k,none⟩)),.pur (.int .i64 v),.cal,.post (fun z=>z)] 5 7 (by kernel_rfl)
    (fun z u=>z = .int .i64 x∧Ext wr u) (fun z u=>z = .int .i64 x∧Ext wr u) 44 #[.agg #[.int .i64 (gv n 0),.int .i64 (gv n 1),.int .i64 (gv n 2)],.int .i64 v] ?_ ?_ rfl (by decide) (Or.inr ⟨by decide,fun _ _ h=>h⟩) ?_
   ·refine (HO.out _).mono ?_
    rintro e u ⟨rfl,he⟩
    exact ⟨_,rfl,rfl,Zaj (Zdr (Below.refl _ _)) he⟩
   ·refine ⟨fun vc => ?_,fun vc => ?_,fun vc => ?_,fun vc => ?_,fun vc => ?_,fun vc => ?_,?_,trivial⟩
    all_goals try (simp [pa,Kd.val,go_sem,p0,p1,p2,pf,l1,d0,hg,hlt]; done)
    all_goals
     intro vc u hR
     simp [pa,Kd.val,go_sem]
   rintro vv w2 ⟨rfl,hE2⟩
   have HE2:Hid (Ext w1 w2):=Zaj HEu.out hE2
   clear hE2
   simp only [paAll,pa,Kd.val,if_true,Act.put,List.setIfInBounds_toArray,List.set_cons_succ,List.set_cons_zero]
   go_upto_region 6 with fail
   go_cut [43] from 26 to 66 (fun cv wx=>∃ r6:Bool,cv = .bool r6∧(r6=true↔((97≤b.toNat∧b.toNat≤122)∧¬ symA x=b))∧Ext w2 wx)
   case first =>
    have hkS:¬ ((S.size:Int)≤(k:Int)):=by omega
    by_cases h1:97≤b.toNat
    ·have a1:decide (97≤b.toNat)=true:=by simpa using h1
     have a2:decide ((97:Int)≤(b.toNat:Int))=true:=by simp only [decide_eq_true_eq]; omega
     by_cases h2:b.toNat≤122
     ·have a3:decide (b.toNat≤122)=true:=by simpa using h2
      have a4:decide ((b.toNat:Int)≤122)=true:=by simp only [decide_eq_true_eq]; omega
      by_cases h3:symA x=b
      ·have a5:(((symA x).toNat:Int) != (b.toNat:Int))=false:=by rw [h3]; simp
       have Hd:Hid (∀ q,Ext w2 (w2.drewN q)):=fun q=>Zdg (Below.refl _ _) q
       have H3:=Zac h3
       clear h3
       go_quiet (fail)
       go_wp2
       go_meet
       exact ⟨false,rfl,by simp [H3.out],Hd.out _⟩
      ·have a5:(((symA x).toNat:Int) != (b.toNat:Int))=true:=by
        simp only [bne_iff_ne,ne_eq,Int.natCast_inj]
        exact fun e=>h3 (UInt8.toNat_inj.1 e)
       have Hd:Hid (∀ q,Ext w2 (w2.drewN q)):=fun q=>Zdg (Below.refl _ _) q
       go_quiet (fail)
       go_wp2
       go_meet
       exact ⟨true,rfl,by simp [h1,h2,h3],Hd.out _⟩
     ·have a3:decide (b.toNat≤122)=false:=by simpa using h2
      have a4:decide ((b.toNat:Int)≤122)=false:=by simp only [decide_eq_false_iff_not]; omega
      have Hd:Hid (∀ q,Ext w2 (w2.drewN q)):=fun q=>Zdg (Below.refl _ _) q
      go_quiet (fail)
      go_wp2
      go_meet
      exact ⟨false,rfl,by simp [h2],Hd.out _⟩
    ·have a1:decide (97≤b.toNat)=false:=by simpa using h1
     have a2:decide ((97:Int)≤(b.toNat:Int))=false:=by simp only [decide_eq_false_iff_not]; omega
     have Hd:Hid (∀ q,Ext w2 (w2.drewN q)):=fun q=>Zdg (Below.refl _ _) q
     go_quiet (fail)
     go_wp2
     go_meet
     exact ⟨false,rfl,by simp [h1],Hd.out _⟩
   case rest =>
    obtain ⟨r6,rfl,hr6,hE3⟩:=hcut
    have Hr6:=Zac hr6
    have HE3:Hid (Ext w1 wc):=Zaj HE2.out hE3
    clear hr6 hE3
    cases r6 with
    | true =>
     have Hno:Hid (¬ Zib n vs bs):=fun hN=>by
      obtain ⟨h1,h2⟩:=Hr6.out.1 rfl
      have:=(hN k v b Hv.out Hbk.out).1 h1
      rw [← Hx.out] at this
      exact h2 this
     go_wp2
     go_ret
     exact ⟨false,rfl,⟨fun e=>by simp at e,fun hN=>absurd hN Hno.out⟩,Zaj HE0.out (Zaj HE1.out HE3.out)⟩
    | false =>
     have Hlow:Hid ((97≤b.toNat∧b.toNat≤122)→symA (gA n v)=b):=fun h1=>by
      rw [← Hx.out]
      exact Classical.byContradiction (fun h2=>by have:=Hr6.out.2 ⟨h1,h2⟩; simp at this)
     obtain ⟨wi,hwi⟩:∃ wi,wi=wc:=⟨_,rfl⟩
     rw [← hwi] at HE3 ⊢
     clear hwi
     go_wp2
     go_loopw [10] (fun i u=>∃ j:Nat,j≤k∧i = .int .i64 j∧(∀ (q v':Nat) (b':UInt8),q<j→vs[q]?=some v'→bs[q]?=some b'→b=b'→gA n v=gA n v')∧Ext w1 u) (fun i _=>k - (intOf i).toNat)
     case atStart=>exact ⟨0,Qm _,rfl,fun q v' b' hq=>by omega,HE3.out⟩
     case round =>
      obtain ⟨j,hj,rfl,hJ,hEj⟩:=hrel
      have HJ:=Zac hJ
      have HEj:=Zac hEj
      clear hJ
      by_cases hjk:j<k
      ·obtain ⟨v',hv'⟩:∃ v',vs[j]?=some v':=⟨_,Qb (by omega)⟩
       obtain ⟨b',hbj⟩:∃ b',bs[j]?=some b':=⟨_,Qb (by rw [Hb.out]; omega)⟩
       have hv6':=(Hvok.out v' (Qh hv')).2
       obtain ⟨g',hgs',hg',d0'⟩:=HVu.out wr hEj j v' hv'
       simp only [Qo,Addr.mk.injEq,and_true] at hgs'
       subst hgs'
       obtain ⟨p0',p1',p2',pf',l1'⟩:=HBu.out wr hEj
       obtain ⟨z1',z2'⟩:=HSb.out j b' hbj
       have HOj:=Zac (fun u=>HOf.out v' u hv6')
       obtain ⟨y,ey⟩:∃ y,y=gA n v':=⟨_,rfl⟩
       rw [← ey] at HOj
       have Hy:=Zac ey
       have Hv':=Zac hv'
       have Hbj:=Zac hbj
       have hjv:j<vs.length:=by omega
       clear hEj ey hv' hbj d0 p0 p1 p2 pf l1 hg
       go_wp2_with fail
       refine Zds (by kernel_rfl) [.pur (.agg #[.int .i64 (gv n 0),.int .i64 (gv n 1),.int .i64 (gv n 2)]),.pur (.slice (some ⟨g,0,none⟩) vs.length vc),.pur (.int .i64 j),.pur (.pointer (some ⟨g,j,none⟩)),.pur (.int .i64 v'),.cal,.post (fun z=>z)] 5 7 (by kernel_rfl)
        (fun z u=>z = .int .i64 y∧Ext wr u) (fun z u=>z = .int .i64 y∧Ext wr u) 44 #[.agg #[.int .i64 (gv n 0),.int .i64 (gv n 1),.int .i64 (gv n 2)],.int .i64 v'] ?_ ?_ rfl (by decide) (Or.inr ⟨by decide,fun _ _ h=>h⟩) ?_
       ·refine (HOj.out _).mono ?_
        rintro e u ⟨rfl,he⟩
        exact ⟨_,rfl,rfl,Zaj (Zdr (Below.refl _ _)) he⟩
       ·refine ⟨fun vc => ?_,fun vc => ?_,fun vc => ?_,fun vc => ?_,fun vc => ?_,fun vc => ?_,?_,trivial⟩
        all_goals try (simp [pa,Kd.val,go_sem,p0',p1',p2',pf',l1',d0',hg',hjv]; done)
        all_goals
         intro vc u hR
         simp [pa,Kd.val,go_sem]
       rintro vv w4 ⟨rfl,hE4⟩
       have HE4:Hid (Ext w1 w4):=Zaj HEj.out hE4
       clear hE4
       simp only [paAll,pa,Kd.val,if_true,Act.put,List.setIfInBounds_toArray,List.set_cons_succ,List.set_cons_zero]
       by_cases hbb:b=b'
       ·have c1:(((b:UInt8).toNat:Int) == ((b':UInt8).toNat:Int))=true:=by rw [hbb]; simp
        by_cases hxy:x=y
        ·have c2:((x:Int) != (y:Int))=false:=by rw [hxy]; simp
         have Hxy:=Zac hxy
         have Hbb:=Zac hbb
         clear hxy hbb
         go_wp2_with fail
         go_quiet (fail)
         go_wp2
         refine ⟨⟨j+1,by omega,by go_num,fun q v2 b2 hq hv2 hb2 hbq => ?_,Zdg HE4.out _⟩,by simp [intOf]; omega⟩
         by_cases hqj:q<j
         ·exact HJ.out q v2 b2 hqj hv2 hb2 hbq
         ·obtain rfl:q=j:=by omega
          rw [Hv'.out] at hv2
          simp only [Qo] at hv2
          rw [← hv2,← Hx.out,← Hy.out]
          exact Hxy.out
        ·have c2:((x:Int) != (y:Int))=true:=by simp only [bne_iff_ne,ne_eq,Int.natCast_inj]; exact hxy
         have Hno:Hid (¬ Zib n vs bs):=fun hN=>by
          have:=(hN k v b Hv.out Hbk.out).2 j v' b' hjk Hv'.out Hbj.out hbb
          rw [← Hx.out,← Hy.out] at this
          exact hxy this
         clear hxy hbb
         go_wp2_with fail
         go_quiet (fail)
         go_wp2
         go_ret
         exact ⟨false,rfl,⟨fun e=>by simp at e,fun hN=>absurd hN Hno.out⟩,Zaj HE0.out (Zaj HE1.out (Zdg HE4.out _))⟩
       ·have c1:(((b:UInt8).toNat:Int) == ((b':UInt8).toNat:Int))=false:=by
         rw [Qu]
         intro e
         exact hbb (UInt8.toNat_inj.1 (by omega))
        have Hbb:=Zac hbb
        clear hbb
        go_wp2_with fail
        go_quiet (fail)
        go_wp2
        refine ⟨⟨j+1,by omega,by go_num,fun q v2 b2 hq hv2 hb2 hbq => ?_,Zdg HE4.out _⟩,by simp [intOf]; omega⟩
        by_cases hqj:q<j
        ·exact HJ.out q v2 b2 hqj hv2 hb2 hbq
        ·obtain rfl:q=j:=by omega
         rw [Hbj.out] at hb2
         simp only [Qo] at hb2
         exact absurd (hbq.trans hb2.symm) Hbb.out
      ·obtain rfl:j=k:=by omega
       have Hnx:Hid (Ycy n vs bs (j+1)):=Zym HI.out Hv.out Hbk.out Hlow.out HJ.out
       clear hEj
       go_wp2
       exact ⟨⟨j+1,by omega,by go_num,Hnx.out,HEj.out⟩,by simp [intOf]; omega⟩
  ·obtain rfl:k=vs.length:=by omega
   clear hEu
   go_wp2
   go_ret
   exact ⟨true,rfl,⟨fun _=>Ycz HI.out,fun _=>rfl⟩,Zaj HE0.out (Zaj HE1.out HEu.out)⟩
set_option maxHeartbeats 8000000 in
theorem Zug (w:World) (b:Nat) (m:List Bool) (hm:ModelIn w b m) (a:Option Addr) (c:Nat) (l:List At3) (h:AtomsIn w (.slice a l.length c) l) (hl:l.length≤2) (bs:List UInt8) (hb:bs.length=(askV l).length) (hall:∀ n,n<27→Zib n (askV l) bs→hAll m n l=true):Calls Tryz.prog 21 #[.pointer (some ⟨b,0,none⟩),.slice a l.length c,.string ⟨(Zkw (askV l) bs).toArray⟩] w fun e w'=>e = .returned (.bool true)∧Ext w w':=by
 have HV:=Zac (Zoi w a c l h hl bs hb)
 have HIn:Hid (∀ (n:Nat) (u:World),Ext w u→Calls Tryz.prog 29 #[.slice a l.length c,.string ⟨bs.toArray⟩,.agg #[.int .i64 (gv n 0),.int .i64 (gv n 1),.int .i64 (gv n 2)]] u (Zpx n (askV l) bs u)):=fun n u hu=>Zkt u a c l (h.ext hu) hl bs hb n
 have HAl:Hid (∀ (n:Nat) (u:World),Ext w u→Calls Tryz.prog 28 #[.pointer (some ⟨b,0,none⟩),.slice a l.length c,.agg #[.int .i64 (gv n 0),.int .i64 (gv n 1),.int .i64 (gv n 2)]] u fun e w'=>e = .returned (.bool (hAll m n l))∧Ext u w'):=fun n u hu=>Zth u b m (hm.ext hu) a c l (h.ext hu) (by omega) n
 have Hall:=Zac hall
 obtain ⟨S,hS⟩:∃ S:ByteArray,S=⟨(Zkw (askV l) bs).toArray⟩:=⟨_,rfl⟩
 rw [← hS] at HV ⊢
 obtain ⟨V,hV⟩:∃ V:ByteArray,V=⟨bs.toArray⟩:=⟨_,rfl⟩
 rw [← hV] at HV HIn
 clear hm h hall hS hV hb
 go_enter Tryz.func21,Tryz.ntmps21
 go_wp2_with fail
 refine HV.out.mono ?_
 rintro e w1 ⟨rfl,hE1⟩
 have HE1:=Zac hE1
 clear hE1
 go_wp2
 go_loopw [9] (fun i u=>∃ n:Nat,n≤27∧i = .int .i64 n∧Ext w u) (fun i _=>27 - (intOf i).toNat)
 case atStart=>exact ⟨0,by omega,rfl,HE1.out⟩
 case round =>
  obtain ⟨n,hn,rfl,hEu⟩:=hrel
  have HEu:=Zac hEu
  clear hEu
  by_cases hn27:n<27
  ·have HGv:=Zac (Zmi n hn27 wr)
   unfold gval at HGv
   go_wp2_with fail
   refine HGv.out.mono ?_
   rintro e w2 ⟨rfl,hE2⟩
   obtain ⟨U,hU⟩:∃ U,U=w2.alloc (.cells #[.int .i64 (gv n 0),.int .i64 (gv n 1),.int .i64 (gv n 2)] 56):=⟨_,rfl⟩
   have HE2:Hid (Ext w U):=Zaj HEu.out (Zaj hE2 (by rw [hU]; exact (Ext.of (by repeat' (first | with_reducible(first|exact Qx _ _|apply Kept.drew|apply Kept.drewN|apply Qz|refine Qy ?_ ?_ _)|exact fun h=>absurd h (by simp <;> omega))))))
   have HB:Hid (U.heap[w2.heap.size]?=some (.cells #[.int .i64 (gv n 0),.int .i64 (gv n 1),.int .i64 (gv n 2)] 56 (0,0))):=by rw [hU]; exact heap_alloc_new _ _
   have HU:=Zac hU
   clear hE2 hU
   go_wp2_with fail
   rw [← HU.out]
   refine (HIn.out n U HE2.out).mono ?_
   rintro e w3 ⟨r,rfl,hr,hE3⟩
   have HE3:Hid (Ext w w3):=Zaj HE2.out hE3
   have b3:=(hE3.block _ (Zab HB.out)).trans HB.out
   obtain ⟨p0,p1,p2,pf⟩:=box3 b3
   have l1:=Zab b3
   have Hr:=Zac hr
   clear hr hE3 b3
   go_wp2_with fail
   refine (HAl.out n w3 HE3.out).mono ?_
   rintro e w4 ⟨rfl,hE4⟩
   have HE4:Hid (Ext w w4):=Zaj HE3.out hE4
   obtain ⟨s,hs⟩:∃ s,s=hAll m n l:=⟨_,rfl⟩
   rw [← hs]
   have Hok:Hid (r=true→s=true):=fun e=>by rw [hs]; exact Hall.out n hn27 (Hr.out.1 e)
   clear hE4 hs p0 p1 p2 pf l1
   cases r with
   | false =>
    go_wp2
    exact ⟨⟨n+1,by omega,by go_num,HE4.out⟩,by simp [intOf]; omega⟩
   | true =>
    obtain rfl:s=true:=Hok.out rfl
    go_wp2
    exact ⟨⟨n+1,by omega,by go_num,HE4.out⟩,by simp [intOf]; omega⟩
  ·obtain rfl:n=27:=by omega
   go_wp2
   go_ret
   exact ⟨rfl,HEu.out⟩
def SupM (R:List (At3 × List At3)) (m:List Bool):Prop:=∀ i:Nat,m[i]?=some true→∃ r ∈ R,∃ n,n<27∧hAll m n r.2=true∧ixA n r.1=i
theorem hA_le {m m':List Bool} (h:LeM m m') {n:Nat} {x:At3} (hx:hA m n x=true):hA m' n x=true:=by
 unfold hA at hx ⊢
 rw [List.getD_eq_getElem?_getD] at hx ⊢
 cases hm:m[ixA n x]? with
 | none=>rw [hm] at hx; simp at hx
 | some b =>
  rw [hm] at hx
  simp at hx
  subst hx
  rw [h.2 _ hm]
  rfl
theorem Yda {m m':List Bool} (h:LeM m m') {n:Nat} {l:List At3} (hx:hAll m n l=true):hAll m' n l=true:=by
 unfold hAll at hx ⊢
 rw [List.all_eq_true] at hx ⊢
 exact fun x hm=>hA_le h (hx x hm)
theorem Yij {R:List (At3 × List At3)} {r:At3 × List At3} (hr:r ∈ R) {m:List Bool} (h:SupM R m) {n:Nat} (hn:n<27):SupM R (putM r m n):=by
 have hle:=Yar r m n
 intro i hi
 have old:m[i]?=some true→∃ r' ∈ R,∃ n',n'<27∧hAll (putM r m n) n' r'.2=true∧ixA n' r'.1=i:=fun e=>by
  obtain ⟨r',h1,n',h2,h3,h4⟩:=h i e
  exact ⟨r',h1,n',h2,Yda hle h3,h4⟩
 by_cases hb:hAll m n r.2=true
 ·have e:putM r m n=m.set (ixA n r.1) true:=by unfold putM; rw [if_pos hb]
  rw [e,List.getElem?_set] at hi
  by_cases hix:ixA n r.1=i
  ·exact ⟨r,hr,n,hn,Yda hle hb,hix⟩
  ·rw [if_neg hix] at hi
   exact old hi
 ·have e:putM r m n=m:=by unfold putM; rw [if_neg hb]
  rw [e] at hi
  exact old hi
theorem Yfv {R:List (At3 × List At3)} {r:At3 × List At3} (hr:r ∈ R) {m:List Bool} (h:SupM R m):SupM R (Zjw m r):=by
 unfold Zjw
 have key:∀ (l:List Nat) (m:List Bool),(∀ n ∈ l,n<27)→SupM R m→SupM R (l.foldl (putM r) m):=by
  intro l
  induction l with
  | nil=>intro m _ h; exact h
  | cons n l ih=>intro m hl h; exact ih _ (fun x hx=>hl x (by simp [hx])) (Yij hr h (hl n (by simp)))
 exact key _ m (fun n hn=>List.mem_range.1 hn) h
theorem Ydb {R:List (At3 × List At3)} {m:List Bool} (h:SupM R m):SupM R (Zhe R m):=by
 unfold Zhe
 have key:∀ (l:List (At3 × List At3)) (m:List Bool),(∀ r ∈ l,r ∈ R)→SupM R m→SupM R (l.foldl Zjw m):=by
  intro l
  induction l with
  | nil=>intro m _ h; exact h
  | cons r l ih=>intro m hl h; exact ih _ (fun x hx=>hl x (by simp [hx])) (Yfv (hl r (by simp)) h)
 exact key R m (fun _ h=>h) h
theorem Zyn (R:List (At3 × List At3)):SupM R (Zdu R):=by
 have key:∀ k,SupM R (itM R k):=by
  intro k
  induction k with
  | zero =>
   intro i hi
   simp only [itM,List.getElem?_replicate] at hi
   split at hi <;> simp at hi
  | succ k ih=>exact Ydb ih
 exact key 28
def SupC (M:List Bool) (cs:List Cls):Prop:=∀ t,Zhh M t→∃ (k:Nat) (c:Cls) (ρ:Nat→List Sym),cs[k]?=some c∧Gnd ρ∧ap ρ c.head=t∧∀ b ∈ c.body,Zhh M (ap ρ b)
theorem Ydc (Nf:Names) (n:Nat):∃ ρ,Gnd ρ∧Zud ρ Nf n:=by
 refine ⟨fun i=>if Nf[i]?=some [symA 3] then cst (gv n 0) else if Nf[i]?=some [symA 4] then cst (gv n 1) else cst (gv n 2),fun i => ?_,fun j i hj hi => ?_⟩
 ·simp only
  split
  ·exact ⟨_,Zmy n 0,rfl⟩
  ·split
   ·exact ⟨_,Zmy n 1,rfl⟩
   ·exact ⟨_,Zmy n 2,rfl⟩
 ·simp only
  rcases (by omega:j=0∨j=1∨j=2) with rfl | rfl | rfl
  ·rw [if_pos hi]
  ·rw [if_neg (by rw [hi]; decide),if_pos hi]
  ·rw [if_neg (by rw [hi]; decide),if_neg (by rw [hi]; decide)]
theorem Yik {R:List (At3 × List At3)} (hR:∀ r ∈ R,RlOk r):SupC (Zdu R) ((R.map rlG).map clOf):=by
 rintro t ⟨p,a,b,hp,ha,hb,rfl,hh⟩
 have hi:(Zdu R)[p * 9+a * 3+b]?=some true:=by
  rw [List.getD_eq_getElem?_getD] at hh
  cases hm:(Zdu R)[p * 9+a * 3+b]? with
  | none=>rw [hm] at hh; simp at hh
  | some v=>rw [hm] at hh; simp at hh; rw [hh]
 obtain ⟨r,hr,n,hn,hbody,hix⟩:=Zyn R _ hi
 have ho:=hR r hr
 obtain ⟨k,hk⟩:=List.mem_iff_getElem?.1 hr
 obtain ⟨ρ,hg,hF⟩:=Ydc (Zck (r.2.map atG) ((atG r.1).syms []).2).2 n
 refine ⟨k,clOf (rlG r),ρ,by rw [Qj,Qj,hk]; rfl,hg,?_,fun c hc => ?_⟩
 ·have e:=Ygl hF ho.1 (N:=[]) (Zlf _ _).1
  show ap ρ ((atG r.1).syms []).1=_
  rw [e]
  have g1:=Zgw n r.1.2.1
  have g2:=Zgw n r.1.2.2
  have hP:=ho.1.1
  unfold ixA at hix
  have e1:r.1.1=p:=by omega
  have e2:gA n r.1.2.1=a:=by omega
  have e3:gA n r.1.2.2=b:=by omega
  rw [e1,e2,e3]
 ·exact (Zpw hF (Zdu R) r.2 _ ho.2.1 (List.prefix_refl _)).2 hbody c hc
def ArgL (l:List Sym):Prop:=∀ s ∈ l,ArgS s∧(s.name≠[]→s.num=0)
theorem Ygn {s:Sym} (h:ArgS s∧(s.name≠[]→s.num=0)):Wf 1 [s]:=⟨by omega,fun _=>h.1.args,h.2,by rw [h.1.args]; rfl⟩
theorem Zlh {v:Nat} {z:Sym} (hz:ArgS z∧(z.name≠[]→z.num=0)):∀ (l:List Sym),ArgL l→ArgL (ap (sub1 v [z]) l)∧(ap (sub1 v [z]) l).length=l.length:=by
 intro l
 induction l with
 | nil=>intro _; exact ⟨fun s hs=>by simp [Zer] at hs,rfl⟩
 | cons y l ih =>
  intro h
  obtain ⟨i1,i2⟩:=ih (fun s hs=>h s (by simp [hs]))
  have h1:∃ y',ap1 (sub1 v [z]) y=[y']∧ArgS y'∧(y'.name≠[]→y'.num=0):=by
   unfold ap1
   split
   ·unfold sub1
    split
    ·exact ⟨z,rfl,hz⟩
    ·exact ⟨_,rfl,⟨rfl,Or.inl rfl⟩,fun e=>absurd rfl e⟩
   ·exact ⟨y,rfl,h y (by simp)⟩
  obtain ⟨y',e,hy'⟩:=h1
  rw [Zay,e]
  refine ⟨fun s hs => ?_,by simp [i2]⟩
  rcases Qk.1 hs with hs | hs
  ·simp at hs
   subst hs
   exact hy'
  ·exact i1 s hs
theorem sub_self {x z:Sym} (hn:x.name=[]):ap1 (sub1 x.num [z]) x=[z]:=by simp [ap1,hn,sub1]
theorem Zsh {x z:Sym} (hx:ArgS x) (hn:x.name=[]) (hz:ArgS z) (hne:x≠z):ap1 (sub1 x.num [z]) z=[z]:=by
 unfold ap1
 split
 ·rename_i h
  unfold sub1
  split
  ·rename_i e
   exact absurd (by have a1:=Zit hx hn; have a2:=Zit hz h; rw [← e] at a1; simpa using a1.trans a2.symm) hne
  ·exact (Zit hz h).symm
 ·rfl
theorem Yfw {a0 b0:List Sym} {θ:Nat→List Sym} (hθ:Ts θ) (hu:ap θ a0=ap θ b0):∀ (n:Nat) (ra rb p:List Sym) (σ:Nat→List Sym),Carr a0 b0 σ (p++ra) (p++rb)→ra.length=n→rb.length=n→ArgL ra→ArgL rb→∃ σ',Mgu σ' a0 b0:=by
 intro n
 induction n with
 | zero =>
  intro ra rb p σ h l1 l2 _ _
  rw [List.length_eq_zero_iff.1 l1,List.length_eq_zero_iff.1 l2] at h
  exact ⟨σ,h.done rfl⟩
 | succ n ih =>
  intro ra rb p σ h l1 l2 h1 h2
  cases ra with
  | nil=>simp at l1
  | cons x ra =>
   cases rb with
   | nil=>simp at l2
   | cons y rb =>
    have hx:=h1 x (by simp)
    have hy:=h2 y (by simp)
    have h1':ArgL ra:=fun s hs=>h1 s (by simp [hs])
    have h2':ArgL rb:=fun s hs=>h2 s (by simp [hs])
    simp only [Qf,Nat.add_right_cancel_iff] at l1 l2
    by_cases hxy:x=y
    ·subst hxy
     exact ih ra rb (p++[x]) σ (by simpa using h) l1 l2 h1' h2'
    ·have hparts:Parts (p++x::ra) (p++y::rb) [x] [y]:=⟨⟨p,ra,rb,by simp,by simp⟩,Ygn hx,Ygn hy,by simpa using hxy⟩
     by_cases hxn:x.name=[]
     ·have hs:=h.step (Or.inl hparts) (Zit hx.1 hxn)
      rw [Zcq,Zcq,Zay,Zay,sub_self hxn,Zsh hx.1 hxn hy.1 hxy] at hs
      obtain ⟨a1,a2⟩:=Zlh (v:=x.num) hy ra h1'
      obtain ⟨b1,b2⟩:=Zlh (v:=x.num) hy rb h2'
      exact ih _ _ (ap (sub1 x.num [y]) p++[y]) _ (by simpa using hs) (by rw [a2,l1]) (by rw [b2,l2]) a1 b1
     ·by_cases hyn:y.name=[]
      ·have hs:=h.step (Or.inr hparts.symm) (Zit hy.1 hyn)
       rw [Zcq,Zcq,Zay,Zay,sub_self hyn,Zsh hy.1 hyn hx.1 (fun e=>hxy e.symm)] at hs
       obtain ⟨a1,a2⟩:=Zlh (v:=y.num) hx ra h1'
       obtain ⟨b1,b2⟩:=Zlh (v:=y.num) hx rb h2'
       exact ih _ _ (ap (sub1 y.num [x]) p++[x]) _ (by simpa using hs) (by rw [a2,l1]) (by rw [b2,l2]) a1 b1
      ·exact absurd (h.unif hθ hu).2.2 (Zwf hparts rfl rfl hxn hyn θ hθ)
theorem Yfx {a b:List Sym} (ha:FA a) (hb:FA b) (wa:Wf 1 a) (wb:Wf 1 b) {θ:Nat→List Sym} (hθ:Ts θ) (hu:ap θ a=ap θ b):∃ σ,Mgu σ a b:=by
 have hu0:=hu
 obtain ⟨P,x,y,rfl,hP,hP2,hx,hy⟩:=ha
 obtain ⟨P',x',y',rfl,hP',hP2',hx',hy'⟩:=hb
 obtain ⟨nx,ny⟩:=Zka wa hP2 hx hy
 obtain ⟨nx',ny'⟩:=Zka wb hP2' hx' hy'
 rw [Zjk θ hP,Zjk θ hP'] at hu
 simp only [List.cons.injEq] at hu
 obtain ⟨rfl,_⟩:=hu
 refine Yfw hθ hu0 2 [x,y] [x',y'] [P] vr (Carr.start wa wb) rfl rfl (fun s hs => ?_) (fun s hs => ?_)
 ·simp at hs
  rcases hs with rfl | rfl
  ·exact ⟨hx,nx⟩
  ·exact ⟨hy,ny⟩
 ·simp at hs
  rcases hs with rfl | rfl
  ·exact ⟨hx',nx'⟩
  ·exact ⟨hy',ny'⟩
theorem Yfy {M:List Bool} {cs:List Cls} (hS:SupC M cs) {n:ND} (hn:NOk n) (hf:FFn n) (hcs:∀ c ∈ cs,COk c∧FFc c) (h3:∀ (c:Cls) (k:Nat),cs[k]?=some c→(tryN n c k).2≠3) (hg:n.goals≠[]) {θ:Nat→List Sym} (hθ:Gnd θ) (hh:∀ g ∈ n.goals,Zhh M (ap θ g.1)) :
  ∃ (k:Nat) (c:Cls),cs[k]?=some c∧((tryN n c k).2=1∨(tryN n c k).2=2)∧∃ θ',Gnd θ'∧(tryN n c k).1.vals.map (ap θ')=n.vals.map (ap θ)∧∀ g ∈ (tryN n c k).1.goals,Zhh M (ap θ' g.1):=by
 obtain ⟨g,gs,hgg⟩:∃ g gs,n.goals=g::gs:=by
  cases h:n.goals with
  | nil=>exact absurd h hg
  | cons g gs=>exact ⟨g,gs,rfl⟩
 obtain ⟨k,c,ρ,hk,hρ,hhead,hbody⟩:=hS _ (hh g (by rw [hgg]; simp))
 obtain ⟨hc,hfc⟩:=hcs c (Qh hk)
 have hwf:=hn.wf
 have hocc:=hn.occ
 unfold ND.terms at hwf hocc
 -- the case for the node's variables and the clause's
 obtain ⟨υ,hυ⟩:∃ υ:Nat→List Sym,υ=fun v=>if v<n.vars then θ v else ρ (v - n.vars):=⟨_,rfl⟩
 have hυg:Gnd υ:=fun v=>by
  rw [hυ]
  simp only
  split
  ·exact hθ v
  ·exact hρ _
 have hlow:∀ t,(∀ v,Occ v t→v<n.vars)→ap υ t=ap θ t:=fun t ht=>Zkx (fun v hv=>by rw [hυ]; simp only; rw [if_pos (ht v hv)])
 have hhigh:∀ t,ap υ (ap (Zcb n.vars) t)=ap ρ t:=fun t=>by
  rw [Zlp]
  congr 1
  funext j
  rw [Zcb,Zku,hυ]
  simp only
  rw [if_neg (by omega),Nat.add_sub_cancel]
 have hga:FA g.1:=hf.goals g (by rw [hgg]; simp)
 have hha:FA (ap (Zcb n.vars) c.head):=hfc.1.apF (fun _=>Zml _)
 have wg:Wf 1 g.1:=hwf g.1 (by rw [hgg]; simp)
 have wh:Wf 1 (ap (Zcb n.vars) c.head):=Zhj (fun j=>Zmx _) hc.wfh
 have og:∀ v,Occ v g.1→v<n.vars:=hocc g.1 (by rw [hgg]; simp)
 have hun:ap υ g.1=ap υ (ap (Zcb n.vars) c.head):=by rw [hlow _ og,hhigh,hhead]
 obtain ⟨σ,hσ⟩:=Yfx hga hha wg wh hυg.ts hun
 have hsm:(ap σ g.1).length≤30:=by
  rw [(hga.apF (Zvf hga hha wg wh hσ)).len]
  omega
 have hout:Out n c k (Zdl (Zan σ n c k g gs)) (Zan σ n c k g gs):=⟨g,gs,hgg,Or.inr (Or.inr ⟨σ,hσ,hsm,rfl,rfl⟩)⟩
 obtain ⟨hq,hsame⟩:=Zos hn (Same.refl hn) hc hout
 have hk12:Zdl (Zan σ n c k g gs)=1∨Zdl (Zan σ n c k g gs)=2:=by
  have h3k:=h3 c k hk
  rw [← hq] at h3k
  unfold Zdl at h3k ⊢
  split
  ·rename_i ho
   rw [if_pos ho] at h3k
   exact absurd rfl h3k
  ·split <;> simp
 obtain ⟨hnk,hS2⟩:=hsame hk12
 have hk12':(tryN n c k).2=1∨(tryN n c k).2=2:=by rw [← hq]; exact hk12
 have hffc:FFn (Zan σ n c k g gs):=hf.child hn hc hfc hout hk12
 have hfft:FFn (tryN n c k).1:=hffc.same hnk.wf hS2.symm
 obtain ⟨θ',hg',ev,eg⟩:=Zvo (Zpo hc hk12') hfft hffc hS2 hυg
 have hab:∀ t,ap υ (ap σ t)=ap υ t:=fun t=>Zls (hσ.wide υ hυg.ts hun) t
 refine ⟨k,c,hk,hk12',θ',hg',?_,fun x hx => ?_⟩
 ·rw [ev]
  simp only [Zan,List.map_map]
  refine List.map_congr_left (fun t ht => ?_)
  show ap υ (ap σ t)=ap θ t
  rw [hab]
  exact hlow t (hocc t (by simp [ht]))
 ·have hx2:ap θ' x.1 ∈ ((Zan σ n c k g gs).goals.map (·.1)).map (ap υ):=by
   rw [← eg]
   exact List.mem_map_of_mem (List.mem_map_of_mem hx)
  simp only [Zan,carr,List.map_map,List.mem_map,Qk,Function.comp] at hx2
  obtain ⟨y,hy,e⟩:=hx2
  rw [← e,hab]
  rcases hy with ⟨t,ht,rfl⟩ | hy
  ·rw [hhigh]
   exact hbody t ht
  ·rw [hlow _ (hocc y.1 (by rw [hgg]; exact List.mem_append_left _ (List.mem_map.2 ⟨y,by simp [hy],rfl⟩)))]
   exact hh y (by rw [hgg]; simp [hy])
theorem Ydd {M:List Bool} {cs:List Cls} {names:Names} {lv:List Nat} (hC:LayC cs lv) (hS:SupC M cs) {n:ND} {t:List UInt8} {A:List (List UInt8)} (h:TreeA cs names n t A) :
  ∀ L,NodeL n L→∀ θ,Gnd θ→(∀ g ∈ n.goals,Zhh M (ap θ g.1))→∃ n',NOk n'∧FFn n'∧Zdf names n' ∈ A∧∃ θ',Gnd θ'∧n'.vals.map (ap θ')=n.vals.map (ap θ):=by
 refine TreeA.rec (cs:=cs) (names:=names) (motive_1:=fun n t A _=>∀ L,NodeL n L→∀ θ,Gnd θ→(∀ g ∈ n.goals,Zhh M (ap θ g.1))→∃ n',NOk n'∧FFn n'∧Zdf names n' ∈ A∧∃ θ',Gnd θ'∧n'.vals.map (ap θ')=n.vals.map (ap θ))
  (motive_2:=fun n k t A _=>∀ (j:Nat) (c:Cls),j<k→cs[j]?=some c→((tryN n c j).2=1∨(tryN n c j).2=2)→∀ L,NodeL (tryN n c j).1 L→∀ θ,Gnd θ→(∀ g ∈ (tryN n c j).1.goals,Zhh M (ap θ g.1))→∃ n',NOk n'∧FFn n'∧Zdf names n' ∈ A∧∃ θ',Gnd θ'∧n'.vals.map (ap θ')=(tryN n c j).1.vals.map (ap θ)) ?_ ?_ ?_ ?_ ?_ h
 ·intro n hg L hN θ hθ _
  exact ⟨n,hN.ok,hN.ff,by simp,θ,hθ,rfl⟩
 ·intro n t A hg hp ih L hN θ hθ hh
  cases L with
  | nil =>
   have:=hN.lv
   unfold LvG at this
   simp at this
   exact absurd this hg
  | cons a L =>
   obtain ⟨s1,s2⟩:=hN.small
   have hall:∀ (k:Nat) (c:Cls),cs[k]?=some c→(tryN n c k).2=0∨(((tryN n c k).2=1∨(tryN n c k).2=2)∧NodeL (tryN n c k).1 (layB a++L)):=fun k c hk=>by
    obtain ⟨b,hb,hl,hc,hfc⟩:=hC.each k c hk
    rcases Yck (k:=k) hN.ok hN.ff hc hfc hN.lv (hN.le a (by simp)) hl s1 s2 with h0 | ⟨hk12,hba,hok,hff,hlv,hus⟩
    ·exact Or.inl h0
    ·refine Or.inr ⟨hk12,hok,hff,hlv,fun z hz => ?_,?_⟩
     ·rcases Qk.1 hz with hz | hz
      ·exact Zua a z hz
      ·exact hN.le z (by simp [hz])
     ·have hwt:=Ztz a L
      have:=hN.wt
      rw [hus,Qg,Qn]
      omega
   obtain ⟨k,c,hk,hk12,θ',hg',ev,hh'⟩:=Yfy hS hN.ok hN.ff (fun c hc=>by
    obtain ⟨k,hk⟩:=List.mem_iff_getElem?.1 hc
    obtain ⟨b,_,_,h1,h2⟩:=hC.each k c hk
    exact ⟨h1,h2⟩) (fun c k hk h3=>by
    rcases hall k c hk with h0 | ⟨h12,_⟩
    ·omega
    ·omega) hg hθ hh
   have hNk:NodeL (tryN n c k).1 (layB a++L):=by
    rcases hall k c hk with h0 | ⟨_,h⟩
    ·omega
    ·exact h
   obtain ⟨n',a1,a2,a3,θ2,a4,a5⟩:=ih k c (Qa.1 hk).1 hk hk12 _ hNk θ' hg' hh'
   exact ⟨n',a1,a2,a3,θ2,a4,a5.trans ev⟩
 ·intro n j c hj
  omega
 ·intro n k t A c hp hc hq ih j c' hj hc' hk12
  by_cases e:j<k
  ·exact ih j c' e hc' hk12
  ·obtain rfl:j=k:=by omega
   rw [hc] at hc'
   simp only [Qo] at hc'
   subst hc'
   omega
 ·intro n k t u A B c hp hc hq hu ihp ihu j c' hj hc' hk12 L hN θ hθ hh
  by_cases e:j<k
  ·obtain ⟨n',a1,a2,a3,r⟩:=ihp j c' e hc' hk12 L hN θ hθ hh
   exact ⟨n',a1,a2,List.mem_append_left _ a3,r⟩
  ·obtain rfl:j=k:=by omega
   rw [hc] at hc'
   simp only [Qo] at hc'
   subst hc'
   obtain ⟨n',a1,a2,a3,r⟩:=ihu L hN θ hθ hh
   exact ⟨n',a1,a2,List.mem_append_right _ a3,r⟩
theorem Zoj {names:Names} {vs:List Nat} {n:ND} (hf:FFn n) (he:names=vs.map nmV) (hl:n.vals.length=vs.length) (h26:vs.length≤26) :
  ∃ Mf:List Nat,Mf.length≤26∧Zdf names n=Zkw vs (n.vals.map (ltr Mf))∧∀ t ∈ n.vals,∀ v,Occ v t→v ∈ Mf:=by
 obtain ⟨c1,c2⟩:=Zog n.vals [] hf.vals
 have hM:(Zau n.vals []).2.length≤26:=by simp at c2; omega
 obtain ⟨d1,d2⟩:=Zyk n.vals [] (Zau n.vals []).2 hf.vals (List.prefix_refl _) hM
 refine ⟨(Zau n.vals []).2,hM,?_,d2⟩
 unfold Zdf Zkw
 rw [he]
 by_cases h0:vs=[]
 ·rw [if_pos h0,if_pos (by rw [h0]; rfl)]
 ·rw [if_neg h0,if_neg (by simpa using h0)]
  exact Ycq vs _ _ [] (by rw [d1,List.map_map]; rfl)
theorem Zsi {i:Nat} (h:i<26):(UInt8.ofNat (65+i)).toNat=65+i:=by
 rw [UInt8.toNat_ofNat']
 omega
theorem Yfz {vals:List (List Sym)} {Mf:List Nat} {n:Nat} {vs:List Nat} (hF:∀ t ∈ vals,F1 t) (hw:∀ t ∈ vals,Wf 1 t) (ho:∀ t ∈ vals,∀ v,Occ v t→v ∈ Mf) (hM:Mf.length≤26) {θ:Nat→List Sym} (e:vals.map (ap θ)=vs.map (fun v=>cst (gA n v))):Zib n vs (vals.map (ltr Mf)):=by
 have key:∀ (i v:Nat) (b:UInt8),vs[i]?=some v→(vals.map (ltr Mf))[i]?=some b→(∃ c,c<3∧b=symA c∧gA n v=c)∨(∃ u,u ∈ Mf∧b=UInt8.ofNat (65+Mf.idxOf u)∧cst (gA n v)=θ u):=by
  intro i v b hv hb
  rw [Qj,Option.map_eq_some_iff] at hb
  obtain ⟨t,ht,rfl⟩:=hb
  have h1:=congrArg (fun z=>z[i]?) e
  simp only [Qj,ht,hv,Option.map_some,Qo] at h1
  have htm:=Qh ht
  obtain ⟨s,rfl,hs⟩:=hF t htm
  by_cases hn:s.name=[]
  ·right
   rw [Zit hs hn,Zku] at h1
   exact ⟨s.num,ho _ htm s.num ⟨s,by simp,hn,rfl⟩,by simp [ltr,hn],h1.symm⟩
  ·left
   obtain ⟨c,hc,ec⟩:=Zpv hs (hw _ htm) hn
   rw [ec] at h1 ⊢
   refine ⟨c,hc,by simp [cst,ltr],?_⟩
   have h2:cst c=cst (gA n v):=by
    rw [← h1,cst,Zay,Zer]
    simp [ap1]
   simp only [cst,List.cons.injEq,Sym.mk.injEq,and_true] at h2
   exact (Zfz (by omega) (by have:=Zgw n v; omega) h2).symm
 have hcst:∀ {c d:Nat},c<3→d<3→cst c=cst d→c=d:=fun {c d} hc hd h=>by
  simp only [cst,List.cons.injEq,Sym.mk.injEq,and_true] at h
  exact Zfz (by omega) (by omega) h
 intro i v b hv hb
 refine ⟨fun hlow => ?_,fun k v' b' hk hv' hb' hbb => ?_⟩
 ·rcases key i v b hv hb with ⟨c,hc,rfl,hgc⟩ | ⟨u,hu,rfl,_⟩
  ·rw [hgc]
  ·have h1:=List.idxOf_lt_length_iff.2 hu
   rw [Zsi (by omega)] at hlow
   omega
 ·subst hbb
  rcases key i v b hv hb with ⟨c,hc,h1,hgc⟩ | ⟨u,hu,h1,hgu⟩
  ·rcases key k v' b hv' hb' with ⟨c',hc',h2,hgc'⟩ | ⟨u',hu',h2,hgu'⟩
   ·rw [hgc,hgc']
    exact Zfz (by omega) (by omega) (h1.symm.trans h2)
   ·have h3:=(Zue hc).1
    rw [← h1,h2,Zsi (by have:=List.idxOf_lt_length_iff.2 hu'; omega)] at h3
    have:=List.idxOf_lt_length_iff.2 hu'
    omega
  ·rcases key k v' b hv' hb' with ⟨c',hc',h2,hgc'⟩ | ⟨u',hu',h2,hgu'⟩
   ·have h3:=(Zue hc').1
    rw [← h2,h1,Zsi (by have:=List.idxOf_lt_length_iff.2 hu; omega)] at h3
    have:=List.idxOf_lt_length_iff.2 hu
    omega
   ·have l1:=List.idxOf_lt_length_iff.2 hu
    have l2:=List.idxOf_lt_length_iff.2 hu'
    have h4:=congrArg UInt8.toNat (h1.symm.trans h2)
    rw [Zsi (by omega),Zsi (by omega)] at h4
    have h5:Mf.idxOf u=Mf.idxOf u':=by omega
    have h6:u=u':=by
     have e1:=List.getElem_idxOf l1
     have e2:=List.getElem_idxOf l2
     rw [← e1,← e2]
     congr 1
    subst h6
    exact hcst (Zgw _ _) (Zgw _ _) (hgu.trans hgu'.symm)
theorem Zyo {cs:List Cls} {a:List (List Sym) × Names} {tries size:Nat} (hcl:cs.length≤24) (hs:0<size):∀ {f:Nat} {m:SN} {t:Tr},InvN cs a m→(m.status=0∨m.status=1)→t.ans.length≤t.tries→t.wts.length≤t.tries→t.tries≤tries→(aftN cs a tries size f m t).2.ans.length≤tries∧(aftN cs a tries size f m t).2.wts.length≤tries∧(aftN cs a tries size f m t).2.tries≤tries:=by
 intro f
 induction f with
 | zero=>intro m t _ _ h1 h2 h3; exact ⟨Qq h1 h3,Qq h2 h3,h3⟩
 | succ f ih =>
  intro m t hI hm h1 h2 h3
  rw [aftN]
  split
  ·rename_i hlt
   obtain ⟨N,hN⟩:∃ N,N=Zdo size (tries - t.tries):=⟨_,rfl⟩
   have hN0:1≤N∧N≤tries - t.tries:=by rw [hN]; unfold Zdo; split <;> omega
   rw [← hN]
   have hle:=Zpm (cs:=cs) (n:=N) (s:=m)
   have hsm:=Zjy (cs:=cs) (n:=N) (s:=m) (by omega) (by omega)
   have hst:=(hI.step hcl (n:=N)).st
   have hadd:(addN a t (Zce cs N m)).ans.length≤(addN a t (Zce cs N m)).tries∧(addN a t (Zce cs N m)).wts.length≤(addN a t (Zce cs N m)).tries∧(addN a t (Zce cs N m)).tries≤tries:=by
    rw [Zgl]
    unfold addN
    split
    ·rename_i h0
     have:=hsm (Or.inr h0)
     simp only [Qg,Qn]
     omega
    ·simp only
     omega
   split
   ·simp only
    omega
   ·rename_i h23
    exact ih (hI.step hcl) (by omega) hadd.1 hadd.2.1 hadd.2.2
  ·exact ⟨Qq h1 h3,Qq h2 h3,h3⟩
theorem Zuh {cs:List Cls} {a:List (List Sym) × Names} {tries size:Nat}:∀ {f:Nat} {m:SN} {t:Tr},m.status=t.status→(aftN cs a tries size f m t).1.status=(aftN cs a tries size f m t).2.status:=by
 have ha:∀ (t:Tr) (r:SN × Nat),(addN a t r).status=r.1.status:=fun t r=>by unfold addN; split <;> rfl
 intro f
 induction f with
 | zero=>intro m t h; exact h
 | succ f ih =>
  intro m t h
  rw [aftN]
  split
  ·split
   ·exact (ha _ _).symm
   ·exact ih (ha _ _).symm
  ·exact h
theorem Yil {vs:List Nat} {b1 b2:List UInt8} (h1:b1.length=vs.length) (h2:b2.length=vs.length) (e:Zkw vs b1=Zkw vs b2):b1=b2:=by
 by_cases h0:vs=[]
 ·subst h0
  have e1:b1=[]:=List.length_eq_zero_iff.1 (by simpa using h1)
  have e2:b2=[]:=List.length_eq_zero_iff.1 (by simpa using h2)
  rw [e1,e2]
 ·unfold Zkw at e
  rw [if_neg h0,if_neg h0] at e
  refine List.ext_getElem? (fun i => ?_)
  by_cases hi:i<vs.length
  ·obtain ⟨v,hv⟩:∃ v,vs[i]?=some v:=⟨_,Qb hi⟩
   obtain ⟨x,hx⟩:∃ x,b1[i]?=some x:=⟨_,Qb (by omega)⟩
   obtain ⟨y,hy⟩:∃ y,b2[i]?=some y:=⟨_,Qb (by omega)⟩
   have k1:=(Ycw h1 hv hx).2.2.1
   have k2:=(Ycw h2 hv hy).2.2.1
   rw [e,k2] at k1
   rw [hx,hy,k1]
  ·rw [List.getElem?_eq_none (by omega),List.getElem?_eq_none (by omega)]
def AnsP (vs:List Nat) (M:List Bool) (x:At3) (A bs:List UInt8):Prop:=A=Zkw vs bs∧bs.length=vs.length∧∀ n,n<27→Zib n vs bs→hAll M n [x]=true
structure CmpF (SP SQ:ByteArray) (cs:List Cls) (a:List (List Sym) × Names) (vs:List Nat) (M:List Bool) (x:At3) (R:SN × Tr) (bss:List (List UInt8)):Prop where
 hp:Zdb SP=some cs
 hq:Zex SQ=some a
 two:R.1.status=2∧R.2.status=2
 small:R.2.ans.length≤3001∧R.2.wts.length≤3001
 tree:R.1.tree.length≤4000
 bl:bss.length=R.2.ans.length
 each:∀ (i:Nat) (A bs:List UInt8),R.2.ans[i]?=some A→bss[i]?=some bs→AnsP vs M x A bs
 find:∀ n,n<27→hAll M n [x]=true→∃ bs ∈ bss,Zib n vs bs
theorem Yde (Ls:List ((At3 × List At3) × Nat)) (h:∀ y ∈ Ls,RlLay y.1 y.2) (h7:Ls.length≤7) (hf:∀ a,cntF (Ls.map (·.2)) a 0≤layM a) (x:At3) (hx:AtOk x) :
  ∃ cs a bss,CmpF ⟨(Zde (Ls.map (fun y=>rlG y.1))).toArray⟩ ⟨((atG x).text++[46]).toArray⟩ cs a (askV [x]) (Zdu (Ls.map (·.1))) x (aftN cs a 3001 3000 3002 (newN cs a) ⟨[],[],0,0⟩) bss:=by
 classical
 obtain ⟨cs,a,hp,hq,hl,hT,h2,hw,htl⟩:=Zsd Ls h h7 hf x hx
 obtain ⟨_,_,_,hN,_,_,hane,_,_⟩:=Zek hq
 have hst:=Zuh (cs:=cs) (a:=a) (tries:=3001) (size:=3000) (f:=3002) (m:=newN cs a) (t:=⟨[],[],0,0⟩) (Zhb cs hane)
 obtain ⟨m1,m2,_⟩:=Zyo (cs:=cs) (a:=a) (tries:=3001) (size:=3000) (f:=3002) (m:=newN cs a) (t:=⟨[],[],0,0⟩) (by omega) (by omega) (InvN.new cs hane) (Or.inl (Zhb cs hane)) (by simp) (by simp) (by simp)
 have hR:∀ r ∈ Ls.map (·.1),RlOk r:=fun r hr=>by
  obtain ⟨y,hy,rfl⟩:=List.mem_map.1 hr
  exact (h y hy).ok
 have hR8:(Ls.map (·.1)).length≤8:=by simp; omega
 have hxs:∀ y ∈ [x],AtOk y:=fun y hy=>by simp at hy; subst hy; exact hx
 have hcs:cs=((Ls.map (·.1)).map rlG).map clOf:=by
  have e:=Zoh hR hR8
  rw [show (Ls.map (·.1)).map rlG=Ls.map (fun y=>rlG y.1) by rw [List.map_map]; rfl] at e ⊢
  rw [hp] at e
  simpa using e
 have ha:a=Zck ([x].map atG) []:=by
  have e:=Yct hxs (by simp) (by simp)
  rw [show Zfo ([x].map atG)=(atG x).text from rfl,hq] at e
  simpa using e
 have hcl:=Ycu hR hR8
 have hS:=Yik hR
 rw [← hcs] at hcl hS
 have hTf:=Yjq hxs
 rw [← ha] at hTf
 have hnm:a.2=(askV [x]).map nmV:=by rw [ha]; exact (Zmu [x] [] hxs (by simp)).1
 have hal:(askV [x]).length≤2:=by have:=Zlg [x]; simpa using this
 have hC:LayC cs (Ls.map (·.2)):=by
  have:=Ycl Ls h h7 hf (fun c hc=>(hcl c (by rw [hcs]; simpa using hc)).1)
  have e:((Ls.map (·.1)).map rlG).map clOf=Ls.map (fun y=>clOf (rlG y.1)):=by rw [List.map_map,List.map_map]; rfl
  rw [hcs,e]
  exact this
 obtain ⟨b,hb2,hbx⟩:∃ b,b≤2∧x.1=2 - b:=⟨2 - x.1,by omega,by have:=hx.1; omega⟩
 have hNL:NodeL (topN a) [b]:=by
  have:=Ycm hx hb2 hbx (by rw [show Zck [atG x] []=a from ha.symm]; exact hN)
  rw [show Zck [atG x] []=a from ha.symm] at this
  exact this
 have hvl0:(topN a).vals.length=(askV [x]).length:=by simp [topN,hnm]
 obtain ⟨M,hM⟩:∃ M,M=Zdu (Ls.map (·.1)):=⟨_,rfl⟩
 rw [← hM] at hcl hS ⊢
 obtain ⟨vs,hvs⟩:∃ vs,vs=askV [x]:=⟨_,rfl⟩
 generalize hRR:aftN cs a 3001 3000 3002 (newN cs a) ⟨[],[],0,0⟩=R at hT h2 hw htl hst m1 m2
 have hA:=hT.tree (by omega)
 rw [hw] at hA
 have hA:TreeA cs a.2 (topN a) R.1.tree R.2.ans:=hA
 have hex:∀ A ∈ R.2.ans,∃ bs,AnsP (askV [x]) M x A bs:=fun A hAm=>by
  obtain ⟨i,hi⟩:=List.mem_iff_getElem?.1 hAm
  have hil:=(Qa.1 hi).1
  obtain ⟨W,hW⟩:∃ W,R.2.wts[i]?=some W:=⟨_,Qb (by rw [← hT.len]; exact hil)⟩
  obtain ⟨n',k1,k2,k3,k4,k5,k6,k7⟩:=hT.each i A W hi hW
  have hfo:=k1.follow 0 k2
  obtain ⟨i1,i2,i3,i4⟩:=Zse hcl n'.used (topN a) 0 hN hTf (by rw [hfo])
  rw [hfo] at i1 i2 i4
  simp only at i1 i2 i4
  have hvl:n'.vals.length=(askV [x]).length:=by
   obtain ⟨θ,_,e,_⟩:=i4 (fun _=>cst 0) (fun _=>⟨0,by omega,rfl⟩)
   have:=congrArg List.length e
   simp only [Ql] at this
   omega
  obtain ⟨Mf,_,hAn,_⟩:=Zoj i1 hnm hvl (by omega)
  refine ⟨_,k6.trans hAn,by rw [Ql,hvl],fun n hn hin => ?_⟩
  obtain ⟨θ1,g1,e1⟩:=Yfs i1.vals (fun t ht=>i2.wf t (List.mem_append_right _ (List.mem_append_left _ ht))) hvl.symm hin
  obtain ⟨θ,g,e,hh⟩:=i4 θ1 g1
  rw [ha] at e hh
  exact (Zvs hxs (e.trans e1)).1 hh
 refine ⟨cs,a,R.2.ans.map (fun A=>if h:∃ bs,AnsP (askV [x]) M x A bs then Classical.choose h else []),?_⟩
 rw [hRR]
 have hch:∀ A ∈ R.2.ans,AnsP (askV [x]) M x A (if h:∃ bs,AnsP (askV [x]) M x A bs then Classical.choose h else []):=fun A hAm=>by
  have:=hex A hAm
  rw [dif_pos this]
  exact Classical.choose_spec this
 refine ⟨hp,hq,⟨h2,by omega⟩,⟨m1,m2⟩,htl,by simp,fun i A bs hi hbs => ?_,fun n hn hh => ?_⟩
 ·rw [Qj,hi] at hbs
  simp only [Option.map_some,Qo] at hbs
  rw [← hbs]
  exact hch A (Qh hi)
 ·have hθ:Gnd (fun i=>cst (gA n ((askV [x]).getD i 0))):=fun i=>⟨_,Zgw _ _,rfl⟩
  have ev:(topN a).vals.map (ap (fun i=>cst (gA n ((askV [x]).getD i 0))))=(askV [x]).map (fun v=>cst (gA n v)):=by
   refine List.ext_getElem? (fun i => ?_)
   rw [Qj,Qj]
   by_cases hi:i<(askV [x]).length
   ·obtain ⟨v,hv⟩:∃ v,(askV [x])[i]?=some v:=⟨_,Qb hi⟩
    have e1:(topN a).vals[i]?=some (vr i):=by
     simp only [topN,Qj]
     rw [List.getElem?_range (by rw [hnm]; simpa using hi)]
     rfl
    rw [e1,hv]
    simp only [Option.map_some,Qo]
    rw [Zku,List.getD_eq_getElem?_getD,hv]
    rfl
   ·rw [List.getElem?_eq_none (by omega),List.getElem?_eq_none (by omega)]
    rfl
  have hgoals:∀ g ∈ (topN a).goals,Zhh M (ap (fun i=>cst (gA n ((askV [x]).getD i 0))) g.1):=by
   have ev2:=ev
   rw [ha] at ev2 ⊢
   exact (Zvs hxs ev2).2 hh
  obtain ⟨n',a1,a2,a3,θ',a4,a5⟩:=Ydd hC hS hA [b] hNL _ hθ hgoals
  have a6:=a5.trans ev
  have hvl:n'.vals.length=(askV [x]).length:=by
   have:=congrArg List.length a6
   simpa using this
  obtain ⟨Mf,hMf,hAn,hoc⟩:=Zoj a2 hnm hvl (by omega)
  have hin:=Yfz a2.vals (fun t ht=>a1.wf t (List.mem_append_right _ (List.mem_append_left _ ht))) hoc hMf a6
  have hP:=hch _ a3
  refine ⟨_,List.mem_map.2 ⟨_,a3,rfl⟩,?_⟩
  rw [← Yil (vs:=askV [x]) (by rw [Ql,hvl]) hP.2.1 (hAn.symm.trans hP.1)]
  exact hin
structure RlsAt (u:World) (B0:Nat) (v:Value) (R:List (At3 × List At3)) (xs:List Value):Prop where
 owns:u.ownsRow B0 82 4 v R.length xs
 all:∀ (k:Nat) (x:At3 × List At3),R[k]?=some x→∃ (a:Option Addr) (c:Nat),xs[k * 4]?=some (.int .i64 x.1.1)∧xs[k * 4+1]?=some (.int .i64 x.1.2.1)∧xs[k * 4+2]?=some (.int .i64 x.1.2.2)∧xs[k * 4+3]?=some (.slice a x.2.length c)∧u.ownsRow B0 45 3 (.slice a x.2.length c) x.2.length (x.2.flatMap atC)∧RlOk x
theorem RlsAt.nil (u:World) (B0:Nat):RlsAt u B0 (.slice none 0 0) [] []:=⟨World.ownsRow_nil _ _ _ _,fun k x h=>by simp at h⟩
theorem RlsAt.keep {u u':World} {B0:Nat} {v:Value} {R:List (At3 × List At3)} {xs:List Value} (h:RlsAt u B0 v R xs) (hk:∀ k,B0≤k→k<u.heap.size→u'.heap[k]?=u.heap[k]?):RlsAt u' B0 v R xs :=
 ⟨Zal h.owns (fun k e=>hk k (h.owns.lt k e).1 (h.owns.lt k e).2),fun k x hx=>by
  obtain ⟨a,c,y0,y1,y2,y3,y4,y5⟩:=h.all k x hx
  exact ⟨a,c,y0,y1,y2,y3,Zal y4 (fun k e=>hk k (y4.lt k e).1 (y4.lt k e).2),y5⟩⟩
theorem RlsAt.rules {u:World} {B0:Nat} {v:Value} {R:List (At3 × List At3)} {xs:List Value} (h:RlsAt u B0 v R xs):RulesIn u v R xs :=
 ⟨Zbd h.owns (Qm _),fun k x hx=>by
  obtain ⟨a,c,y0,y1,y2,y3,y4,y5⟩:=h.all k x hx
  exact ⟨a,c,y0,y1,y2,y3,⟨Zbd y4 (Qm _),y5.2.1⟩,y5.1,by have:=y5.2.2; omega⟩⟩
theorem RlsAt.ok {u:World} {B0:Nat} {v:Value} {R:List (At3 × List At3)} {xs:List Value} (h:RlsAt u B0 v R xs):∀ x ∈ R,RlOk x:=fun x hx=>by
 obtain ⟨k,hk⟩:=List.mem_iff_getElem?.1 hx
 obtain ⟨_,_,_,_,_,_,_,y⟩:=h.all k x hk
 exact y
theorem RlsAt.more {U w':World} {B0:Nat} {v v':Value} {R:List (At3 × List At3)} {xs:List Value} {x:At3 × List At3} {a:Option Addr} {c:Nat} (h:RlsAt U B0 v R xs) (hb:U.ownsRow B0 45 3 (.slice a x.2.length c) x.2.length (x.2.flatMap atC)) (ho:RlOk x)
  (hA:Appended U B0 82 4 v (R.length+1) (xs++[.int .i64 x.1.1,.int .i64 x.1.2.1,.int .i64 x.1.2.2,.slice a x.2.length c]) v' w'):RlsAt w' B0 v' (R++[x]) (xs++[.int .i64 x.1.1,.int .i64 x.1.2.1,.int .i64 x.1.2.2,.slice a x.2.length c]):=by
 have hl:=h.owns.1
 have hkeep:∀ {vv:Value} {n:Nat} {zs:List Value},U.ownsRow B0 45 3 vv n zs→w'.ownsRow B0 45 3 vv n zs:=fun hr=>Zal hr (fun k e=>hA.kept.block k (hr.lt k e).2 (fun e2=>by
  obtain ⟨c1,h1⟩:=Zbj hr k e
  obtain ⟨c2,h2⟩:=Zbj h.owns k e2
  rw [h1] at h2
  simp at h2))
 refine ⟨by simpa using hA.owns,fun k y hy => ?_⟩
 rcases Nat.lt_or_ge k R.length with hk | hk
 ·rw [Qc hk] at hy
  obtain ⟨a',c',y0,y1,y2,y3,y4,y5⟩:=h.all k y hy
  refine ⟨a',c',?_,?_,?_,?_,hkeep y4,y5⟩
  ·rw [Qc (by omega)]; exact y0
  ·rw [Qc (by omega)]; exact y1
  ·rw [Qc (by omega)]; exact y2
  ·rw [Qc (by omega)]; exact y3
 ·obtain rfl:k=R.length:=by
   have:=(Qa.1 hy).1
   simp at this
   omega
  simp at hy
  subst hy
  refine ⟨a,c,?_,?_,?_,?_,hkeep hb,ho⟩
  ·rw [Qd (by omega),hl]; simp
  ·rw [Qd (by omega),hl,show R.length * 4+1 - R.length * 4=1 by omega]; simp
  ·rw [Qd (by omega),hl,show R.length * 4+2 - R.length * 4=2 by omega]; simp
  ·rw [Qd (by omega),hl,show R.length * 4+3 - R.length * 4=3 by omega]; simp
theorem Tryz.infoRule:(Tryz.prog.info? 82).map (fun i=>(i.zero,i.size,i.bytes))=some (some (.agg #[.int .i64 0,.int .i64 0,.int .i64 0,.slice none 0 0]),4,48):=by kernel_rfl
end Go.Proofs.YtlmjilpjmgjjcaaGreatDoor
