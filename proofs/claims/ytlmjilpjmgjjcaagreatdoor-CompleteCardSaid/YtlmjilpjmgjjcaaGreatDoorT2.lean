/-
  PROVED HERE: a query, a program that the reference's 'over' lets by can be read; what the reference's 'Query' and 'Program' answer at every text (the one condition: a string is no longer than a string may be).
-/
import Derived.Test.YtlmjilpjmgjjcaaGreatDoorT1
import Derived.BigRegion
import Derived.Deep.RegionLaw
import Derived.Deep.RegionLawGrows
set_option linter.unusedSimpArgs false
set_option linter.unusedVariables false
set_option maxRecDepth 10000
set_option maxHeartbeats 4000000
namespace Go.Proofs.YtlmjilpjmgjjcaaGreatDoor
structure Cls where
 head:List Sym
 body:List (List Sym)
 names:Names
def Cls.n (c:Cls):Nat:=c.names.length
def Zcb (v:Nat):Nat→List Sym:=fun n=>vr (n+v)
theorem Zop (v:Nat):Ts (Zcb v):=fun n=>Zmx _
def carr (σ:Nat→List Sym) (gs:List (List Sym × Nat)):List (List Sym × Nat):=gs.map (fun g=>(ap σ g.1,g.2))
structure ND where
 goals:List (List Sym × Nat)
 vals:List (List Sym)
 done:List (List Sym × Nat)
 used:List Nat
 vars:Nat
def bigG (g:List Sym × Nat):Bool:=decide (30<g.1.length)
def Zlw (n:ND):Bool:=(decide (40<n.goals.length) || decide (100<n.used.length)) || n.goals.any bigG || n.done.any bigG
def Zdl (n:ND):Nat:=if Zlw n then 3 else if n.goals=[] then 2 else 1
def Zan (σ:Nat→List Sym) (n:ND) (c:Cls) (k:Nat) (g:List Sym × Nat) (gs:List (List Sym × Nat)):ND :=
 ⟨carr σ (c.body.map (fun t=>(ap (Zcb n.vars) t,g.2+1))++gs),n.vals.map (ap σ),carr σ (n.done++[g]),n.used++[k],n.vars+c.n⟩
def ND.terms (n:ND):List (List Sym):=n.goals.map (·.1)++(n.vals++n.done.map (·.1))
structure NOk (n:ND):Prop where
 wf:∀ t ∈ n.terms,Wf 1 t
 occ:∀ t ∈ n.terms,∀ v,Occ v t→v<n.vars
 gs:∀ g ∈ n.goals,g.1.length≤30∧g.2≤n.used.length
 ds:∀ g ∈ n.done,g.1.length≤30∧g.2≤n.used.length
 vs:∀ t ∈ n.vals,∃ x ∈ n.goals++n.done,∃ a b,x.1=a++t++b
 gl:n.goals.length≤40
 dl:n.done.length=n.used.length
 ul:n.used.length≤100
 vl:n.vals.length≤1000
 vars:n.vars≤1000 * (n.used.length+1)
theorem NOk.vsize {n:ND} (h:NOk n) {t:List Sym} (ht:t ∈ n.vals):t.length≤30:=by
 obtain ⟨x,hx,a,b,e⟩:=h.vs t ht
 have hl:x.1.length≤30:=by
  rcases Qk.1 hx with hx | hx
  ·exact (h.gs x hx).1
  ·exact (h.ds x hx).1
 rw [e] at hl
 simp at hl; omega
structure COk (c:Cls):Prop where
 wfh:Wf 1 c.head
 wfb:∀ t ∈ c.body,Wf 1 t
 och:∀ v,Occ v c.head→v<c.n
 ocb:∀ t ∈ c.body,∀ v,Occ v t→v<c.n
 n:c.n≤1000
 hl:c.head.length≤30
 bl:∀ t ∈ c.body,t.length≤30
 bn:c.body.length≤6
structure Same (n m:ND):Prop where
 used:n.used=m.used
 vars:n.vars=m.vars
 gd:n.goals.map (·.2)=m.goals.map (·.2)
 dd:n.done.map (·.2)=m.done.map (·.2)
 vl:n.vals.length=m.vals.length
 al:Alike n.terms m.terms
theorem Same.gl {n m:ND} (h:Same n m):n.goals.length=m.goals.length:=by simpa using congrArg List.length h.gd
theorem Same.dl {n m:ND} (h:Same n m):n.done.length=m.done.length:=by simpa using congrArg List.length h.dd
theorem Same.symm {n m:ND} (h:Same n m):Same m n:=⟨h.used.symm,h.vars.symm,h.gd.symm,h.dd.symm,h.vl.symm,h.al.symm⟩
theorem Same.refl {n:ND} (h:NOk n):Same n n:=⟨rfl,rfl,rfl,rfl,rfl,Alike.refl (fun x hx=>⟨1,h.wf x hx⟩)⟩
theorem Zql {α β:Type} {f:α→β} {a b:List α} {c d:List β} (h:c++d=(a++b).map f) (hl:c.length=a.length):c=a.map f∧d=b.map f:=by
 rw [Qr] at h
 exact List.append_inj h (by simp [hl])
theorem Inst.trans {xs ys zs:List (List Sym)} (h:Inst xs ys) (k:Inst ys zs):Inst xs zs:=by
 obtain ⟨τ,h1,rfl⟩:=h
 obtain ⟨υ,k1,rfl⟩:=k
 refine ⟨_,Zze h1 k1,?_⟩
 rw [List.map_map]
 exact List.map_congr_left (fun x _=>Zlp υ τ x)
theorem Alike.trans {xs ys zs:List (List Sym)} (h:Alike xs ys) (k:Alike ys zs):Alike xs zs:=⟨h.1.trans k.1,k.2.trans h.2⟩
theorem Same.trans {n m o:ND} (h:Same n m) (k:Same m o):Same n o:=⟨h.used.trans k.used,h.vars.trans k.vars,h.gd.trans k.gd,h.dd.trans k.dd,h.vl.trans k.vl,h.al.trans k.al⟩
theorem Zoq (σ:Nat→List Sym) (l:List (List Sym × Nat)):(carr σ l).map (·.1)=(l.map (·.1)).map (ap σ):=by simp [carr]
theorem Zuo (σ:Nat→List Sym) (l:List (List Sym × Nat)):(carr σ l).map (·.2)=l.map (·.2):=by simp [carr]
theorem Zgg {V:Nat} {l:List Sym} {v:Nat} (h:Occ v (ap (Zcb V) l)):∃ u,Occ u l∧v=u+V:=by
 obtain ⟨u,hu,ho⟩:=Zqi.1 h
 exact ⟨u,hu,Zlq.1 ho⟩
theorem Zfg (σ:Nat→List Sym) (n:ND) (c:Cls) (k:Nat) (g:List Sym × Nat) (gs:List (List Sym × Nat)) :
  (Zan σ n c k g gs).terms=(c.body.map (ap (Zcb n.vars))++gs.map (·.1)).map (ap σ)++(n.vals.map (ap σ)++(n.done.map (·.1)++[g.1]).map (ap σ)):=by
 simp [ND.terms,Zan,Zoq,Function.comp_def]
theorem Znj {n m:ND} (hn:NOk n) (hm:NOk m) (hs:Same n m) {c:Cls} (hc:COk c) (k:Nat) {g g':List Sym × Nat} {gs gs':List (List Sym × Nat)} (hg:n.goals=g::gs) (hg':m.goals=g'::gs')
  {σ σ':Nat→List Sym} (h1:Mgu σ g.1 (ap (Zcb n.vars) c.head)) (h2:Mgu σ' g'.1 (ap (Zcb m.vars) c.head)) :
  Inst (Zan σ n c k g gs).terms (Zan σ' m c k g' gs').terms:=by
 have hv:=hs.vars
 have hvl:=hs.vl
 have hdl:=hs.dl
 have hgl:=hs.gl
 have hal:=hs.al.1
 have hocc:=hn.occ
 unfold ND.terms at hal hocc
 rw [hg,hg',List.map_cons,List.map_cons,List.cons_append,List.cons_append] at hal
 rw [hg,List.map_cons,List.cons_append] at hocc
 rw [← hv] at h2
 have key:=Inst.fit (V:=n.vars) (zs:=c.body.map (ap (Zcb n.vars))) hal (fun x hx=>hocc x hx) (fun v h=>by obtain ⟨u,_,e⟩:=Zgg h; omega)
  (fun z hz v h=>by
   obtain ⟨t,_,rfl⟩:=List.mem_map.1 hz
   obtain ⟨u,_,e⟩:=Zgg h
   omega) h1 h2
 obtain ⟨τ,ht,e⟩:=key
 refine ⟨τ,ht,?_⟩
 rw [Qr] at e
 rw [Qr] at e
 rw [hg,hg'] at hgl
 simp only [Qf,Nat.add_right_cancel_iff] at hgl
 obtain ⟨e1,e⟩:=Zql e (by simp)
 simp only [List.map_cons,Qr] at e
 simp only [List.cons.injEq] at e
 obtain ⟨e2,e⟩:=e
 have l1:gs'.length=gs.length:=hgl.symm
 obtain ⟨e3,e⟩:=List.append_inj e (by simp [l1])
 obtain ⟨e4,e5⟩:=List.append_inj e (by simp [hvl])
 rw [Zfg,Zfg,← hv]
 simp only [Qr,List.map_cons,List.map_nil]
 rw [e1,e2,e3,e4,e5]
theorem Zwi {n m:ND} (hn:NOk n) (hm:NOk m) (hs:Same n m) {c:Cls} (hc:COk c) (k:Nat) {g g':List Sym × Nat} {gs gs':List (List Sym × Nat)} (hg:n.goals=g::gs) (hg':m.goals=g'::gs')
  {σ σ':Nat→List Sym} (h1:Mgu σ g.1 (ap (Zcb n.vars) c.head)) (h2:Mgu σ' g'.1 (ap (Zcb m.vars) c.head)) :
  Same (Zan σ n c k g gs) (Zan σ' m c k g' gs'):=by
 have hgd:=hs.gd
 rw [hg,hg'] at hgd
 simp only [List.map_cons,List.cons.injEq] at hgd
 refine ⟨by simp [Zan,hs.used],by simp [Zan,hs.vars],?_,?_,by simp [Zan,hs.vl],Znj hn hm hs hc k hg hg' h1 h2,Znj hm hn hs.symm hc k hg' hg h2 h1⟩
 ·simp only [Zan,Zuo,Qr,List.map_map,Function.comp_def,hgd.1,hgd.2]
 ·simp only [Zan,Zuo,Qr,List.map_cons,List.map_nil,hgd.1,hs.dd]
theorem Same.big {n m:ND} (hs:Same n m):n.goals.any bigG=m.goals.any bigG∧n.done.any bigG=m.done.any bigG:=by
 have h:=hs.al.len
 unfold ND.terms at h
 simp only [Qr,List.map_map] at h
 obtain ⟨e1,h⟩:=List.append_inj h (by simp [hs.gl])
 obtain ⟨_,e2⟩:=List.append_inj h (by simp [hs.vl])
 have key:∀ {a b:List (List Sym × Nat)},a.map (List.length ∘ (·.1))=b.map (List.length ∘ (·.1))→a.any bigG=b.any bigG:=by
  intro a
  induction a with
  | nil=>intro b h; cases b with
   | nil=>rfl
   | cons y b=>simp at h
  | cons x a ih =>
   intro b h
   cases b with
   | nil=>simp at h
   | cons y b =>
    simp only [List.map_cons,List.cons.injEq,Function.comp] at h
    simp only [List.any_cons,bigG,h.1]
    congr 1
    exact ih h.2
 exact ⟨key e1,key e2⟩
theorem Same.kind {n m:ND} (hs:Same n m):Zdl n=Zdl m:=by
 have hb:=hs.big
 have hg:(n.goals=[])↔(m.goals=[]):=by
  rw [← List.length_eq_zero_iff,← List.length_eq_zero_iff,hs.gl]
 unfold Zdl Zlw
 rw [hb.1,hb.2,hs.gl,hs.used]
 split
 ·rfl
 ·split
  ·rw [if_pos (hg.1 (by assumption))]
  ·rw [if_neg (fun h=>by rename_i h'; exact h' (hg.2 h))]
theorem Zor {n:ND} (hn:NOk n) {c:Cls} (hc:COk c) (k:Nat) {g:List Sym × Nat} {gs:List (List Sym × Nat)} (hg:n.goals=g::gs) {σ:Nat→List Sym} (h1:Mgu σ g.1 (ap (Zcb n.vars) c.head)) (hk:Zdl (Zan σ n c k g gs)≠3) :
  NOk (Zan σ n c k g gs):=by
 have hov:Zlw (Zan σ n c k g gs)=false:=by
  unfold Zdl at hk
  cases h:Zlw (Zan σ n c k g gs) with
  | false=>rfl
  | true=>rw [h] at hk; simp at hk
 unfold Zlw at hov
 simp only [Bool.or_eq_false_iff,decide_eq_false_iff_not,Nat.not_lt] at hov
 obtain ⟨⟨⟨o1,o2⟩,o3⟩,o4⟩:=hov
 have o3':∀ x ∈ (Zan σ n c k g gs).goals,x.1.length≤30:=fun x hx=>by
  have:=List.any_eq_false.1 o3 x hx
  simpa [bigG] using this
 have o4':∀ x ∈ (Zan σ n c k g gs).done,x.1.length≤30:=fun x hx=>by
  have:=List.any_eq_false.1 o4 x hx
  simpa [bigG] using this
 have hul:(Zan σ n c k g gs).used.length=n.used.length+1:=by simp [Zan]
 have hwf:=hn.wf
 have hocc:=hn.occ
 unfold ND.terms at hwf hocc
 rw [hg] at hwf hocc
 have hsub:∀ t ∈ (Zan σ n c k g gs).terms,∃ u,t=ap σ u∧((∃ b ∈ c.body,u=ap (Zcb n.vars) b)∨u ∈ List.map (·.1) (g::gs)++(n.vals++List.map (·.1) n.done)):=by
  intro t ht
  rw [Zfg] at ht
  simp only [Qk,List.mem_map] at ht
  rcases ht with ⟨u,hu,rfl⟩ | ⟨u,hu,rfl⟩ | ⟨u,hu,rfl⟩
  ·rcases hu with ⟨b,hb,rfl⟩ | ⟨x,hx,rfl⟩
   ·exact ⟨_,rfl,Or.inl ⟨b,hb,rfl⟩⟩
   ·exact ⟨_,rfl,Or.inr (List.mem_append_left _ (List.mem_map.2 ⟨x,by simp [hx],rfl⟩))⟩
  ·exact ⟨_,rfl,Or.inr (by simp [hu])⟩
  ·rcases hu with ⟨x,hx,rfl⟩ | hu
   ·exact ⟨_,rfl,Or.inr (List.mem_append_right _ (List.mem_append_right _ (List.mem_map.2 ⟨x,hx,rfl⟩)))⟩
   ·simp at hu; subst hu
    exact ⟨_,rfl,Or.inr (by simp)⟩
 have hocv:∀ u,((∃ b ∈ c.body,u=ap (Zcb n.vars) b)∨u ∈ List.map (·.1) (g::gs)++(n.vals++List.map (·.1) n.done))→∀ v,Occ v u→v<n.vars+c.n:=by
  intro u hu v hv
  rcases hu with ⟨b,hb,rfl⟩ | hu
  ·obtain ⟨z,hz,e⟩:=Zgg hv
   have:=hc.ocb b hb z hz
   omega
  ·have:=hocc u hu v hv; omega
 refine ⟨?_,?_,?_,?_,?_,o1,?_,o2,?_,?_⟩
 ·intro t ht
  obtain ⟨u,rfl,hu⟩:=hsub t ht
  refine Zhj h1.ts ?_
  rcases hu with ⟨b,hb,rfl⟩ | hu
  ·exact Zhj (Zop _) (hc.wfb b hb)
  ·exact hwf u hu
 ·intro t ht v hv
  obtain ⟨u,rfl,hu⟩:=hsub t ht
  obtain ⟨z,hz,hv⟩:=Zqi.1 hv
  show v<n.vars+c.n
  rcases h1.occ z v hv with rfl | h | h
  ·exact hocv u hu v hz
  ·have:=hocc g.1 (by simp) v h; omega
  ·obtain ⟨y,hy,e⟩:=Zgg h
   have:=hc.och y hy
   omega
 ·intro x hx
  refine ⟨o3' x hx,?_⟩
  rw [hul]
  simp only [Zan,carr,List.mem_map,Qk] at hx
  obtain ⟨y,hy,rfl⟩:=hx
  have hg2:=(hn.gs g (by rw [hg]; simp)).2
  rcases hy with ⟨t,_,rfl⟩ | hy
  ·simp only; omega
  ·have:=(hn.gs y (by rw [hg]; simp [hy])).2
   simp only; omega
 ·intro x hx
  refine ⟨o4' x hx,?_⟩
  rw [hul]
  simp only [Zan,carr,List.mem_map,Qk,List.mem_singleton] at hx
  obtain ⟨y,hy,rfl⟩:=hx
  rcases hy with hy | rfl
  ·have:=(hn.ds y hy).2
   simp only; omega
  ·have:=(hn.gs y (by rw [hg]; simp)).2
   simp only; omega
 ·intro t ht
  simp only [Zan,List.mem_map] at ht
  obtain ⟨u,hu,rfl⟩:=ht
  obtain ⟨x,hx,a,b,e⟩:=hn.vs u hu
  refine ⟨(ap σ x.1,x.2),?_,ap σ a,ap σ b,by rw [e]; simp [Zcq]⟩
  rw [hg] at hx
  simp only [Zan,carr,Qk,List.mem_map,Qp,List.mem_singleton] at hx ⊢
  rcases hx with (rfl | hx) | hx
  ·exact Or.inr ⟨x,Or.inr (Or.inl rfl),rfl⟩
  ·exact Or.inl ⟨x,Or.inr hx,rfl⟩
  ·exact Or.inr ⟨x,Or.inl hx,rfl⟩
 ·simp [Zan,carr,hn.dl]
 ·simp [Zan,hn.vl]
 ·have:=hn.vars
  have:=hc.n
  rw [hul]
  show n.vars+c.n≤_
  omega
def Out (n:ND) (c:Cls) (k:Nat) (q:Nat) (ch:ND):Prop:=∃ g gs,n.goals=g::gs∧((q=0∧NoFit g.1 (ap (Zcb n.vars) c.head))∨(q=3∧Vast g.1 (ap (Zcb n.vars) c.head)) ∨
 (∃ σ,Mgu σ g.1 (ap (Zcb n.vars) c.head)∧(ap σ g.1).length≤30∧q=Zdl (Zan σ n c k g gs)∧ch=Zan σ n c k g gs))
theorem Mgu.fits {σ:Nat→List Sym} {a b:List Sym} (h:Mgu σ a b):¬ NoFit a b:=fun hn=>hn σ h.ts h.unif
theorem Vast.fits {a b:List Sym} (h:Vast a b):¬ NoFit a b:=fun hn=>by obtain ⟨⟨θ,hθ,e⟩,_⟩:=h; exact hn θ hθ e
theorem Zup {n m:ND} (hn:NOk n) (hm:NOk m) (hs:Same n m) {c:Cls} (hc:COk c) {k q q':Nat} {ch ch':ND} (h:Out n c k q ch) (h':Out m c k q' ch'):q=q'∧(q=1∨q=2→NOk ch∧NOk ch'∧Same ch ch'):=by
 obtain ⟨g,gs,hg,h⟩:=h
 obtain ⟨g',gs',hg',h'⟩:=h'
 have hal:=hs.al
 have ho1:=hn.occ
 have ho2:=hm.occ
 unfold ND.terms at hal ho1 ho2
 rw [hg,hg',List.map_cons,List.map_cons,List.cons_append,List.cons_append] at hal
 rw [hg,List.map_cons,List.cons_append] at ho1
 rw [hg',List.map_cons,List.cons_append] at ho2
 have hv:=hs.vars
 have hhd:∀ v,Occ v (ap (Zcb n.vars) c.head)→n.vars≤v:=fun v h=>by obtain ⟨u,_,e⟩:=Zgg h; omega
 have oa:∀ v,Occ v g.1→v<n.vars:=fun v h=>ho1 g.1 (by simp) v h
 have ob:∀ v,Occ v g'.1→v<n.vars:=fun v h=>by have:=ho2 g'.1 (by simp) v h; omega
 have n1:NoFit g.1 (ap (Zcb n.vars) c.head)→NoFit g'.1 (ap (Zcb m.vars) c.head):=fun h=>by rw [← hv]; exact NoFit.alike (V:=n.vars) hal.1 oa hhd h
 have n2:NoFit g'.1 (ap (Zcb m.vars) c.head)→NoFit g.1 (ap (Zcb n.vars) c.head):=fun h=>by rw [← hv] at h; exact NoFit.alike (V:=n.vars) hal.2 ob hhd h
 have v1:Vast g.1 (ap (Zcb n.vars) c.head)→Vast g'.1 (ap (Zcb m.vars) c.head):=fun h=>by rw [← hv]; exact Vast.alike (V:=n.vars) hal oa ob hhd h
 have v2:Vast g'.1 (ap (Zcb m.vars) c.head)→Vast g.1 (ap (Zcb n.vars) c.head):=fun h=>by rw [← hv] at h; exact Vast.alike (V:=n.vars) hal.symm ob oa hhd h
 rcases h with ⟨rfl,h⟩ | ⟨rfl,h⟩ | ⟨σ,h1,h2,h3,rfl⟩
 ·rcases h' with ⟨rfl,h'⟩ | ⟨rfl,h'⟩ | ⟨σ',k1,k2,k3,rfl⟩
  ·exact ⟨rfl,fun h=>by omega⟩
  ·exact absurd (n1 h) h'.fits
  ·exact absurd (n1 h) k1.fits
 ·rcases h' with ⟨rfl,h'⟩ | ⟨rfl,h'⟩ | ⟨σ',k1,k2,k3,rfl⟩
  ·exact absurd (n2 h') h.fits
  ·exact ⟨rfl,fun h=>by omega⟩
  ·have:=(v1 h).2 σ' k1.ts k1.unif; omega
 ·rcases h' with ⟨rfl,h'⟩ | ⟨rfl,h'⟩ | ⟨σ',k1,k2,k3,rfl⟩
  ·exact absurd (n2 h') h1.fits
  ·have:=(v2 h').2 σ h1.ts h1.unif; omega
  ·have hsame:=Zwi hn hm hs hc k hg hg' h1 k1
   have hk:=hsame.kind
   exact ⟨by omega,fun hq=>⟨Zor hn hc k hg h1 (by omega),Zor hm hc k hg' k1 (by omega),hsame⟩⟩
open Classical in
noncomputable def tryN (m:ND) (c:Cls) (k:Nat):ND × Nat :=
 if h:∃ r:ND × Nat,∃ n,NOk n∧Same n m∧Out n c k r.2 r.1 then Classical.choose h else (⟨[],[],[],[],0⟩,0)
theorem Zos {n m:ND} (hn:NOk n) (hs:Same n m) {c:Cls} (hc:COk c) {k q:Nat} {ch:ND} (h:Out n c k q ch):q=(tryN m c k).2∧(q=1∨q=2→NOk ch∧Same ch (tryN m c k).1):=by
 have hex:∃ r:ND × Nat,∃ n,NOk n∧Same n m∧Out n c k r.2 r.1:=⟨(ch,q),n,hn,hs,h⟩
 have e:tryN m c k=Classical.choose hex:=by unfold tryN; rw [dif_pos hex]
 obtain ⟨n',hn',hs',ho⟩:=Classical.choose_spec hex
 rw [e]
 have:=Zup hn hn' (hs.trans hs'.symm) hc h ho
 exact ⟨this.1,fun hq=>⟨(this.2 hq).1,(this.2 hq).2.2⟩⟩
end Go.Proofs.YtlmjilpjmgjjcaaGreatDoor
namespace Go.Proofs.YtlmjilpjmgjjcaaGreatDoor
open Go.RowKit
theorem Zwj {p:List Tok→Names→Option (List Sym × List Tok × Names)} {M:Nat}
  (hp:∀ ts names r,(∀ t ∈ ts,t.text.length≤M)→p ts names=some r→r.1.length+r.2.1.length≤ts.length∧(∀ s ∈ r.1,s.name.length≤M)∧(∀ t ∈ r.2.1,t.text.length≤M)) :
  ∀ (g:Nat) (ts:List Tok) (names:Names) (acc:List (List Sym)) r,(∀ t ∈ ts,t.text.length≤M)→(∀ s ∈ acc.flatten,s.name.length≤M)→Zdz p g ts names acc=some r →
   r.1.flatten.length+r.2.1.length≤acc.flatten.length+ts.length∧(∀ s ∈ r.1.flatten,s.name.length≤M)∧(∀ t ∈ r.2.1,t.text.length≤M):=by
 intro g
 induction g with
 | zero=>intro ts names acc r _ _ h; simp [Zdz] at h
 | succ g ih =>
  intro ts names acc r hM hA h
  cases ts with
  | nil=>simp [Zdz] at h
  | cons t ts =>
   rw [Zdz] at h
   split at h
   ·simp at h; subst h
    exact ⟨by simp,hA,fun t ht=>hM t (by simp [ht])⟩
   ·split at h
    ·simp at h
    ·rename_i q hq
     obtain ⟨h1,h2,h3⟩:=hp _ _ _ (fun t ht=>hM t (by simp [ht])) hq
     obtain ⟨h4,h5,h6⟩:=ih _ _ _ _ h3 (fun s hs=>by
      simp only [List.flatten_append,List.flatten_cons,List.flatten_nil,Qs,Qk] at hs
      rcases hs with hs | hs
      ·exact hA s hs
      ·exact h2 s hs) h
     refine ⟨?_,h5,h6⟩
     simp only [List.flatten_append,List.flatten_cons,List.flatten_nil,Qs,Qg,Qf] at h4 ⊢
     omega
theorem Zwk {M:Nat}:∀ (f:Nat) (ts:List Tok) (names:Names) r,(∀ t ∈ ts,t.text.length≤M)→Zcs f ts names=some r→r.1.length+r.2.1.length≤ts.length∧(∀ s ∈ r.1,s.name.length≤M)∧(∀ t ∈ r.2.1,t.text.length≤M):=by
 intro f
 induction f with
 | zero=>intro ts names r _ h; simp [Zcs] at h
 | succ f ih =>
  intro ts names r hM h
  cases ts with
  | nil=>simp [Zcs] at h
  | cons t ts =>
   rw [Zcs] at h
   split at h
   ·simp at h; subst h
    exact ⟨by simp; omega,by simp,fun t ht=>hM t (by simp [ht])⟩
   ·cases ts with
    | nil=>simp [Ziu] at h
    | cons u us =>
     rw [Ziu] at h
     split at h
     ·simp at h; subst h
      exact ⟨by simp; omega,by simp; exact hM t (by simp),fun t ht=>hM t (by simp at ht ⊢; exact Or.inr ht)⟩
     ·rw [Option.map_eq_some_iff] at h
      obtain ⟨q,hq,rfl⟩:=h
      obtain ⟨h1,h2,h3⟩:=Zwj ih _ _ _ _ _ (fun t ht=>hM t (List.mem_cons_of_mem _ ht)) (by simp) hq
      refine ⟨by simp at h1 ⊢; omega,?_,h3⟩
      intro s hs
      simp only [Qp] at hs
      rcases hs with rfl | hs
      ·exact hM t (by simp)
      ·exact h2 s hs
theorem Zlx {M f:Nat}:∀ (g:Nat) (ts:List Tok) (names:Names) (acc:List (List Sym)) r,(∀ t ∈ ts,t.text.length≤M)→(∀ s ∈ acc.flatten,s.name.length≤M)→Zcy f g ts names acc=some r →
   r.1.flatten.length+r.2.1.length≤acc.flatten.length+ts.length∧(∀ s ∈ r.1.flatten,s.name.length≤M)∧(∀ t ∈ r.2.1,t.text.length≤M):=by
 intro g
 induction g with
 | zero=>intro ts names acc r _ _ h; simp [Zcy] at h
 | succ g ih =>
  intro ts names acc r hM hA h
  rw [Zcy] at h
  split at h
  ·simp at h
  ·rename_i q hq
   obtain ⟨h1,h2,h3⟩:=Zwk f _ _ _ hM hq
   have hA':∀ s ∈ (acc++[q.1]).flatten,s.name.length≤M:=fun s hs=>by
    simp only [List.flatten_append,List.flatten_cons,List.flatten_nil,Qs,Qk] at hs
    rcases hs with hs | hs
    ·exact hA s hs
    ·exact h2 s hs
   split at h
   ·simp at h
   ·rename_i x rest hx
    rw [hx] at h1 h3
    split at h
    ·simp at h; subst h
     refine ⟨?_,hA',fun t ht=>h3 t (by simp [ht])⟩
     simp only [List.flatten_append,List.flatten_cons,List.flatten_nil,Qs,Qg,Qf] at h1 ⊢
     omega
    ·obtain ⟨h4,h5,h6⟩:=ih _ _ _ _ (fun t ht=>h3 t (by simp [ht])) hA' h
     refine ⟨?_,h5,h6⟩
     simp only [List.flatten_append,List.flatten_cons,List.flatten_nil,Qs,Qg,Qf] at h1 h4 ⊢
     omega
def Zeb (ts:List Tok):Option (Cls × List Tok) :=
 match Zcs 1000 ts [] with
 | none=>none
 | some r=>match r.2.1 with
  | []=>none
  | x::rest=>if x.kind=3 then (Zcy 1000 1000 rest r.2.2 []).map (fun q=>(⟨r.1,q.1,q.2.2⟩,q.2.1)) else some (⟨r.1,[],r.2.2⟩,rest)
def Zgr:Nat→List Tok→List Cls→Option (List Cls)
 | 0,_,_=>none
 | _+1,[],_=>none
 | g+1,t::ts,acc =>
  if t.kind=4 then some acc
  else match Zeb (t::ts) with
   | none=>none
   | some r=>Zgr g r.2 (acc++[r.1])
abbrev CC:=Cls
structure RS where
 query:Bool
 next:Nat
 inBody:Bool
 atom:List Sym
 opn:List Nat
 head:List Sym
 body:List (List Sym)
 vars:Names
 clauses:List CC
structure RV where
 a:Value
 o:Value
 h:Value
 b:Value
 v:Value
 c:Value
def Zbu (s:Sym):List Value:=[.string ⟨s.name.toArray⟩,.int .i64 s.num,.int .i64 s.args]
def Zah (l:List Sym):List Value:=l.flatMap Zbu
theorem Zax (l:List Sym) (k:Nat) (t:Sym) (h:l[k]?=some t) (j:Nat) (hj:j<3):(Zah l)[k * 3+j]?=(Zbu t)[j]?:=by
 induction l generalizing k with
 | nil=>simp at h
 | cons a l ih =>
  cases k with
  | zero =>
   simp at h; subst h
   show (Zbu a++Zah l)[_]?=_
   rw [Qc (by simp [Zbu]; omega)]
   simp
  | succ k =>
   show (Zbu a++Zah l)[_]?=_
   rw [Qd (by simp [Zbu]; omega)]
   rw [← ih k (by simpa using h)]
   congr 1
   simp [Zbu]
   omega
def Zcv (st:RS) (V:RV):Array Value:=#[.bool st.query,.int .i64 st.next,.bool st.inBody,V.a,V.o,V.h,V.b,V.v,V.c]
structure ROpen (w:World) (B rb:Nat) (st:RS) (V:RV):Prop where
 blk:w.heap[rb]?=some (.cells (Zcv st V) 169 (0,0))
 atom:w.ownsRow B 133 3 V.a st.atom.length (Zah st.atom)
 opn:w.ownsRow B 3 1 V.o st.opn.length (ints st.opn.reverse)
 body:∃ x c,V.b = .slice x st.body.length c
 cls:∃ x c,V.c = .slice x st.clauses.length c
theorem ROpen.facts {w:World} {B rb:Nat} {st:RS} {V:RV} (h:ROpen w B rb st V) :
  w.cell? ⟨rb,0,none⟩=some (.bool st.query)∧w.cell? ⟨rb,1,none⟩=some (.int .i64 st.next)∧w.cell? ⟨rb,2,none⟩=some (.bool st.inBody)∧w.cell? ⟨rb,3,none⟩=some V.a∧w.cell? ⟨rb,4,none⟩=some V.o ∧
  w.cell? ⟨rb,5,none⟩=some V.h∧w.cell? ⟨rb,6,none⟩=some V.b∧w.cell? ⟨rb,7,none⟩=some V.v∧w.cell? ⟨rb,8,none⟩=some V.c :=
 ⟨Zaa h.blk 0 _ rfl,Zaa h.blk 1 _ rfl,Zaa h.blk 2 _ rfl,Zaa h.blk 3 _ rfl,Zaa h.blk 4 _ rfl,Zaa h.blk 5 _ rfl,Zaa h.blk 6 _ rfl,Zaa h.blk 7 _ rfl,Zaa h.blk 8 _ rfl⟩
def Zey (st:RS):Int:=match st.opn with
 | [] => -1
 | n::_=>if st.atom.length≤n then -1 else n
theorem Zly (w:World) (B rb:Nat) (st:RS) (V:RV) (h:ROpen w B rb st V) (hl:st.opn.length≤4096) (ha:st.atom.length≤4096) :
  Calls Tryz.prog 200 #[.pointer (some ⟨rb,0,none⟩)] w fun e w'=>e = .returned (.int .i64 (Zey st))∧∃ n,w'=w.drewN n:=by
 obtain ⟨c0,c1,c2,c3,c4,c5,c6,c7,c8⟩:=h.facts
 obtain ⟨aa,acap,hva⟩:=Zad h.atom
 obtain ⟨oa,ocap,hvo⟩:=Zad h.opn
 rw [hva] at c3
 rw [hvo] at c4
 cases hst:st.opn with
 | nil =>
  have Ho:Hid (Zey st = -1):=by show _=_; simp [Zey,hst]
  simp only [hst,Jt] at c4
  clear hva hvo hst h
  go_enter Tryz.func200,Tryz.ntmps200
  go_wp2
  go_ret
  rw [Ho.out]
  exact ⟨rfl,0,rfl⟩
 | cons n r =>
  have hrl:r.length+1≤4096:=by rw [hst] at hl; simpa using hl
  have hop:=h.opn
  rw [hst,hvo,hst] at hop
  obtain ⟨g,gcap,gcur,he,hBg,hg,hcap⟩:=Zaw hop (by simp)
  simp only [Value.slice.injEq] at he
  obtain ⟨rfl,_,rfl⟩:=he
  have cg:w.cell? ⟨g,r.length,none⟩=some (.int .i64 n):=Zag hop r.length _ (by simp [ints])
  simp only [hst,Qf] at c4
  simp only [Qf] at hcap
  have hlen0:(((r.length:Nat):Int)+1 == 0)=false:=by rw [Qu]; omega
  by_cases hn:st.atom.length≤n
  ·have Ho:Hid (Zey st = -1):=by show _=_; simp [Zey,hst,hn]
   clear hva hvo hst h hop hg
   go_enter Tryz.func200,Tryz.ntmps200
   go_wp2_with fail
   go_quiet (fail)
   go_wp2
   go_ret
   rw [Ho.out]
   exact ⟨rfl,_,rfl⟩
  ·have Ho:Hid (Zey st=n):=by show _=_; simp [Zey,hst,hn]
   clear hva hvo hst h hop hg
   go_enter Tryz.func200,Tryz.ntmps200
   go_wp2_with fail
   go_quiet (fail)
   go_wp2
   go_ret
   rw [Ho.out]
   exact ⟨rfl,_,rfl⟩
theorem nb (kd k:Nat):((kd:Int) == (k:Int))=(kd == k):=by
 rw [Bool.eq_iff_iff,beq_iff_eq,beq_iff_eq]; omega
def Zju (st:RS):Nat:=match st.opn with
 | []=>0
 | n::_=>match st.atom[n]? with
  | none=>0
  | some s=>s.args
def Zbr (st:RS) (kd:Nat):Bool:=if st.opn.isEmpty then (if st.inBody then (kd == 5 || kd == 6) else (kd == 7 || kd == 6)) else (kd == 5 || kd == 4)
def Zbg (st:RS) (kd:Nat):Bool :=
 if st.next=0∨st.next=1 then kd == 1 else if st.next=2 then (kd == 1 || kd == 2) else if st.next=3 then (kd == 3 || Zbr st kd) else if st.next=4 then Zbr st kd else false
def Zes (st:RS):Bool :=
 if st.next=0 then decide (24≤st.clauses.length) else if st.next=1 then decide (6≤st.body.length) else if st.next=2 then (decide (30≤st.atom.length) || decide (4≤Zju st)) else false
def Zbs (st:RS) (kd len:Nat):Nat:=if Zbg st kd=false then 2 else if (kd=1∨kd=2)∧(8<len∨Zes st=true) then 3 else 0
structure RBd (st:RS):Prop where
 opn:st.opn.length≤4096
 atom:st.atom.length≤4096
 body:st.body.length≤4096
 cls:st.clauses.length≤4096
 args:∀ s ∈ st.atom,s.args≤4096
theorem Ydm (w:World) (B rb:Nat) (st:RS) (V:RV) (h:ROpen w B rb st V) (hb:RBd st) :
  Calls Tryz.prog 199 #[.pointer (some ⟨rb,0,none⟩)] w fun e w'=>e = .returned (.int .i64 (Zju st))∧∃ n,w'=w.drewN n:=by
 obtain ⟨c0,c1,c2,c3,c4,c5,c6,c7,c8⟩:=h.facts
 obtain ⟨aa,acap,hva⟩:=Zad h.atom
 rw [hva] at c3
 have Hown:=Zac (Zly w B rb st V h hb.opn hb.atom)
 by_cases ho:Zey st = -1
 ·have Ha:Hid (Zju st=0):=by
   show _=_
   cases hst:st.opn with
   | nil=>simp [Zju,hst]
   | cons n r =>
    have hle:st.atom.length≤n:=by
     unfold Zey at ho
     rw [hst] at ho
     simp only at ho
     split at ho
     ·assumption
     ·omega
    simp [Zju,hst,List.getElem?_eq_none hle]
  have Ho:=Zac ho
  clear ho h hva
  go_enter Tryz.func199,Tryz.ntmps199
  go_wp2_with fail
  refine Hown.out.mono ?_
  rintro e w1 ⟨rfl,n,rfl⟩
  rw [Ho.out]
  go_wp2
  go_ret
  rw [Ha.out]
  exact ⟨rfl,n,rfl⟩
 ·obtain ⟨k,r,hst,hk⟩:∃ k r,st.opn=k::r∧k<st.atom.length:=by
   unfold Zey at ho
   split at ho
   ·exact absurd rfl ho
   ·rename_i k r hn
    split at ho
    ·exact absurd rfl ho
    ·exact ⟨k,r,hn,by omega⟩
  obtain ⟨s,hs⟩:∃ s,st.atom[k]?=some s:=⟨_,Qb hk⟩
  have Ha:Hid (Zju st=s.args):=by show _=_; simp [Zju,hst,hs]
  have Ho:Hid (Zey st=k):=by show _=_; simp [Zey,hst]; omega
  have hat:=h.atom
  rw [hva] at hat
  obtain ⟨g,gcap,gcur,he,hBg,hg,hcap⟩:=Zaw hat (by omega)
  simp only [Value.slice.injEq] at he
  obtain ⟨rfl,_,rfl⟩:=he
  have cg:w.cell? ⟨g,k * 3+2,none⟩=some (.int .i64 s.args):=Zag hat _ _ (by rw [Zax _ k s hs 2 (by omega)]; rfl)
  have hla:=hb.atom
  clear ho h hva hat hst hs hg
  go_enter Tryz.func199,Tryz.ntmps199
  go_wp2_with fail
  refine Hown.out.mono ?_
  rintro e w1 ⟨rfl,n,rfl⟩
  rw [Ho.out]
  go_wp2
  go_ret
  rw [Ha.out]
  exact ⟨rfl,n,rfl⟩
theorem Zwl (w:World) (B rb:Nat) (st:RS) (V:RV) (kd:Nat) (h:ROpen w B rb st V) (hb:RBd st) :
  Calls Tryz.prog 198 #[.pointer (some ⟨rb,0,none⟩),.int .i64 kd] w fun e w'=>e = .returned (.bool (Zbr st kd))∧w'=w:=by
 obtain ⟨c0,c1,c2,c3,c4,c5,c6,c7,c8⟩:=h.facts
 obtain ⟨oa,ocap,hvo⟩:=Zad h.opn
 have hl:=hb.opn
 rw [hvo] at c4
 clear h hvo
 have e4:=nb kd 4
 have e5:=nb kd 5
 have e6:=nb kd 6
 have e7:=nb kd 7
 cases hst:st.opn with
 | nil =>
  simp only [hst,Jt] at c4
  cases hib:st.inBody
  ·rw [hib] at c2
   have Hf:Hid (Zbr st kd=(kd == 7 || kd == 6)):=by show _=_; simp [Zbr,hst,hib]
   rw [Hf.out,← e7,← e6]
   clear e4 e5 e6 e7 hst hib
   cases t1:((kd:Int) == (7:Nat))
   all_goals
    have t1':((kd:Int) == 7)=_:=t1
    go_enter Tryz.func198,Tryz.ntmps198
    go_wp2
    go_ret
    exact ⟨rfl,rfl⟩
  ·rw [hib] at c2
   have Hf:Hid (Zbr st kd=(kd == 5 || kd == 6)):=by show _=_; simp [Zbr,hst,hib]
   rw [Hf.out,← e5,← e6]
   clear e4 e5 e6 e7 hst hib
   cases t1:((kd:Int) == (5:Nat))
   all_goals
    have t1':((kd:Int) == 5)=_:=t1
    go_enter Tryz.func198,Tryz.ntmps198
    go_wp2
    go_ret
    exact ⟨rfl,rfl⟩
 | cons n r =>
  have Hf:Hid (Zbr st kd=(kd == 5 || kd == 4)):=by show _=_; simp [Zbr,hst]
  rw [Hf.out,← e5,← e4]
  have hrl:r.length+1≤4096:=by rw [hst] at hl; simpa using hl
  simp only [hst,Qf] at c4
  clear e4 e5 e6 e7 hst
  cases t1:((kd:Int) == (5:Nat))
  all_goals
   have t1':((kd:Int) == 5)=_:=t1
   go_enter Tryz.func198,Tryz.ntmps198
   go_wp2
   go_ret
   exact ⟨rfl,rfl⟩
theorem Zzi (w:World) (B rb:Nat) (st:RS) (V:RV) (kd:Nat) (h:ROpen w B rb st V) (hb:RBd st) (hn:st.next≤5) :
  Calls Tryz.prog 166 #[.pointer (some ⟨rb,0,none⟩),.int .i64 kd] w fun e w'=>e = .returned (.bool (Zbg st kd))∧w'=w:=by
 obtain ⟨c0,c1,c2,c3,c4,c5,c6,c7,c8⟩:=h.facts
 have HF:=Zac (Zwl w B rb st V kd h hb)
 have e1:=nb kd 1
 have e2:=nb kd 2
 have e3:=nb kd 3
 clear h hb c0 c2 c3 c4 c5 c6 c7 c8
 have hs:st.next=0∨st.next=1∨st.next=2∨st.next=3∨st.next=4∨st.next=5:=by omega
 rcases hs with hs | hs | hs | hs | hs | hs
 ·rw [hs] at c1
  have Hf:Hid (Zbg st kd=(kd == 1)):=by show _=_; simp [Zbg,hs]
  rw [Hf.out]
  rw [← e1]
  clear hs e1 e2 e3
  go_enter Tryz.func166,Tryz.ntmps166
  go_wp2
  go_ret
  exact ⟨rfl,rfl⟩
 ·rw [hs] at c1
  have Hf:Hid (Zbg st kd=(kd == 1)):=by show _=_; simp [Zbg,hs]
  rw [Hf.out]
  rw [← e1]
  clear hs e1 e2 e3
  go_enter Tryz.func166,Tryz.ntmps166
  go_wp2
  go_ret
  exact ⟨rfl,rfl⟩
 ·rw [hs] at c1
  have Hf:Hid (Zbg st kd=(kd == 1 || kd == 2)):=by show _=_; simp [Zbg,hs]
  rw [Hf.out]
  rw [← e1,← e2]
  clear hs e1 e2 e3
  cases t1:((kd:Int) == (1:Nat))
  all_goals
   have t1':((kd:Int) == 1)=_:=t1
   go_enter Tryz.func166,Tryz.ntmps166
   go_wp2
   go_ret
   exact ⟨rfl,rfl⟩
 ·rw [hs] at c1
  have Hf:Hid (Zbg st kd=(kd == 3 || Zbr st kd)):=by show _=_; simp [Zbg,hs]
  rw [Hf.out]
  rw [← e3]
  clear hs e1 e2 e3
  cases t1:((kd:Int) == (3:Nat))
  all_goals
   have t1':((kd:Int) == 3)=_:=t1
   go_enter Tryz.func166,Tryz.ntmps166
   go_wp2_with (go_at_call 198; refine HF.out.mono ?_; rintro e w' ⟨rfl,rfl⟩)
   go_ret
   exact ⟨rfl,rfl⟩
 ·rw [hs] at c1
  have Hf:Hid (Zbg st kd=Zbr st kd):=by show _=_; simp [Zbg,hs]
  rw [Hf.out]
  clear hs e1 e2 e3
  go_enter Tryz.func166,Tryz.ntmps166
  go_wp2_with (go_at_call 198; refine HF.out.mono ?_; rintro e w' ⟨rfl,rfl⟩)
  go_ret
  exact ⟨rfl,rfl⟩
 ·rw [hs] at c1
  have Hf:Hid (Zbg st kd=false):=by show _=_; simp [Zbg,hs]
  rw [Hf.out]
  clear hs e1 e2 e3
  go_enter Tryz.func166,Tryz.ntmps166
  go_wp2
  go_ret
  exact ⟨rfl,rfl⟩
theorem Ydn (w:World) (B rb:Nat) (st:RS) (V:RV) (h:ROpen w B rb st V) (hb:RBd st) (hn:st.next≤5) :
  Calls Tryz.prog 167 #[.pointer (some ⟨rb,0,none⟩)] w fun e w'=>e = .returned (.bool (Zes st))∧∃ n,w'=w.drewN n:=by
 obtain ⟨c0,c1,c2,c3,c4,c5,c6,c7,c8⟩:=h.facts
 have HA:=Zac (Ydm w B rb st V h hb)
 obtain ⟨aa,acap,hva⟩:=Zad h.atom
 obtain ⟨ba,bcap,hvb⟩:=h.body
 obtain ⟨ca,ccap,hvc⟩:=h.cls
 rw [hva] at c3
 rw [hvb] at c6
 rw [hvc] at c8
 have l1:=hb.atom
 have l2:=hb.body
 have l3:=hb.cls
 clear h hb hva hvb hvc
 have hs:st.next=0∨st.next=1∨st.next=2∨(st.next≠0∧st.next≠1∧st.next≠2):=by omega
 rcases hs with hs | hs | hs | hs
 ·rw [hs] at c1
  have Hf:Hid (Zes st=decide (24≤st.clauses.length)):=by show _=_; simp [Zes,hs]
  clear hs
  go_enter Tryz.func167,Tryz.ntmps167
  go_wp2
  go_ret
  rw [Hf.out]
  exact ⟨Zez (by rw [Bool.eq_iff_iff]; simp; try omega),0,rfl⟩
 ·rw [hs] at c1
  have Hf:Hid (Zes st=decide (6≤st.body.length)):=by show _=_; simp [Zes,hs]
  clear hs
  go_enter Tryz.func167,Tryz.ntmps167
  go_wp2
  go_ret
  rw [Hf.out]
  exact ⟨Zez (by rw [Bool.eq_iff_iff]; simp; try omega),0,rfl⟩
 ·rw [hs] at c1
  by_cases h30:(30:Int)≤(st.atom.length:Int)
  ·have Hf:Hid (Zes st=true):=by show _=_; simp [Zes,hs]; left; omega
   clear hs
   go_enter Tryz.func167,Tryz.ntmps167
   go_wp2
   go_ret
   rw [Hf.out]
   exact ⟨rfl,0,rfl⟩
  ·have Hf:Hid (Zes st=decide (4≤Zju st)):=by show _=_; simp [Zes,hs]; omega
   have hd:decide ((30:Int)≤(st.atom.length:Int))=false:=by simpa using h30
   clear hs
   go_enter Tryz.func167,Tryz.ntmps167
   go_wp2_with (go_at_call 199; refine HA.out.mono ?_; rintro e w' ⟨rfl,n,rfl⟩)
   go_ret
   rw [Hf.out]
   exact ⟨Zez (by rw [Bool.eq_iff_iff]; simp; try omega),_,rfl⟩
 ·have t0:((st.next:Int) == 0)=false:=by rw [Qu]; omega
  have t1:((st.next:Int) == 1)=false:=by rw [Qu]; omega
  have t2:((st.next:Int) == 2)=false:=by rw [Qu]; omega
  have Hf:Hid (Zes st=false):=by show _=_; simp [Zes,hs]
  clear hs
  go_enter Tryz.func167,Tryz.ntmps167
  go_wp2
  go_ret
  rw [Hf.out]
  exact ⟨rfl,0,rfl⟩
end Go.Proofs.YtlmjilpjmgjjcaaGreatDoor
namespace Go.Proofs.YtlmjilpjmgjjcaaGreatDoor
open Go.RowKit
set_option linter.unusedSimpArgs false
set_option linter.unusedVariables false
theorem ROpen.later {S:Nat→Prop} {w w':World} {B rb:Nat} {st:RS} {V:RV} (h:ROpen w B rb st V) (hk:Kept S w w') (h1:¬ S rb) (h2:∀ k,V.a.ownBlock=some k→¬ S k) (h3:∀ k,V.o.ownBlock=some k→¬ S k):ROpen w' B rb st V :=
 ⟨(hk.block rb (Zab h.blk) h1).trans h.blk,hk.owns h.atom h2,hk.owns h.opn h3,h.body,h.cls⟩
theorem Zzj (w:World) (B rb:Nat) (st:RS) (V:RV) (kd p q:Nat) (h:ROpen w B rb st V) (hb:RBd st) (hn:st.next≤5) (hpq:p≤q) (hq:q≤4096) :
  Calls Tryz.prog 131 #[.pointer (some ⟨rb,0,none⟩),.agg #[.int .i64 kd,.int .i64 p,.int .i64 q]] w fun e w'=>e = .returned (.int .i64 (Zbs st kd (q - p)))∧Kept Zcu w w':=by
 have h1:∀ o,ROpen (w.alloc o) B rb st V:=fun o=>h.later (S:=Zcu) ((Qx _ w).alloc o) (fun h=>h) (fun _ _ h=>h) (fun _ _ h=>h)
 have HS:=Zac (fun o=>Zzi (w.alloc o) B rb st V kd (h1 o) hb hn)
 have HF:=Zac (fun o=>Ydn (w.alloc o) B rb st V (h1 o) hb hn)
 have e1:=nb kd 1
 have e2:=nb kd 2
 clear h h1
 cases hst:Zbg st kd
 ·have Hc:Hid (Zbs st kd (q - p)=2):=by show _=_; simp [Zbs,hst]
  go_enter Tryz.func131,Tryz.ntmps131
  go_wp2_with (go_at_call 166; refine (HS.out _).mono ?_; rintro e w' ⟨rfl,rfl⟩)
  go_ret
  rw [Hc.out]
  exact ⟨rfl,(Qx _ w).alloc _⟩
 ·by_cases hw:kd=1∨kd=2
  ·have hword:((kd:Int) == 1)=true∨(((kd:Int) == 1)=false∧((kd:Int) == 2)=true):=by
    rcases hw with rfl | rfl
    ·exact Or.inl rfl
    ·exact Or.inr ⟨rfl,rfl⟩
   by_cases h8:8<q - p
   ·have h8':(8:Int)<(q:Int) - (p:Int):=by omega
    have Hc:Hid (Zbs st kd (q - p)=3):=by show _=_; simp [Zbs,hst,hw,h8]
    clear hw e1 e2
    rcases hword with t1 | ⟨t1,t2⟩
    all_goals
     go_enter Tryz.func131,Tryz.ntmps131
     go_wp2_with (go_at_call 166; refine (HS.out _).mono ?_; rintro e w' ⟨rfl,rfl⟩)
     go_ret
     rw [Hc.out]
     exact ⟨rfl,(Qx _ w).alloc _⟩
   ·have h8':¬ (8:Int)<(q:Int) - (p:Int):=by omega
    have hd8:decide ((8:Int)<(q:Int) - (p:Int))=false:=by simpa using h8'
    cases hfl:Zes st
    ·have Hc:Hid (Zbs st kd (q - p)=0):=by show _=_; simp [Zbs,hst,h8,hfl]
     clear hw e1 e2
     rcases hword with t1 | ⟨t1,t2⟩
     all_goals
      go_enter Tryz.func131,Tryz.ntmps131
      go_wp2_with (first | (go_at_call 166; refine (HS.out _).mono ?_; rintro e w' ⟨rfl,rfl⟩) | (go_at_call 167; refine (HF.out _).mono ?_; rintro e w' ⟨rfl,n,rfl⟩))
      go_ret
      rw [Hc.out]
      exact ⟨rfl,((Qx _ w).alloc _).drewN _⟩
    ·have Hc:Hid (Zbs st kd (q - p)=3):=by show _=_; simp [Zbs,hst,hw,hfl]
     clear hw e1 e2
     rcases hword with t1 | ⟨t1,t2⟩
     all_goals
      go_enter Tryz.func131,Tryz.ntmps131
      go_wp2_with (first | (go_at_call 166; refine (HS.out _).mono ?_; rintro e w' ⟨rfl,rfl⟩) | (go_at_call 167; refine (HF.out _).mono ?_; rintro e w' ⟨rfl,n,rfl⟩))
      go_ret
      rw [Hc.out]
      exact ⟨rfl,((Qx _ w).alloc _).drewN _⟩
  ·have t1:((kd:Int) == 1)=false:=by rw [Qu]; omega
   have t2:((kd:Int) == 2)=false:=by rw [Qu]; omega
   have Hc:Hid (Zbs st kd (q - p)=0):=by show _=_; simp [Zbs,hst,hw]
   clear hw e1 e2
   go_enter Tryz.func131,Tryz.ntmps131
   go_wp2_with (go_at_call 166; refine (HS.out _).mono ?_; rintro e w' ⟨rfl,rfl⟩)
   go_ret
   rw [Hc.out]
   exact ⟨rfl,(Qx _ w).alloc _⟩
theorem Zwm (s:ByteArray) (kd:Int) (p q:Nat) (w:World) (hpq:p≤q) (hq:q≤s.size) (hs:s.size≤4096) :
  Calls Tryz.prog 133 #[.string s,.agg #[.int .i64 kd,.int .i64 p,.int .i64 q]] w fun e w'=>e = .returned (.string (s.extract p q))∧Kept Zcu w w':=by
 have d1:decide (((p:Nat):Int)<0)=false:=by simp
 have d2:decide ((q:Int)<(p:Int))=false:=by simp; omega
 go_enter Tryz.func133,Tryz.ntmps133
 go_wp2
 go_ret
 exact ⟨rfl,(Qx _ w).alloc _⟩
theorem Tryz.infoSym:(Tryz.prog.info? 133).map (fun i=>(i.zero,i.size,i.bytes))=some (some (.agg #[.string ⟨#[]⟩,.int .i64 0,.int .i64 0]),3,32):=by kernel_rfl
theorem Tryz.infoSyms:(Tryz.prog.info? 105).map (fun i=>(i.zero,i.size,i.bytes))=some (some (.slice none 0 0),1,24):=by kernel_rfl
theorem Tryz.infoCls:(Tryz.prog.info? 107).map (fun i=>(i.zero,i.size,i.bytes))=some (some (.agg #[.slice none 0 0,.slice none 0 0,.slice none 0 0]),3,72):=by kernel_rfl
def SymRow (w:World) (B Sa:Nat) (v:Value) (l:List Sym):Prop:=w.ownsRow B 133 3 v l.length (Zah l)∧∀ k,v.ownBlock=some k→k<Sa
def BodyRow (w:World) (B Sa:Nat) (v:Value) (ls:List (List Sym)) (vs:List Value):Prop :=
 w.ownsRow B 105 1 v ls.length vs∧∀ (i:Nat) (l:List Sym),ls[i]?=some l→∃ x,vs[i]?=some x∧SymRow w B Sa x l
def CCRow (w:World) (B Sa Sb:Nat) (v:Value) (cs:List CC) (xs:List (List Value)):Prop :=
 w.ownsRow B 107 3 v cs.length xs.flatten∧xs.length=cs.length∧(∀ x ∈ xs,x.length=3) ∧
 ∀ (i:Nat) (c:CC),cs[i]?=some c→∃ hv bv vv vs,xs[i]?=some [hv,bv,vv]∧SymRow w B Sa hv c.head∧BodyRow w B Sa bv c.body vs∧(∀ k,bv.ownBlock=some k→k<Sb)∧w.ownsRow B 9 1 vv c.names.length (strs c.names)∧∀ k,vv.ownBlock=some k→k<Sb
structure RRest (w:World) (B:Nat) (st:RS) (V:RV) (Sa Sb:Nat) (vs:List Value) (xs:List (List Value)):Prop where
 atom:w.ownsRow B 133 3 V.a st.atom.length (Zah st.atom)
 opn:w.ownsRow B 3 1 V.o st.opn.length (ints st.opn.reverse)
 vars:w.ownsRow B 9 1 V.v st.vars.length (strs st.vars)
 head:SymRow w B Sa V.h st.head
 body:BodyRow w B Sa V.b st.body vs
 cls:CCRow w B Sa Sb V.c st.clauses xs
 ta:∀ k,V.a.ownBlock=some k→Sa≤k
 tb:∀ k,V.b.ownBlock=some k→Sb≤k
 tv:∀ k,V.v.ownBlock=some k→Sb≤k
 la:Sa≤w.heap.size
 lb:Sb≤w.heap.size
structure IsR (w:World) (B rb:Nat) (st:RS) (V:RV) (Sa Sb:Nat) (vs:List Value) (xs:List (List Value)):Prop where
 blk:w.heap[rb]?=some (.cells (Zcv st V) 169 (0,0))
 rest:RRest w B st V Sa Sb vs xs
 le:B≤rb
theorem IsR.opens {w:World} {B rb:Nat} {st:RS} {V:RV} {Sa Sb:Nat} {vs:List Value} {xs:List (List Value)} (h:IsR w B rb st V Sa Sb vs xs):ROpen w B rb st V:=by
 obtain ⟨ba,bc,hb⟩:=Zad h.rest.body.1
 obtain ⟨ca,cc,hc⟩:=Zad h.rest.cls.1
 exact ⟨h.blk,h.rest.atom,h.rest.opn,⟨ba,bc,hb⟩,⟨ca,cc,hc⟩⟩
def Zee (rb:Nat) (X:Value):Nat→Prop:=fun k=>k=rb∨Zbl X k
section
variable {w w':World} {B rb:Nat} {st:RS} {V:RV} {Sa Sb:Nat} {vs:List Value} {xs:List (List Value)} {X:Value}
theorem Zbv {Br:Nat} {e eX:TypeId} {s sX n nX:Nat} {v:Value} {ys yX:List Value} {cs:Array Value} {fr:Nat × Nat} (ho:w.ownsRow Br e s v n ys) (hk:Kept (Zee rb X) w w') (hblk:w.heap[rb]?=some (.cells cs 169 fr))
  (hX:w.ownsRow B eX sX X nX yX) (h1:e≠169) (h2:e≠eX):w'.ownsRow Br e s v n ys :=
 hk.owns ho (fun k hv hs=>by
  rcases hs with rfl | hs
  ·exact Zaf ho h1 hblk hv
  ·obtain ⟨cur,hc⟩:=Zbj hX k hs
   exact Zaf ho h2 hc hv)
theorem Zen {v:Value} {l:List Sym} {eX:TypeId} {sX nX:Nat} {yX:List Value} {cs:Array Value} {fr:Nat × Nat} (h:SymRow w B Sa v l) (hk:Kept (Zee rb X) w w') (hblk:w.heap[rb]?=some (.cells cs 169 fr))
  (hX:w.ownsRow B eX sX X nX yX) (h2:133≠eX∨∀ k,X.ownBlock=some k→Sa≤k):SymRow w' B Sa v l:=by
 refine ⟨?_,h.2⟩
 rcases h2 with h2 | h2
 ·exact Zbv h.1 hk hblk hX (by decide) h2
 ·exact hk.owns h.1 (fun k hv hs=>by
   rcases hs with rfl | hs
   ·exact Zaf h.1 (by decide) hblk hv
   ·have a1:=h.2 k hv
    have a2:=h2 k hs
    omega)
theorem Zet {v:Value} {ls:List (List Sym)} {ws:List Value} {eX:TypeId} {sX nX:Nat} {yX:List Value} {cs:Array Value} {fr:Nat × Nat} (h:BodyRow w B Sa v ls ws) (hk:Kept (Zee rb X) w w') (hblk:w.heap[rb]?=some (.cells cs 169 fr))
  (hX:w.ownsRow B eX sX X nX yX) (h2:133≠eX∨∀ k,X.ownBlock=some k→Sa≤k) (h3:105≠eX∨∀ k,v.ownBlock=some k→¬ Zbl X k):BodyRow w' B Sa v ls ws:=by
 refine ⟨?_,fun i l hl => ?_⟩
 ·rcases h3 with h3 | h3
  ·exact Zbv h.1 hk hblk hX (by decide) h3
  ·exact hk.owns h.1 (fun k hv hs=>by
    rcases hs with rfl | hs
    ·exact Zaf h.1 (by decide) hblk hv
    ·exact h3 k hv hs)
 ·obtain ⟨x,hx,hs⟩:=h.2 i l hl
  exact ⟨x,hx,Zen hs hk hblk hX h2⟩
theorem Zht {v:Value} {cs:List CC} {ys:List (List Value)} {eX:TypeId} {sX nX:Nat} {yX:List Value} {cl:Array Value} {fr:Nat × Nat} (h:CCRow w B Sa Sb v cs ys) (hk:Kept (Zee rb X) w w') (hblk:w.heap[rb]?=some (.cells cl 169 fr))
  (hX:w.ownsRow B eX sX X nX yX) (h2:133≠eX∨∀ k,X.ownBlock=some k→Sa≤k) (h3:105≠eX∨∀ k,X.ownBlock=some k→Sb≤k) (h4:107≠eX) (h5:9≠eX∨∀ k,X.ownBlock=some k→Sb≤k):CCRow w' B Sa Sb v cs ys:=by
 refine ⟨Zbv h.1 hk hblk hX (by decide) h4,h.2.1,h.2.2.1,fun i c hc => ?_⟩
 obtain ⟨hv,bv,vv,us,e1,e2,e3,e4⟩:=h.2.2.2 i c hc
 refine ⟨hv,bv,vv,us,e1,Zen e2 hk hblk hX h2,Zet e3 hk hblk hX h2 ?_,e4.1,hk.owns e4.2.1 (fun k hv hs => ?_),e4.2.2⟩
 rotate_left
 ·rcases hs with rfl | hs
  ·exact Zaf e4.2.1 (by decide) hblk hv
  ·rcases h5 with h5 | h5
   ·obtain ⟨cur,hc⟩:=Zbj hX k hs
    exact Zaf e4.2.1 h5 hc hv
   ·have a1:=e4.2.2 k hv
    have a2:=h5 k hs
    omega
 rcases h3 with h3 | h3
 ·exact Or.inl h3
 ·exact Or.inr (fun k hb hs=>by
   have a1:=e4.1 k hb
   have a2:=h3 k hs
   omega)
end
structure Held (B:Nat) (w w':World):Prop where
 below:Below B w w'
 other:∀ (k:Nat) (cs:Array Value) (T:TypeId) (fr:Nat × Nat),w.heap[k]?=some (.cells cs T fr)→(T=224∨T=91)→w'.heap[k]?=w.heap[k]?
theorem Held.refl (B:Nat) (w:World):Held B w w:=⟨Below.refl _ _,fun _ _ _ _ _ _=>rfl⟩
theorem Held.trans {B:Nat} {a b c:World} (h:Held B a b) (k:Held B b c):Held B a c :=
 ⟨h.below.trans k.below,fun i cs T fr hb hT=>(k.other i cs T fr ((h.other i cs T fr hb hT).trans hb) hT).trans (h.other i cs T fr hb hT)⟩
theorem Held.drew {B:Nat} {a w:World} (h:Held B a w):Held B a w.drew:=⟨h.below.drew,h.other⟩
theorem Held.fresh {B:Nat} {w w':World} (h:Kept Zcu w w') (hB:B≤w.heap.size):Held B w w':=⟨h.below hB (fun _ h=>h.elim),fun k _ _ _ hb _=>h.block k (Zab hb) (fun h=>h)⟩
section
variable {w w':World} {B rb:Nat} {st:RS} {V:RV} {Sa Sb:Nat} {vs:List Value} {xs:List (List Value)}
theorem IsR.below (h:IsR w B rb st V Sa Sb vs xs) {X:Value} {eX:TypeId} {sX nX:Nat} {yX:List Value} (hk:Kept (Zee rb X) w w') (hX:w.ownsRow B eX sX X nX yX) (he:eX≠224∧eX≠91):Held B w w' :=
 ⟨hk.below (Nat.le_of_lt (Nat.lt_of_le_of_lt h.le (Zab h.blk))) (fun k hs=>by
  rcases hs with rfl | hs
  ·exact h.le
  ·exact (hX.lt k hs).1),fun k cs T fr hb hT=>by
  refine hk.block k (Zab hb) (fun hs => ?_)
  rcases hs with rfl | hs
  ·have e:=h.blk
   rw [hb] at e
   simp only [Qo,Obj.cells.injEq] at e
   rcases hT with h1 | h1 <;> exact absurd (e.2.1.symm.trans h1) (by decide)
  ·obtain ⟨cur,hc⟩:=Zbj hX k hs
   rw [hb] at hc
   simp only [Qo,Obj.cells.injEq] at hc
   rcases hT with h1 | h1
   ·exact he.1 (hc.2.1.symm.trans h1)
   ·exact he.2 (hc.2.1.symm.trans h1)⟩
theorem IsR.only (h:IsR w B rb st V Sa Sb vs xs) (hk:Kept (Zee rb (.slice none 0 0)) w w') (st':RS) (hblk:w'.heap[rb]?=some (.cells (Zcv st' V) 169 (0,0)))
  (e1:st'.atom=st.atom) (e2:st'.opn=st.opn) (e3:st'.vars=st.vars) (e4:st'.head=st.head) (e5:st'.body=st.body) (e6:st'.clauses=st.clauses):IsR w' B rb st' V Sa Sb vs xs:=by
 have hX:w.ownsRow B 169 1 (.slice none 0 0) 0 []:=World.ownsRow_nil _ _ _ _
 have r:=h.rest
 refine ⟨hblk,⟨?_,?_,?_,?_,?_,?_,r.ta,r.tb,r.tv,Qq r.la hk.size,Qq r.lb hk.size⟩,h.le⟩
 ·rw [e1]; exact Zbv r.atom hk h.blk hX (by decide) (by decide)
 ·rw [e2]; exact Zbv r.opn hk h.blk hX (by decide) (by decide)
 ·rw [e3]; exact Zbv r.vars hk h.blk hX (by decide) (by decide)
 ·rw [e4]; exact Zen r.head hk h.blk hX (Or.inl (by decide))
 ·rw [e5]; exact Zet r.body hk h.blk hX (Or.inl (by decide)) (Or.inl (by decide))
 ·rw [e6]; exact Zht r.cls hk h.blk hX (Or.inl (by decide)) (Or.inl (by decide)) (by decide) (Or.inl (by decide))
theorem IsR.opened (h:IsR w B rb st V Sa Sb vs xs) (hk:Kept (Zee rb V.o) w w') (l:List Nat) (o':Value) (hblk:w'.heap[rb]?=some (.cells (Zcv { st with opn:=l } { V with o:=o' }) 169 (0,0)))
  (ho:w'.ownsRow B 3 1 o' l.length (ints l.reverse)):IsR w' B rb { st with opn:=l } { V with o:=o' } Sa Sb vs xs:=by
 have r:=h.rest
 exact ⟨hblk,⟨Zbv r.atom hk h.blk r.opn (by decide) (by decide),ho,Zbv r.vars hk h.blk r.opn (by decide) (by decide),Zen r.head hk h.blk r.opn (Or.inl (by decide)),
  Zet r.body hk h.blk r.opn (Or.inl (by decide)) (Or.inl (by decide)),Zht r.cls hk h.blk r.opn (Or.inl (by decide)) (Or.inl (by decide)) (by decide) (Or.inl (by decide)),r.ta,r.tb,r.tv,Qq r.la hk.size,Qq r.lb hk.size⟩,h.le⟩
theorem IsR.named (h:IsR w B rb st V Sa Sb vs xs) (hk:Kept (Zee rb V.v) w w') (l:Names) (v':Value) (hblk:w'.heap[rb]?=some (.cells (Zcv { st with vars:=l } { V with v:=v' }) 169 (0,0)))
  (ho:w'.ownsRow B 9 1 v' l.length (strs l)) (htv:∀ k,v'.ownBlock=some k→Sb≤k):IsR w' B rb { st with vars:=l } { V with v:=v' } Sa Sb vs xs:=by
 have r:=h.rest
 exact ⟨hblk,⟨Zbv r.atom hk h.blk r.vars (by decide) (by decide),Zbv r.opn hk h.blk r.vars (by decide) (by decide),ho,Zen r.head hk h.blk r.vars (Or.inl (by decide)),
  Zet r.body hk h.blk r.vars (Or.inl (by decide)) (Or.inl (by decide)),Zht r.cls hk h.blk r.vars (Or.inl (by decide)) (Or.inl (by decide)) (by decide) (Or.inr r.tv),r.ta,r.tb,htv,Qq r.la hk.size,Qq r.lb hk.size⟩,h.le⟩
theorem IsR.atoms (h:IsR w B rb st V Sa Sb vs xs) (hk:Kept (Zee rb V.a) w w') (l:List Sym) (a':Value) (hblk:w'.heap[rb]?=some (.cells (Zcv { st with atom:=l } { V with a:=a' }) 169 (0,0)))
  (ho:w'.ownsRow B 133 3 a' l.length (Zah l)) (hta:∀ k,a'.ownBlock=some k→Sa≤k):IsR w' B rb { st with atom:=l } { V with a:=a' } Sa Sb vs xs:=by
 have r:=h.rest
 exact ⟨hblk,⟨ho,Zbv r.opn hk h.blk r.atom (by decide) (by decide),Zbv r.vars hk h.blk r.atom (by decide) (by decide),Zen r.head hk h.blk r.atom (Or.inr r.ta),
  Zet r.body hk h.blk r.atom (Or.inr r.ta) (Or.inl (by decide)),Zht r.cls hk h.blk r.atom (Or.inr r.ta) (Or.inl (by decide)) (by decide) (Or.inl (by decide)),hta,r.tb,r.tv,Qq r.la hk.size,Qq r.lb hk.size⟩,h.le⟩
theorem SymRow.more {v:Value} {l:List Sym} {S':Nat} (h:SymRow w B Sa v l) (hS:Sa≤S'):SymRow w B S' v l:=⟨h.1,fun k hk=>Nat.lt_of_lt_of_le (h.2 k hk) hS⟩
theorem BodyRow.more {v:Value} {ls:List (List Sym)} {ws:List Value} {S':Nat} (h:BodyRow w B Sa v ls ws) (hS:Sa≤S'):BodyRow w B S' v ls ws :=
 ⟨h.1,fun i l hl=>by obtain ⟨x,h1,h2⟩:=h.2 i l hl; exact ⟨x,h1,h2.more hS⟩⟩
theorem CCRow.more {v:Value} {cs:List CC} {ys:List (List Value)} {S' T':Nat} (h:CCRow w B Sa Sb v cs ys) (hS:Sa≤S') (hT:Sb≤T'):CCRow w B S' T' v cs ys :=
 ⟨h.1,h.2.1,h.2.2.1,fun i c hc=>by
  obtain ⟨hv,bv,vv,us,e1,e2,e3,e4⟩:=h.2.2.2 i c hc
  exact ⟨hv,bv,vv,us,e1,e2.more hS,e3.more hS,fun k hk=>Nat.lt_of_lt_of_le (e4.1 k hk) hT,e4.2.1,fun k hk=>Nat.lt_of_lt_of_le (e4.2.2 k hk) hT⟩⟩
theorem IsR.headed (h:IsR w B rb st V Sa Sb vs xs) (hk:Kept (Zee rb (.slice none 0 0)) w w') (hblk:w'.heap[rb]?=some (.cells (Zcv { st with head:=st.atom,atom:=[] } { V with h:=V.a,a := .slice none 0 0 }) 169 (0,0))) :
  IsR w' B rb { st with head:=st.atom,atom:=[] } { V with h:=V.a,a := .slice none 0 0 } w'.heap.size Sb vs xs:=by
 have hX:w.ownsRow B 169 1 (.slice none 0 0) 0 []:=World.ownsRow_nil _ _ _ _
 have r:=h.rest
 have hs:Sa≤w'.heap.size:=Qq r.la hk.size
 have ha:=Zbv r.atom hk h.blk hX (by decide) (by decide)
 exact ⟨hblk,⟨World.ownsRow_nil _ _ _ _,Zbv r.opn hk h.blk hX (by decide) (by decide),Zbv r.vars hk h.blk hX (by decide) (by decide),⟨ha,fun k e=>(ha.lt k e).2⟩,
  (Zet r.body hk h.blk hX (Or.inl (by decide)) (Or.inl (by decide))).more hs,(Zht r.cls hk h.blk hX (Or.inl (by decide)) (Or.inl (by decide)) (by decide) (Or.inl (by decide))).more hs (Qe _),fun k e=>by simp [Value.ownBlock] at e,r.tb,r.tv,Qe _,Qq r.lb hk.size⟩,h.le⟩
theorem IsR.bodied (h:IsR w B rb st V Sa Sb vs xs) (hk:Kept (Zee rb V.b) w w') (b':Value) (hblk:w'.heap[rb]?=some (.cells (Zcv { st with body:=st.body++[st.atom],atom:=[] } { V with b:=b',a := .slice none 0 0 }) 169 (0,0)))
  (ho:w'.ownsRow B 105 1 b' (st.body.length+1) (vs++[V.a])) (htb:∀ k,b'.ownBlock=some k→Sb≤k) :
  IsR w' B rb { st with body:=st.body++[st.atom],atom:=[] } { V with b:=b',a := .slice none 0 0 } w'.heap.size Sb (vs++[V.a]) xs:=by
 have r:=h.rest
 have hs:Sa≤w'.heap.size:=Qq r.la hk.size
 have ha:=Zbv r.atom hk h.blk r.body.1 (by decide) (by decide)
 have hvl:vs.length=st.body.length:=by have:=r.body.1.1; omega
 refine ⟨hblk,⟨World.ownsRow_nil _ _ _ _,Zbv r.opn hk h.blk r.body.1 (by decide) (by decide),Zbv r.vars hk h.blk r.body.1 (by decide) (by decide),(Zen r.head hk h.blk r.body.1 (Or.inl (by decide))).more hs,?_,
  (Zht r.cls hk h.blk r.body.1 (Or.inl (by decide)) (Or.inr r.tb) (by decide) (Or.inl (by decide))).more hs (Qe _),fun k e=>by simp [Value.ownBlock] at e,htb,r.tv,Qe _,Qq r.lb hk.size⟩,h.le⟩
 refine ⟨by simpa using ho,fun i l hl => ?_⟩
 rcases Nat.lt_or_ge i st.body.length with hi | hi
 ·simp only at hl
  rw [Qc hi] at hl
  obtain ⟨x,h1,h2⟩:=r.body.2 i l hl
  exact ⟨x,by rw [Qc (by omega)]; exact h1,(Zen h2 hk h.blk r.body.1 (Or.inl (by decide))).more hs⟩
 ·have hi':i=st.body.length:=by
   have:i<(st.body++[st.atom]).length:=(Qa.1 hl).1
   simp at this; omega
  subst hi'
  simp at hl
  subst hl
  exact ⟨V.a,by rw [← hvl]; simp,ha,fun k e=>(ha.lt k e).2⟩
theorem IsR.clausd (h:IsR w B rb st V Sa Sb vs xs) (hk:Kept (Zee rb V.c) w w') (c':Value) (st':RS) (hblk:w'.heap[rb]?=some (.cells (Zcv st' { V with c:=c',h := .slice none 0 0,b := .slice none 0 0,v := .slice none 0 0 }) 169 (0,0)))
  (ho:w'.ownsRow B 107 3 c' (st.clauses.length+1) (xs.flatten++[V.h,V.b,V.v]))
  (e1:st'.atom=st.atom) (e2:st'.opn=st.opn) (e3:st'.vars=[]) (e4:st'.head=[]) (e5:st'.body=[]) (e6:st'.clauses=st.clauses++[⟨st.head,st.body,st.vars⟩]) :
  IsR w' B rb st' { V with c:=c',h := .slice none 0 0,b := .slice none 0 0,v := .slice none 0 0 } Sa w'.heap.size [] (xs++[[V.h,V.b,V.v]]):=by
 have r:=h.rest
 have hs:Sb≤w'.heap.size:=Qq r.lb hk.size
 have hbd:=Zet r.body hk h.blk r.cls.1 (Or.inl (by decide)) (Or.inl (by decide))
 have hvd:=Zbv r.vars hk h.blk r.cls.1 (by decide) (by decide)
 refine ⟨hblk,⟨?_,?_,?_,?_,?_,?_,r.ta,fun k e=>by simp [Value.ownBlock] at e,fun k e=>by simp [Value.ownBlock] at e,Qq r.la hk.size,Qe _⟩,h.le⟩
 ·rw [e1]; exact Zbv r.atom hk h.blk r.cls.1 (by decide) (by decide)
 ·rw [e2]; exact Zbv r.opn hk h.blk r.cls.1 (by decide) (by decide)
 ·rw [e3]; exact World.ownsRow_nil _ _ _ _
 ·rw [e4]; exact ⟨World.ownsRow_nil _ _ _ _,fun k e=>by simp [Value.ownBlock] at e⟩
 ·rw [e5]; exact ⟨World.ownsRow_nil _ _ _ _,fun i l hl=>by simp at hl⟩
 ·rw [e6]
  refine ⟨by simpa using ho,by simp [r.cls.2.1],?_,fun i c hc => ?_⟩
  ·intro x hx
   simp at hx
   rcases hx with hx | rfl
   ·exact r.cls.2.2.1 x hx
   ·rfl
  ·rcases Nat.lt_or_ge i st.clauses.length with hi | hi
   ·rw [Qc hi] at hc
    obtain ⟨hv,bv,vv,us,d1,d2,d3,d4⟩:=r.cls.2.2.2 i c hc
    exact ⟨hv,bv,vv,us,by rw [Qc (by rw [r.cls.2.1]; exact hi)]; exact d1,Zen d2 hk h.blk r.cls.1 (Or.inl (by decide)),Zet d3 hk h.blk r.cls.1 (Or.inl (by decide)) (Or.inl (by decide)),fun k e=>Nat.lt_of_lt_of_le (d4.1 k e) hs,Zbv d4.2.1 hk h.blk r.cls.1 (by decide) (by decide),fun k e=>Nat.lt_of_lt_of_le (d4.2.2 k e) hs⟩
   ·have hi':i=st.clauses.length:=by
     have:i<(st.clauses++[(⟨st.head,st.body,st.vars⟩:CC)]).length:=(Qa.1 hc).1
     simp at this; omega
    subst hi'
    simp at hc
    subst hc
    exact ⟨V.h,V.b,V.v,vs,by rw [← r.cls.2.1]; simp,Zen r.head hk h.blk r.cls.1 (Or.inl (by decide)),hbd,fun k e=>(hbd.1.lt k e).2,hvd,fun k e=>(hvd.lt k e).2⟩
end
def IsRx (w:World) (B rb:Nat) (st:RS):Prop:=∃ V Sa Sb vs xs,IsR w B rb st V Sa Sb vs xs
theorem Zgh {w w1:World} {rb:Nat} {X:Value} (h:Kept (Zbl X) w w1) (i:Nat) (u:Value):Kept (Zee rb X) w (w1.setCell ⟨rb,i,none⟩ u) :=
 Qy (S:=Zee rb X) (h.mono (fun _ _ e=>Or.inr e)) (p:=⟨rb,i,none⟩) (fun _=>Or.inl rfl) u
theorem Zda {w w1:World} {rb:Nat} {X:Value} (h:Kept (Zee rb X) w w1) (i:Nat) (u:Value):Kept (Zee rb X) w (w1.setCell ⟨rb,i,none⟩ u) :=
 Qy (S:=Zee rb X) h (p:=⟨rb,i,none⟩) (fun _=>Or.inl rfl) u
def Zie (st:RS):RS := { st with opn:=st.opn.tail }
theorem Zzk (w:World) (B rb:Nat) (st:RS) (h:IsRx w B rb st) (hl:st.opn.length≤4096) :
  Calls Tryz.prog 170 #[.pointer (some ⟨rb,0,none⟩)] w fun e w'=>e = .returned (.tuple #[])∧IsRx w' B rb (Zie st)∧Held B w w':=by
 obtain ⟨V,Sa,Sb,vs,xs,h⟩:=h
 obtain ⟨c0,c1,c2,c3,c4,c5,c6,c7,c8⟩:=h.opens.facts
 have hf:=fun i=>Zae h.blk i
 have hrb:=Zab h.blk
 obtain ⟨oa,ocap,hvo⟩:=Zad h.rest.opn
 cases hst:st.opn with
 | nil =>
  rw [hvo] at c4
  simp only [hst,Jt] at c4
  have Hr:Hid (Zie st=st):=by
   show _=_
   cases st
   simp only at hst
   subst hst
   rfl
  have H:=Zac h
  clear h hvo hst
  go_enter Tryz.func170,Tryz.ntmps170
  go_wp2
  go_end0
  rw [Hr.out]
  exact ⟨rfl,⟨V,Sa,Sb,vs,xs,H.out⟩,Held.refl _ _⟩
 | cons n r =>
  have hrl:r.length+1≤4096:=by rw [hst] at hl; simpa using hl
  have hop:=h.rest.opn
  rw [hst,hvo,hst] at hop
  obtain ⟨g,gcap,gcur,he,hBg,hg,hcap⟩:=Zaw hop (by simp)
  simp only [Value.slice.injEq] at he
  obtain ⟨rfl,_,rfl⟩:=he
  rw [hvo] at c4
  simp only [hst,Qf] at c4 hcap hop
  have hpop:=Zuj (n:=r.length) hop
  have hvo':V.o = .slice (some ⟨g,0,none⟩) (r.length+1) ocap:=by rw [hvo,hst]; rfl
  have H:=Zac h
  have Hst:=Zac hst
  have Hpop:=Zac hpop
  have Hvo:=Zac hvo'
  clear h hvo hst hop hg hpop hvo'
  go_enter Tryz.func170,Tryz.ntmps170
  go_wp2_with fail
  go_region
  go_end0
  have hk:Kept (Zee rb V.o) w (w.setCell ⟨rb,4,none⟩ (.slice (some ⟨g,0,none⟩) r.length ocap)):=(Qx _ w).setCell (p:=⟨rb,4,none⟩) (fun _=>Or.inl rfl) _
  have hpop':(w.setCell ⟨rb,4,none⟩ (.slice (some ⟨g,0,none⟩) r.length ocap)).ownsRow B 3 1 (.slice (some ⟨g,0,none⟩) r.length ocap) r.length (ints r.reverse):=by
   have e:(ints (n::r).reverse).take r.length=ints r.reverse:=by simp [ints]
   have h2:=Hpop.out
   rw [e] at h2
   exact ((Qx (only rb) w).put 4 _).owns h2 (fun k hko e=>by
    have e:k=rb:=e
    rw [e] at hko
    exact Zaf h2 (by decide) H.out.blk hko)
  have hR:=H.out.opened hk r (.slice (some ⟨g,0,none⟩) r.length ocap) (Zai H.out.blk 4 _) hpop'
  have hc:Zie st = { st with opn:=r }:=by simp [Zie,Hst.out]
  rw [hc]
  refine ⟨rfl,⟨_,Sa,Sb,vs,xs,⟨hR.blk,⟨hR.rest.atom,hR.rest.opn,hR.rest.vars,hR.rest.head,hR.rest.body,hR.rest.cls,hR.rest.ta,hR.rest.tb,hR.rest.tv,hR.rest.la,hR.rest.lb⟩,hR.le⟩⟩,?_⟩
  exact (H.out.below hk H.out.rest.opn (by decide)).drew
def varS (st:RS) (t:List UInt8):RS := { st with vars:=(Zbb st.vars t).1 }
theorem Zqm (w:World) (B rb:Nat) (st:RS) (t:List UInt8) (h:IsRx w B rb st) (hl:st.vars.length≤4096) :
  Calls Tryz.prog 169 #[.pointer (some ⟨rb,0,none⟩),.string ⟨t.toArray⟩] w fun e w'=>e = .returned (.int .i64 (Zbb st.vars t).2)∧IsRx w' B rb (varS st t)∧Held B w w':=by
 obtain ⟨V,Sa,Sb,vs,xs,h⟩:=h
 obtain ⟨c0,c1,c2,c3,c4,c5,c6,c7,c8⟩:=h.opens.facts
 have hrb:=Zab h.blk
 obtain ⟨va,vcap,hvv⟩:=Zad h.rest.vars
 have hown:=h.rest.vars
 rw [hvv] at c7 hown
 have H:=Zac h
 have Hown:=Zac hown
 have Hvv:=Zac hvv
 have hBw:B≤w.heap.size:=by have:=h.le; omega
 clear h hown hvv
 go_enter Tryz.func169,Tryz.ntmps169
 go_wp2
 go_loop [13] (fun i=>∃ k:Nat,k≤st.vars.length∧i = .int .i64 k∧t ∉ st.vars.take k) (fun i=>st.vars.length - (intOf i).toNat)
 case atStart=>exact ⟨0,Qm _,rfl,by simp⟩
 case round =>
  obtain ⟨k,hk,rfl,hnot⟩:=hrel
  have Hnot:=Zac hnot
  clear hnot
  by_cases hlt:k<st.vars.length
  ·obtain ⟨g,cap',cur,he,hBg,hg,hcp⟩:=Zaw Hown.out (by omega)
   simp only [Value.slice.injEq] at he
   obtain ⟨rfl,_,rfl⟩:=he
   obtain ⟨nm,hnm⟩:∃ nm,nm=st.vars[k]:=⟨_,rfl⟩
   have hc:w.cell? ⟨g,k,none⟩=some (.string ⟨nm.toArray⟩):=Zag Hown.out k _ (by simp [strs,hlt,hnm])
   have Hnm:=Zac hnm
   clear hg hnm
   go_wp2
   ·have hq:nm=t:=eq_of_beq (by assumption)
    go_ret
    have hr:=Zqc hlt (Hnm.out.symm.trans hq) Hnot.out
    rw [varS,hr]
    exact ⟨rfl,⟨V,Sa,Sb,vs,xs,H.out⟩,Held.refl _ _⟩
   ·have hq:nm≠t:=ne_of_beq_false (by assumption)
    go_round
    case rel=>exact ⟨k+1,by omega,by go_num,Yip hlt (fun h=>hq (Hnm.out.trans h)) Hnot.out⟩
    case measure=>simp [intOf]; omega
  ·have Hmiss:=Zac (Zok hlt Hnot.out)
   go_wp2_with (at_builtin; refine Zam _ rfl (.tmp 28) (.tmp 30) 47 rfl B 9 Tryz.infoStr Tryz.underlying47 rfl (by decide) _ st.vars.length (strs st.vars) rfl Hown.out _ rfl rfl rfl (Zyt _) ?_ hBw ?_)
   ·omega
   intro v' w1 hap
   obtain ⟨v1a,v1cap,rfl⟩:=Zad hap.owns
   have hnb:¬ Zbl (.slice va st.vars.length vcap) rb:=Zaf Hown.out (by decide) H.out.blk
   have hblk1:=(hap.kept.block rb hrb hnb).trans H.out.blk
   have d7:w1.cell? ⟨rb,7,none⟩=some V.v:=Zaa hblk1 7 _ rfl
   rw [Hvv.out] at d7
   have df:=fun i=>Zae hblk1 i
   have Hap:=Zac hap
   have Hblk1:=Zac hblk1
   clear hap hblk1 c0 c1 c2 c3 c4 c5 c6 c7 c8
   go_wp2
   go_ret
   have hk:Kept (Zee rb V.v) w (w1.setCell ⟨rb,7,none⟩ (.slice v1a (st.vars.length+1) v1cap)):=by
    rw [Hvv.out]
    exact Zgh Hap.out.kept 7 _
   have hrow:(w1.setCell ⟨rb,7,none⟩ (.slice v1a (st.vars.length+1) v1cap)).ownsRow B 9 1 (.slice v1a (st.vars.length+1) v1cap) (st.vars++[t]).length (strs (st.vars++[t])):=by
    have h2:=Hap.out.owns
    have h3:=((Qx (only rb) w1).put 7 (.slice v1a (st.vars.length+1) v1cap)).owns h2 (fun k hko e=>by
     have e:k=rb:=e
     rw [e] at hko
     exact Zaf h2 (by decide) Hblk1.out hko)
    simpa [strs] using h3
   have hR:=H.out.named hk (st.vars++[t]) (.slice v1a (st.vars.length+1) v1cap) (Zai Hblk1.out 7 _) hrow (fun k e=>by
    rcases Hap.out.where_ with hw | ⟨g,hw,hg⟩
    ·exact H.out.rest.tv k (by rw [Hvv.out]; exact hw.symm.trans e)
    ·have e2:=hw.symm.trans e
     simp only [Qo] at e2
     have:=H.out.rest.lb
     omega)
   rw [varS,Hmiss.out]
   refine ⟨Zjo ?_,⟨_,Sa,Sb,vs,xs,hR⟩,H.out.below hk H.out.rest.vars (by decide)⟩
   omega
theorem Zct {P:Program} {ops:Array Oper} {o:Oper} {a:Act} {K:Act→World→Prop} {Q:Exit→Act→World→Prop} {E:Prop} {W:World} (w:World) (hg:o.guard=none) (s x:Operand) (t:TypeId)
  (ho:o.op = .call { callee := .builtin .append,args:=#[s,x],argTypes:=#[t,t] })
  (base:Nat) (e:TypeId) {z:Value} {size bytes:Nat}
  (hinfo:(P.info? e).map (fun i=>(i.zero,i.size,i.bytes))=some (some z,size,bytes)) (ht:P.underlying t=some (.slice e)) (hzs:z.cells.size=size) (hsz:0<size)
  (v:Value) (n:Nat) (xs:List Value) (hs:a.eval s=v) (hown:w.ownsRow base e size v n xs)
  (news:Array Value) {N:Nat} (hx:a.eval x = .slice (some ⟨N,0,none⟩) 1 1) (hN:N=w.heap.size) (hl:news.size=size) (h1:∀ u ∈ news.toList,u.oneCell'=true)
  (hbig:(n+1) * (bytes+1)≤140737488355328) (hbase:base≤w.heap.size) (hW:W=w.alloc (.cells news e))
  (h:∀ v' w',Appended w base e size v (n+1) (xs++news.toList) v' w'→K (a.put o.dst v') w'):if Region.wanted o (yielded ops a.tmps)=true then Oper.wp P o a W K Q else E:=by
 have hw:Region.wanted o (yielded ops a.tmps)=true:=by simp [Region.wanted,hg]
 rw [if_pos hw,hW]
 exact Znb w s x t ho base e hinfo ht hzs hsz v n xs hs hown news hx hN hl h1 hbig hbase h
theorem Zqn {w w1:World} {o:Obj} {n rb:Nat} {X:Value} {cs:Array Value} {T:TypeId} (h:Kept (Zbl X) ((w.alloc o).drewN n) w1) (hb:w.heap[rb]?=some (.cells cs T (0,0))) (hx:¬ Zbl X rb):w1.heap[rb]?=some (.cells cs T (0,0)) :=
 (h.block rb (by have:=Zab hb; show rb<(w.alloc o).heap.size; simp; omega) hx).trans (Zav hb o)
def Zcf (st:RS):List Sym:=match st.opn with
 | []=>st.atom
 | n::_=>st.atom.modify n (fun s => { s with args:=s.args+1 })
def addS (st:RS) (s:Sym):RS := { st with atom:=Zcf st++[s] }
theorem Zgs (x:ByteArray) (y z:Int):∀ u ∈ (#[Value.string x,.int .i64 y,.int .i64 z]:Array Value).toList,u.oneCell'=true:=by
 intro u hu
 simp at hu
 rcases hu with rfl | rfl | rfl <;> rfl
theorem Ydo {w w1:World} {B rb nd:Nat} {st:RS} {V:RV} {Sa Sb:Nat} {vs:List Value} {xs:List (List Value)} {s:Sym} {o:Obj} {a1:Option Addr} {a1cap:Nat} (H:IsR w B rb st V Sa Sb vs xs)
  (hap:Appended ((w.alloc o).drewN nd) B 133 3 V.a (st.atom.length+1) (Zah st.atom++[.string ⟨s.name.toArray⟩,.int .i64 s.num,.int .i64 s.args]) (.slice a1 (st.atom.length+1) a1cap) w1) :
  IsR (w1.setCell ⟨rb,3,none⟩ (.slice a1 (st.atom.length+1) a1cap)) B rb { st with atom:=st.atom++[s] } { V with a := .slice a1 (st.atom.length+1) a1cap } Sa Sb vs xs∧Held B w (w1.setCell ⟨rb,3,none⟩ (.slice a1 (st.atom.length+1) a1cap)):=by
 have hat:=H.rest.atom
 have hblk1:=Zqn hap.kept H.blk (Zaf hat (by decide) H.blk)
 have hk:Kept (Zee rb V.a) w (w1.setCell ⟨rb,3,none⟩ (.slice a1 (st.atom.length+1) a1cap)):=Zgh ((((Qx _ w).alloc _).drewN _).trans hap.kept) 3 _
 have hrow:(w1.setCell ⟨rb,3,none⟩ (.slice a1 (st.atom.length+1) a1cap)).ownsRow B 133 3 (.slice a1 (st.atom.length+1) a1cap) (st.atom++[s]).length (Zah (st.atom++[s])):=by
  have h2:=hap.owns
  have h3:=((Qx (only rb) w1).put 3 (.slice a1 (st.atom.length+1) a1cap)).owns h2 (fun k hko e=>by
   have e:k=rb:=e
   rw [e] at hko
   exact Zaf h2 (by decide) hblk1 hko)
  simpa [Zah,Zbu] using h3
 have hta:∀ k,(Value.slice a1 (st.atom.length+1) a1cap).ownBlock=some k→Sa≤k:=by
  intro k hk
  rcases hap.where_ with hw | ⟨g,hw,hg⟩
  ·exact H.rest.ta k (by rw [← hw]; exact hk)
  ·rw [hk] at hw
   simp at hw
   have:=H.rest.la
   have hg':w.heap.size+1≤g:=by simpa using hg
   omega
 exact ⟨H.atoms hk (st.atom++[s]) (.slice a1 (st.atom.length+1) a1cap) (Zai hblk1 3 _) hrow hta,H.below hk hat (by decide)⟩
theorem Zlz {w:World} {B:Nat} {e:TypeId} {g n cap size:Nat} {xs:List Value} (h:w.ownsRow B e size (.slice (some ⟨g,0,none⟩) n cap) n xs) (i:Nat) (u:Value) :
  (w.setCell ⟨g,i,none⟩ u).ownsRow B e size (.slice (some ⟨g,0,none⟩) n cap) n (xs.set i u):=by
 refine ⟨by simpa using h.1,?_⟩
 rcases h.2 with ⟨h1,_⟩ | ⟨g',cap',cur,h1,hb,hg,hn,hc,hs,ht⟩
 ·simp at h1
 ·simp at h1
  obtain ⟨rfl,rfl⟩:=h1
  refine .inr ⟨g,cap,cur.setIfInBounds i u,rfl,hb,Zai hg i u,hn,hc,by simpa using hs,?_⟩
  rw [← ht]
  simp [List.take_set]
theorem Zzl (l:List Sym) (n:Nat) (s:Sym) (h:l[n]?=some s):Zah (l.modify n (fun s => { s with args:=s.args+1 }))=(Zah l).set (n * 3+2) (.int .i64 ((s.args:Int)+1)):=by
 induction l generalizing n with
 | nil=>simp at h
 | cons a l ih =>
  cases n with
  | zero =>
   simp at h; subst h
   simp [Zah,Zbu,List.modify]
  | succ n =>
   have:=ih n (by simpa using h)
   simp only [List.modify_succ_cons]
   show Zbu a++Zah _=(Zbu a++Zah l).set _ _
   rw [this,List.set_append_right _ _ (by simp [Zbu]; omega)]
   congr 2
   simp [Zbu]
   omega
theorem Ygr (w:World) (B rb:Nat) (st:RS) (s:Sym) (h:IsRx w B rb st) (hb:RBd st) (ho:st.opn=[]) :
  Calls Tryz.prog 168 #[.pointer (some ⟨rb,0,none⟩),.agg #[.string ⟨s.name.toArray⟩,.int .i64 s.num,.int .i64 s.args]] w fun e w'=>e = .returned (.tuple #[])∧IsRx w' B rb (addS st s)∧Held B w w':=by
 obtain ⟨V,Sa,Sb,vs,xs,h⟩:=h
 have hrb:=Zab h.blk
 have hBw:B≤w.heap.size:=by have:=h.le; omega
 obtain ⟨aa,acap,hva⟩:=Zad h.rest.atom
 have hat:=h.rest.atom
 rw [hva] at hat
 have hla:=hb.atom
 have HW:∀ o,ROpen (w.alloc o) B rb st V:=fun o=>h.opens.later (S:=Zcu) ((Qx _ w).alloc o) (fun h=>h) (fun _ _ h=>h) (fun _ _ h=>h)
 have HO:=Zac (fun o=>Zly (w.alloc o) B rb st V (HW o) hb.opn hb.atom)
 have hoi:Zey st = -1:=by simp [Zey,ho]
 have Hoi:=Zac hoi
 obtain ⟨c0,c1,c2,c3,c4,c5,c6,c7,c8⟩:=h.opens.facts
 have hf:=fun i=>Zae h.blk i
 rw [hva] at c3
 have H:=Zac h
 have Hat:=Zac hat
 have Hva:=Zac hva
 have Hadd:Hid (addS st s = { st with atom:=st.atom++[s] }):=by show _=_; simp [addS,Zcf,ho]
 clear h hat hva HW ho hoi
 go_enter Tryz.func168,Tryz.ntmps168
 go_wp2_with fail
 refine (HO.out _).mono ?_
 rintro e w1 ⟨rfl,nd,rfl⟩
 rw [Hoi.out]
 go_wp2_with fail
 go_region_law (refine Zct ((w.alloc (.cells #[.string ⟨s.name.toArray⟩,.int .i64 s.num,.int .i64 s.args] 133)).drewN (nd+1)) rfl (.tmp 24) (.tmp 26) 105 rfl B 133 Tryz.infoSym Tryz.underlying105 rfl (by decide) (.slice aa st.atom.length acap) st.atom.length (Zah st.atom) rfl (Hat.out.alloc _) #[.string ⟨s.name.toArray⟩,.int .i64 s.num,.int .i64 s.args] rfl (by simp) rfl (Zgs _ _ _) (by omega) (by simp; omega) rfl ?_; intro v' w1 hap; obtain ⟨a1,a1cap,rfl⟩:=Zad hap.owns; have hblk1:=Zqn hap.kept H.out.blk (Zaf Hat.out (by decide) H.out.blk); have d3:w1.cell? ⟨rb,3,none⟩=some V.a:=Zaa hblk1 3 _ rfl; have df:=fun i=>Zae hblk1 i; have Hap:=Zac hap; have Hblk1:=Zac hblk1; clear hap hblk1)
 all_goals
  go_end0
  rw [Hadd.out]
  have hap:=Hap.out
  rw [← Hva.out] at hap
  obtain ⟨hR,hB⟩:=Ydo H.out hap
  exact ⟨rfl,⟨_,Sa,Sb,vs,xs,hR⟩,hB⟩
theorem IsR.fresh {w w':World} {B rb:Nat} {st:RS} {V:RV} {Sa Sb:Nat} {vs:List Value} {xs:List (List Value)} (h:IsR w B rb st V Sa Sb vs xs) (hk:Kept Zcu w w'):IsR w' B rb st V Sa Sb vs xs :=
 h.only (hk.mono (fun _ _ h=>h.elim)) st ((hk.block rb (Zab h.blk) (fun h=>h)).trans h.blk) rfl rfl rfl rfl rfl rfl
theorem IsR.counted {w:World} {B rb:Nat} {st:RS} {V:RV} {Sa Sb:Nat} {vs:List Value} {xs:List (List Value)} {n g acap:Nat} {r:List Nat} {so:Sym} (h:IsR w B rb st V Sa Sb vs xs) (ho:st.opn=n::r) (hso:st.atom[n]?=some so)
  (hva:V.a = .slice (some ⟨g,0,none⟩) st.atom.length acap):IsR (w.setCell ⟨g,n * 3+2,none⟩ (.int .i64 ((so.args:Int)+1))) B rb { st with atom:=Zcf st } V Sa Sb vs xs∧Held B w (w.setCell ⟨g,n * 3+2,none⟩ (.int .i64 ((so.args:Int)+1))):=by
 have hat:=h.rest.atom
 rw [hva] at hat
 have hgb:¬ rb=g:=fun e=>by subst e; exact Zaf hat (by decide) h.blk rfl
 have hrow1:=Zlz hat (n * 3+2) (.int .i64 ((so.args:Int)+1))
 rw [← Zzl st.atom n so hso] at hrow1
 have hblkW:(w.setCell ⟨g,n * 3+2,none⟩ (.int .i64 ((so.args:Int)+1))).heap[rb]?=some (.cells (Zcv st V) 169 (0,0)):=by
  rw [Below.heap_setCell _ _ _ _ hgb]; exact h.blk
 have hkW:Kept (Zee rb V.a) w (w.setCell ⟨g,n * 3+2,none⟩ (.int .i64 ((so.args:Int)+1))):=(Qx _ w).setCell (p:=⟨g,n * 3+2,none⟩) (fun _=>Or.inr (by rw [hva]; rfl)) _
 have hbl:(Zcf st).length=st.atom.length:=by simp [Zcf,ho]
 have hbs:Zcf st=st.atom.modify n (fun s => { s with args:=s.args+1 }):=by simp [Zcf,ho]
 exact ⟨h.atoms hkW (Zcf st) V.a hblkW (by rw [hbl,hbs,hva]; exact hrow1) h.rest.ta,h.below hkW h.rest.atom (by decide)⟩
theorem Zfb {w w1:World} {n rb:Nat} {X:Value} {cs:Array Value} {T:TypeId} (h:Kept (Zbl X) (w.drewN n) w1) (hb:w.heap[rb]?=some (.cells cs T (0,0))) (hx:¬ Zbl X rb):w1.heap[rb]?=some (.cells cs T (0,0)) :=
 (h.block rb (Zab hb) hx).trans hb
theorem Zzm {w w1:World} {B rb nd:Nat} {st:RS} {V:RV} {Sa Sb:Nat} {vs:List Value} {xs:List (List Value)} {s:Sym} {a1:Option Addr} {a1cap:Nat} (H:IsR w B rb st V Sa Sb vs xs)
  (hap:Appended (w.drewN nd) B 133 3 V.a (st.atom.length+1) (Zah st.atom++[.string ⟨s.name.toArray⟩,.int .i64 s.num,.int .i64 s.args]) (.slice a1 (st.atom.length+1) a1cap) w1) :
  IsR (w1.setCell ⟨rb,3,none⟩ (.slice a1 (st.atom.length+1) a1cap)) B rb { st with atom:=st.atom++[s] } { V with a := .slice a1 (st.atom.length+1) a1cap } Sa Sb vs xs∧Held B w (w1.setCell ⟨rb,3,none⟩ (.slice a1 (st.atom.length+1) a1cap)):=by
 have hat:=H.rest.atom
 have hblk1:=Zfb hap.kept H.blk (Zaf hat (by decide) H.blk)
 have hk:Kept (Zee rb V.a) w (w1.setCell ⟨rb,3,none⟩ (.slice a1 (st.atom.length+1) a1cap)):=Zgh (((Qx _ w).drewN _).trans hap.kept) 3 _
 have hrow:(w1.setCell ⟨rb,3,none⟩ (.slice a1 (st.atom.length+1) a1cap)).ownsRow B 133 3 (.slice a1 (st.atom.length+1) a1cap) (st.atom++[s]).length (Zah (st.atom++[s])):=by
  have h2:=hap.owns
  have h3:=((Qx (only rb) w1).put 3 (.slice a1 (st.atom.length+1) a1cap)).owns h2 (fun k hko e=>by
   have e:k=rb:=e
   rw [e] at hko
   exact Zaf h2 (by decide) hblk1 hko)
  simpa [Zah,Zbu] using h3
 have hta:∀ k,(Value.slice a1 (st.atom.length+1) a1cap).ownBlock=some k→Sa≤k:=by
  intro k hk
  rcases hap.where_ with hw | ⟨g,hw,hg⟩
  ·exact H.rest.ta k (by rw [← hw]; exact hk)
  ·rw [hk] at hw
   simp at hw
   have:=H.rest.la
   have hg':w.heap.size≤g:=by simpa using hg
   omega
 exact ⟨H.atoms hk (st.atom++[s]) (.slice a1 (st.atom.length+1) a1cap) (Zai hblk1 3 _) hrow hta,H.below hk hat (by decide)⟩
theorem Yis (w:World) (B rb:Nat) (st:RS) (s:Sym) (n:Nat) (r:List Nat) (h:IsRx w B rb st) (hb:RBd st) (ho:st.opn=n::r) (hn:n<st.atom.length) :
  Calls Tryz.prog 168 #[.pointer (some ⟨rb,0,none⟩),.agg #[.string ⟨s.name.toArray⟩,.int .i64 s.num,.int .i64 s.args]] w fun e w'=>e = .returned (.tuple #[])∧IsRx w' B rb (addS st s)∧Held B w w':=by
 obtain ⟨V,Sa,Sb,vs,xs,h⟩:=h
 have hrb:=Zab h.blk
 have hBw:B≤w.heap.size:=by have:=h.le; omega
 have hla:=hb.atom
 obtain ⟨so,hso⟩:∃ so,st.atom[n]?=some so:=⟨_,Qb hn⟩
 have hargs:=hb.args so (Qh hso)
 have HW:∀ o,ROpen (w.alloc o) B rb st V:=fun o=>h.opens.later (S:=Zcu) ((Qx _ w).alloc o) (fun h=>h) (fun _ _ h=>h) (fun _ _ h=>h)
 have HO:=Zac (fun o=>Zly (w.alloc o) B rb st V (HW o) hb.opn hb.atom)
 have Hoi:Hid (Zey st=n):=by show _=_; simp [Zey,ho]; omega
 have H:=Zac h
 have Ho:=Zac ho
 have Hso:=Zac hso
 clear h HW ho hso
 go_enter Tryz.func168,Tryz.ntmps168
 go_wp2_with fail
 refine (HO.out _).mono ?_
 rintro e w1 ⟨rfl,nd,hw1⟩
 rw [Hoi.out]
 have hk1:Kept Zcu w w1:=by rw [hw1]; exact ((Qx _ w).alloc _).drewN _
 have b0:w1.cell? ⟨w.heap.size,0,none⟩=some (.string ⟨s.name.toArray⟩):=by rw [hw1]; exact Zgb w _ _ 0 _ rfl
 have b1:w1.cell? ⟨w.heap.size,1,none⟩=some (.int .i64 s.num):=by rw [hw1]; exact Zgb w _ _ 1 _ rfl
 have b2:w1.cell? ⟨w.heap.size,2,none⟩=some (.int .i64 s.args):=by rw [hw1]; exact Zgb w _ _ 2 _ rfl
 have hsz1:w.heap.size<w1.heap.size:=by rw [hw1]; show w.heap.size<(w.alloc _).heap.size; simp
 clear hw1
 have h1:=H.out.fresh hk1
 obtain ⟨aa,acap,hva⟩:=Zad h1.rest.atom
 have hat:=h1.rest.atom
 rw [hva] at hat
 obtain ⟨g,gcap,gcur,he,hBg,hg,hcap⟩:=Zaw hat (by omega)
 simp only [Value.slice.injEq] at he
 obtain ⟨rfl,_,rfl⟩:=he
 have hgl:g<w.heap.size:=(H.out.rest.atom.lt g (by rw [hva]; rfl)).2
 have hgb:¬ rb=g:=fun e=>by subst e; exact Zaf hat (by decide) h1.blk rfl
 have cg:w1.cell? ⟨g,n * 3+2,none⟩=some (.int .i64 so.args):=Zag hat _ _ (by rw [Zax _ n so Hso.out 2 (by omega)]; rfl)
 have fg:=Zae hg (n * 3+2)
 have c3:w1.cell? ⟨rb,3,none⟩=some V.a:=h1.opens.facts.2.2.2.1
 rw [hva] at c3
 obtain ⟨hR1,hB1⟩:=h1.counted Ho.out Hso.out hva
 have Hat1:Hid ((w1.setCell ⟨g,n * 3+2,none⟩ (.int .i64 ((so.args:Int)+1))).ownsRow B 133 3 (.slice (some ⟨g,0,none⟩) st.atom.length acap) (Zcf st).length (Zah (Zcf st))):=by
  have h2:=hR1.rest.atom
  simp only at h2
  rw [hva] at h2
  exact h2
 have hbl:(Zcf st).length=st.atom.length:=by simp [Zcf,Ho.out]
 have Hbl:=Zac hbl
 have Hat2:=Hat1.out
 rw [hbl] at Hat2
 have HAT:=Zac Hat2
 have HB1:=Zac ((Held.fresh hk1 hBw).trans hB1)
 have H1:=Zac hR1
 have Hva:=Zac hva
 have hsz2:B≤w1.heap.size:=by omega
 have hrb1:rb<w1.heap.size:=by omega
 have hg1:g<w1.heap.size:=by omega
 clear h1 hat hva hg hR1 hB1 Hat1 Hat2 hbl hk1
 go_wp2_with fail
 go_region_law (refine Zct ((w1.setCell ⟨g,n * 3+2,none⟩ (.int .i64 ((so.args:Int)+1))).drewN 1) rfl (.tmp 24) (.tmp 26) 105 rfl B 133 Tryz.infoSym Tryz.underlying105 rfl (by decide) (.slice (some ⟨g,0,none⟩) st.atom.length acap) st.atom.length (Zah (Zcf st)) rfl HAT.out #[.string ⟨s.name.toArray⟩,.int .i64 s.num,.int .i64 s.args] rfl (by simp) rfl (Zgs _ _ _) (by omega) (by simp; omega) rfl ?_; intro v' w2 hap; obtain ⟨a1,a1cap,rfl⟩:=Zad hap.owns; have hblk1:=Zfb hap.kept H1.out.blk (Zaf HAT.out (by decide) H1.out.blk); have d3:w2.cell? ⟨rb,3,none⟩=some V.a:=Zaa hblk1 3 _ rfl; have df:=fun i=>Zae hblk1 i; have Hap:=Zac hap; clear hap hblk1)
 all_goals
  go_end0
  have hap:=Hap.out
  rw [← Hva.out] at hap
  rw [← Hbl.out] at hap
  obtain ⟨hR,hB⟩:=Zzm H1.out hap
  simp only [Hbl.out] at hR hB
  exact ⟨rfl,⟨_,Sa,Sb,vs,xs,hR⟩,HB1.out.trans hB⟩
def Zap (st:RS):RS:=if st.inBody then { st with body:=st.body++[st.atom],atom:=[] } else { st with head:=st.atom,atom:=[] }
theorem Zdm (a:Option Addr) (n c:Nat):∀ u ∈ (#[Value.slice a n c]:Array Value).toList,u.oneCell'=true:=by
  intro u hu
  simp at hu
  subst hu
  rfl
theorem Zij (w:World) (B rb:Nat) (st:RS) (h:IsRx w B rb st) (hb:RBd st) :
    Calls Tryz.prog 172 #[.pointer (some ⟨rb,0,none⟩)] w fun e w'=>e = .returned (.tuple #[])∧IsRx w' B rb (Zap st)∧Held B w w':=by
  obtain ⟨V,Sa,Sb,vs,xs,h⟩:=h
  have hrb:=Zab h.blk
  have hBw:B≤w.heap.size:=by have:=h.le; omega
  obtain ⟨c0,c1,c2,c3,c4,c5,c6,c7,c8⟩:=h.opens.facts
  have hf:=fun i=>Zae h.blk i
  obtain ⟨aa,acap,hva⟩:=Zad h.rest.atom
  obtain ⟨ba,bcap,hvb⟩:=Zad h.rest.body.1
  have hlb:=hb.body
  have hbr:=h.rest.body.1
  rw [hvb] at hbr c6
  rw [hva] at c3
  obtain ⟨ha,hac,hvh⟩:=Zad h.rest.head.1
  rw [hvh] at c5
  have H:=Zac h
  have Hbr:=Zac hbr
  have Hva:=Zac hva
  have Hvb:=Zac hvb
  cases hin:st.inBody
  · rw [hin] at c2
    have He:Hid (Zap st = { st with head:=st.atom,atom:=[] }):=by show _=_; simp [Zap,hin]
    clear h hva hvb hbr hvh hin
    go_enter Tryz.func172,Tryz.ntmps172
    go_wp2
    go_end0
    have hk:Kept (Zee rb (.slice none 0 0)) w ((w.setCell ⟨rb,5,none⟩ (.slice aa st.atom.length acap)).setCell ⟨rb,3,none⟩ (.slice none 0 0)):=Zda (Zda (Qx _ w) 5 _) 3 _
    have hblk:((w.setCell ⟨rb,5,none⟩ (.slice aa st.atom.length acap)).setCell ⟨rb,3,none⟩ (.slice none 0 0)).heap[rb]?=some (.cells (Zcv { st with head:=st.atom,atom:=[] } { V with h:=V.a,a := .slice none 0 0 }) 169 (0,0)):=by
      rw [Zai (Zai H.out.blk 5 _) 3 _]
      simp [Zcv,Hva.out]
    rw [He.out]
    exact ⟨rfl,⟨_,_,_,_,_,H.out.headed hk hblk⟩,H.out.below hk (World.ownsRow_nil w B 169 1) (by decide)⟩
  · rw [hin] at c2
    have He:Hid (Zap st = { st with body:=st.body++[st.atom],atom:=[] }):=by show _=_; simp [Zap,hin]
    clear h hva hvb hbr hvh hin
    go_enter Tryz.func172,Tryz.ntmps172
    go_wp2_with fail
    go_region_law (refine Zct (w.drewN 1) rfl (.tmp 11) (.tmp 16) 85 rfl B 105 Tryz.infoSyms Tryz.underlying85 rfl (by decide) (.slice ba st.body.length bcap) st.body.length vs rfl Hbr.out #[.slice aa st.atom.length acap] rfl (by simp) rfl (Zdm _ _ _) (by omega) (by simp; omega) rfl ?_; intro v' w2 hap; obtain ⟨b1,b1cap,rfl⟩:=Zad hap.owns; have hblk1:=Zfb hap.kept H.out.blk (Zaf Hbr.out (by decide) H.out.blk); have d3:w2.cell? ⟨rb,3,none⟩=some V.a:=Zaa hblk1 3 _ rfl; have d6:w2.cell? ⟨rb,6,none⟩=some V.b:=Zaa hblk1 6 _ rfl; have df:=fun i=>Zae hblk1 i; have Hap:=Zac hap; have Hblk1:=Zac hblk1; clear hap hblk1)
    all_goals
      rw [Hva.out] at d3
      rw [Hvb.out] at d6
      go_wp2
      go_end0
      have hk:Kept (Zee rb V.b) w ((w2.setCell ⟨rb,6,none⟩ (.slice b1 (st.body.length+1) b1cap)).setCell ⟨rb,3,none⟩ (.slice none 0 0)):=by
        rw [Hvb.out]
        exact Zda (Zgh (((Qx _ w).drewN _).trans Hap.out.kept) 6 _) 3 _
      have hblk:((w2.setCell ⟨rb,6,none⟩ (.slice b1 (st.body.length+1) b1cap)).setCell ⟨rb,3,none⟩ (.slice none 0 0)).heap[rb]?=some (.cells (Zcv { st with body:=st.body++[st.atom],atom:=[] } { V with b := .slice b1 (st.body.length+1) b1cap,a := .slice none 0 0 }) 169 (0,0)):=by
        rw [Zai (Zai Hblk1.out 6 _) 3 _]
        simp [Zcv]
      have hrow:((w2.setCell ⟨rb,6,none⟩ (.slice b1 (st.body.length+1) b1cap)).setCell ⟨rb,3,none⟩ (.slice none 0 0)).ownsRow B 105 1 (.slice b1 (st.body.length+1) b1cap) (st.body.length+1) (vs++[V.a]):=by
        have h2:=Hap.out.owns
        have h3:=(((Qx (only rb) w2).put 6 (.slice b1 (st.body.length+1) b1cap)).put 3 (.slice none 0 0)).owns h2 (fun k hko e=>by
          have e:k=rb:=e
          rw [e] at hko
          exact Zaf h2 (by decide) Hblk1.out hko)
        rw [Hva.out]
        simpa using h3
      have htb:∀ k,(Value.slice b1 (st.body.length+1) b1cap).ownBlock=some k→Sb≤k:=by
        intro k hk
        rcases Hap.out.where_ with hw | ⟨g,hw,hg⟩
        · exact H.out.rest.tb k (by rw [Hvb.out,← hw]; exact hk)
        · rw [hk] at hw
          simp at hw
          have:=H.out.rest.lb
          have hg':w.heap.size≤g:=by simpa using hg
          omega
      rw [He.out]
      exact ⟨rfl,⟨_,_,_,_,_,H.out.bodied hk _ hblk hrow htb⟩,H.out.below hk H.out.rest.body.1 (by decide)⟩
end Go.Proofs.YtlmjilpjmgjjcaaGreatDoor
namespace Go.Proofs.YtlmjilpjmgjjcaaGreatDoor
open Go.RowKit
set_option linter.unusedSimpArgs false
set_option linter.unusedVariables false
theorem IsRx.next {w:World} {B rb:Nat} {st:RS} (h:IsRx w B rb st) (n:Nat):IsRx (w.setCell ⟨rb,1,none⟩ (.int .i64 n)) B rb { st with next:=n }∧Held B w (w.setCell ⟨rb,1,none⟩ (.int .i64 n)):=by
  obtain ⟨V,Sa,Sb,vs,xs,h⟩:=h
  have hk:Kept (Zee rb (.slice none 0 0)) w (w.setCell ⟨rb,1,none⟩ (.int .i64 n)):=Zda (Qx _ w) 1 _
  exact ⟨⟨V,Sa,Sb,vs,xs,h.only hk { st with next:=n } (Zai h.blk 1 _) rfl rfl rfl rfl rfl rfl⟩,h.below hk (World.ownsRow_nil w B 169 1) (by decide)⟩
theorem IsRx.inb {w:World} {B rb:Nat} {st:RS} (h:IsRx w B rb st) (b:Bool):IsRx (w.setCell ⟨rb,2,none⟩ (.bool b)) B rb { st with inBody:=b }∧Held B w (w.setCell ⟨rb,2,none⟩ (.bool b)):=by
  obtain ⟨V,Sa,Sb,vs,xs,h⟩:=h
  have hk:Kept (Zee rb (.slice none 0 0)) w (w.setCell ⟨rb,2,none⟩ (.bool b)):=Zda (Qx _ w) 2 _
  exact ⟨⟨V,Sa,Sb,vs,xs,h.only hk { st with inBody:=b } (Zai h.blk 2 _) rfl rfl rfl rfl rfl rfl⟩,h.below hk (World.ownsRow_nil w B 169 1) (by decide)⟩
theorem IsRx.cells {w:World} {B rb:Nat} {st:RS} (h:IsRx w B rb st):rb<w.heap.size∧w.cell? ⟨rb,0,none⟩=some (.bool st.query)∧w.cell? ⟨rb,1,none⟩=some (.int .i64 st.next)∧w.cell? ⟨rb,2,none⟩=some (.bool st.inBody) ∧
    (∃ oa oc,w.cell? ⟨rb,4,none⟩=some (.slice oa st.opn.length oc))∧∀ i,w.frozen? ⟨rb,i,none⟩=false:=by
  obtain ⟨V,Sa,Sb,vs,xs,h⟩:=h
  obtain ⟨c0,c1,c2,c3,c4,c5,c6,c7,c8⟩:=h.opens.facts
  obtain ⟨oa,oc,hvo⟩:=Zad h.rest.opn
  rw [hvo] at c4
  exact ⟨Zab h.blk,c0,c1,c2,⟨oa,oc,c4⟩,fun i=>Zae h.blk i⟩
def Zfs (st:RS):RS:=if st.opn.isEmpty then { Zap st with next:=1 } else { st with next:=2 }
theorem Zzn (w:World) (B rb:Nat) (st:RS) (h:IsRx w B rb st) (hb:RBd st) :
    Calls Tryz.prog 171 #[.pointer (some ⟨rb,0,none⟩)] w fun e w'=>e = .returned (.tuple #[])∧IsRx w' B rb (Zfs st)∧Held B w w':=by
  obtain ⟨hrb,c0,c1,c2,⟨oa,oc,c4⟩,hf⟩:=h.cells
  have hl:=hb.opn
  have H:=Zac h
  have HE:=Zac (Zij w B rb st h hb)
  cases hst:st.opn with
  | nil =>
    simp only [hst,Jt] at c4
    have Hc:Hid (Zfs st = { Zap st with next:=1 }):=by show _=_; simp [Zfs,hst]
    clear h hst
    go_enter Tryz.func171,Tryz.ntmps171
    go_wp2_with fail
    refine HE.out.mono ?_
    rintro e w1 ⟨rfl,h1,hB1⟩
    obtain ⟨hrb1,d0,d1,d2,_,df⟩:=h1.cells
    have H1:=Zac h1
    have HB1:=Zac hB1
    clear h1 hB1 c0 c1 c2 c4 hf
    go_wp2
    go_end0
    obtain ⟨hR,hB⟩:=H1.out.next 1
    rw [Hc.out]
    exact ⟨rfl,hR,HB1.out.trans hB⟩
  | cons n r =>
    have hrl:r.length+1≤4096:=by rw [hst] at hl; simpa using hl
    simp only [hst,Qf] at c4
    have Hc:Hid (Zfs st = { st with next:=2 }):=by show _=_; simp [Zfs,hst]
    clear h hst
    go_enter Tryz.func171,Tryz.ntmps171
    go_wp2
    refine bodyPost_ret (results_none rfl _ _ _) rfl ?_
    obtain ⟨hR,hB⟩:=H.out.next 2
    rw [Hc.out]
    exact ⟨rfl,hR,hB⟩
def Zao (st:RS):RS := { st with clauses:=st.clauses++[⟨st.head,st.body,st.vars⟩],head:=[],body:=[],vars:=[],inBody:=false,next:=if st.query then 5 else 0 }
theorem Ydp (a b c:Option Addr) (n m k x y z:Nat):∀ u ∈ (#[Value.slice a n x,.slice b m y,.slice c k z]:Array Value).toList,u.oneCell'=true:=by
  intro u hu
  simp at hu
  rcases hu with rfl | rfl | rfl <;> rfl
def Znk (w:World) (rb:Nat) (c:Value):World:=(((((w.setCell ⟨rb,8,none⟩ c).setCell ⟨rb,5,none⟩ (.slice none 0 0)).setCell ⟨rb,6,none⟩ (.slice none 0 0)).setCell ⟨rb,7,none⟩ (.slice none 0 0)).setCell ⟨rb,2,none⟩ (.bool false)).setCell ⟨rb,1,none⟩ (.int .i64 0)
theorem Zso {w w2:World} {B rb nd:Nat} {st:RS} {V:RV} {Sa Sb:Nat} {vs:List Value} {xs:List (List Value)} {a1:Option Addr} {a1cap:Nat} (H:IsR w B rb st V Sa Sb vs xs)
    (hap:Appended (w.drewN nd) B 107 3 V.c (st.clauses.length+1) (xs.flatten++[V.h,V.b,V.v]) (.slice a1 (st.clauses.length+1) a1cap) w2) :
    IsRx (Znk w2 rb (.slice a1 (st.clauses.length+1) a1cap)) B rb { Zao st with next:=0 }∧Held B w (Znk w2 rb (.slice a1 (st.clauses.length+1) a1cap)):=by
  have hblk1:=Zfb hap.kept H.blk (Zaf H.rest.cls.1 (by decide) H.blk)
  have hk:Kept (Zee rb V.c) w (Znk w2 rb (.slice a1 (st.clauses.length+1) a1cap)) :=
    Zda (Zda (Zda (Zda (Zda (Zgh (((Qx _ w).drewN _).trans hap.kept) 8 _) 5 _) 6 _) 7 _) 2 _) 1 _
  have hblk:(Znk w2 rb (.slice a1 (st.clauses.length+1) a1cap)).heap[rb]?=some (.cells (Zcv { Zao st with next:=0 } { V with c := .slice a1 (st.clauses.length+1) a1cap,h := .slice none 0 0,b := .slice none 0 0,v := .slice none 0 0 }) 169 (0,0)):=by
    unfold Znk
    rw [Zai (Zai (Zai (Zai (Zai (Zai hblk1 8 _) 5 _) 6 _) 7 _) 2 _) 1 _]
    simp [Zcv,Zao]
  have hrow:(Znk w2 rb (.slice a1 (st.clauses.length+1) a1cap)).ownsRow B 107 3 (.slice a1 (st.clauses.length+1) a1cap) (st.clauses.length+1) (xs.flatten++[V.h,V.b,V.v]):=by
    have h2:=hap.owns
    exact ((((((((Qx (only rb) w2).put 8 _).put 5 _).put 6 _).put 7 _).put 2 _).put 1 _)).owns h2 (fun k hko e=>by
      have e:k=rb:=e
      rw [e] at hko
      exact Zaf h2 (by decide) hblk1 hko)
  exact ⟨⟨_,_,_,_,_,H.clausd hk _ { Zao st with next:=0 } hblk hrow rfl rfl rfl rfl rfl rfl⟩,H.below hk H.rest.cls.1 (by decide)⟩
theorem Zot (w:World) (B rb:Nat) (st:RS) (h:IsRx w B rb st) (hb:RBd st) :
    Calls Tryz.prog 173 #[.pointer (some ⟨rb,0,none⟩)] w fun e w'=>e = .returned (.tuple #[])∧IsRx w' B rb (Zao st)∧Held B w w':=by
  obtain ⟨V,Sa,Sb,vs,xs,h⟩:=h
  have hrb:=Zab h.blk
  have hBw:B≤w.heap.size:=by have:=h.le; omega
  obtain ⟨c0,c1,c2,c3,c4,c5,c6,c7,c8⟩:=h.opens.facts
  have hf:=fun i=>Zae h.blk i
  obtain ⟨ca,ccap,hvc⟩:=Zad h.rest.cls.1
  obtain ⟨ha,hac,hvh⟩:=Zad h.rest.head.1
  obtain ⟨ba,bcap,hvb⟩:=Zad h.rest.body.1
  obtain ⟨va,vcap,hvv⟩:=Zad h.rest.vars
  have hlc:=hb.cls
  have hcr:=h.rest.cls.1
  rw [hvc] at hcr c8
  rw [hvh] at c5
  rw [hvb] at c6
  rw [hvv] at c7
  have H:=Zac h
  have Hcr:=Zac hcr
  have Hvh:=Zac hvh
  have Hvb:=Zac hvb
  have Hvc:=Zac hvc
  have Hvv:=Zac hvv
  cases hq:st.query
  all_goals
    rw [hq] at c0
    have Hq:=Zac hq
    clear h hvc hvh hvb hvv hcr hq
    go_enter Tryz.func173,Tryz.ntmps173
    go_wp2_with fail
    go_region_law (refine Zct (w.drewN 1) rfl (.tmp 6) (.tmp 11) 104 rfl B 107 Tryz.infoCls Tryz.underlying104 rfl (by decide) (.slice ca st.clauses.length ccap) st.clauses.length xs.flatten rfl Hcr.out #[.slice ha st.head.length hac,.slice ba st.body.length bcap,.slice va st.vars.length vcap] rfl (by simp) rfl (Ydp _ _ _ _ _ _ _ _ _) (by omega) (by simp; omega) rfl ?_; intro v' w2 hap; obtain ⟨c1',c1cap,rfl⟩:=Zad hap.owns; have hblk1:=Zfb hap.kept H.out.blk (Zaf Hcr.out (by decide) H.out.blk); have d0:w2.cell? ⟨rb,0,none⟩=some (.bool st.query):=Zaa hblk1 0 _ rfl; have d1:w2.cell? ⟨rb,1,none⟩=some (.int .i64 st.next):=Zaa hblk1 1 _ rfl; have d2:w2.cell? ⟨rb,2,none⟩=some (.bool st.inBody):=Zaa hblk1 2 _ rfl; have d5:w2.cell? ⟨rb,5,none⟩=some V.h:=Zaa hblk1 5 _ rfl; have d6:w2.cell? ⟨rb,6,none⟩=some V.b:=Zaa hblk1 6 _ rfl; have d7:w2.cell? ⟨rb,7,none⟩=some V.v:=Zaa hblk1 7 _ rfl; have d8:w2.cell? ⟨rb,8,none⟩=some V.c:=Zaa hblk1 8 _ rfl; have df:=fun i=>Zae hblk1 i; have Hap:=Zac hap; have Hblk1:=Zac hblk1; clear hap hblk1)
  all_goals
    rw [Hvh.out] at d5; rw [Hvb.out] at d6; rw [Hvv.out] at d7; rw [Hvc.out] at d8; rw [Hq.out] at d0
    go_wp2
    go_end0
    have hap:=Hap.out
    rw [← Hvh.out,← Hvb.out,← Hvv.out,← Hvc.out] at hap
    obtain ⟨hR,hB⟩:=Zso H.out hap
    first
    | (have He:Zao st = { Zao st with next:=0 }:=by simp [Zao,Hq.out]
       rw [He]
       exact ⟨rfl,hR,hB⟩)
    | (have He:Zao st = { { Zao st with next:=0 } with next:=5 }:=by simp [Zao,Hq.out]
       obtain ⟨hR5,hB5⟩:=hR.next 5
       rw [He]
       exact ⟨rfl,hR5,hB.trans hB5⟩)
def Zbi (st:RS) (kd:Nat) (t:List UInt8):RS :=
 if kd=1 then { addS st ⟨t,0,0⟩ with next:=3 }
 else if kd=2 then { addS (varS st t) ⟨[],(Zbb st.vars t).2,0⟩ with next:=4 }
 else if kd=3 then { st with opn:=(st.atom.length - 1)::st.opn,next:=2 }
 else if kd=4 then { Zie st with next:=4 }
 else if kd=5 then Zfs st
 else if kd=7 then { Zap st with inBody:=true,next:=1 }
 else if kd=6 then Zao (Zap st)
 else st
theorem Zzo (w:World) (B rb:Nat) (st:RS) (s:Sym) (h:IsRx w B rb st) (hb:RBd st) (ho:∀ n ∈ st.opn,n<st.atom.length) :
  Calls Tryz.prog 168 #[.pointer (some ⟨rb,0,none⟩),.agg #[.string ⟨s.name.toArray⟩,.int .i64 s.num,.int .i64 s.args]] w fun e w'=>e = .returned (.tuple #[])∧IsRx w' B rb (addS st s)∧Held B w w':=by
 cases hst:st.opn with
 | nil=>exact Ygr w B rb st s h hb hst
 | cons n r=>exact Yis w B rb st s n r h hb hst (ho n (by simp [hst]))
theorem take1 (w:World) (B rb:Nat) (st:RS) (t:List UInt8) (h:IsRx w B rb st) (hb:RBd st) (ho:∀ n ∈ st.opn,n<st.atom.length) :
  Calls Tryz.prog 132 #[.pointer (some ⟨rb,0,none⟩),.int .i64 1,.string ⟨t.toArray⟩] w fun e w'=>e = .returned (.tuple #[])∧IsRx w' B rb (Zbi st 1 t)∧Held B w w':=by
 have HA:=Zac (Zzo w B rb st ⟨t,0,0⟩ h hb ho)
 clear h ho
 go_enter Tryz.func132,Tryz.ntmps132
 go_wp2_with fail
 refine HA.out.mono ?_
 rintro e w1 ⟨rfl,h1,hB1⟩
 obtain ⟨hrb1,d0,d1,d2,_,df⟩:=h1.cells
 have H1:=Zac h1
 have HB1:=Zac hB1
 clear h1 hB1
 go_wp2
 go_end0
 obtain ⟨hR,hB⟩:=H1.out.next 3
 exact ⟨rfl,hR,HB1.out.trans hB⟩
theorem take2 (w:World) (B rb:Nat) (st:RS) (t:List UInt8) (h:IsRx w B rb st) (hb:RBd st) (hv:st.vars.length≤4096) (ho:∀ n ∈ st.opn,n<st.atom.length) :
  Calls Tryz.prog 132 #[.pointer (some ⟨rb,0,none⟩),.int .i64 2,.string ⟨t.toArray⟩] w fun e w'=>e = .returned (.tuple #[])∧IsRx w' B rb (Zbi st 2 t)∧Held B w w':=by
 have HV:=Zac (Zqm w B rb st t h hv)
 have Hb:=Zac hb
 have Ho:=Zac ho
 clear h ho
 go_enter Tryz.func132,Tryz.ntmps132
 go_wp2_with fail
 refine HV.out.mono ?_
 rintro e w0 ⟨rfl,h0,hB0⟩
 have HA:=Zac (Zzo w0 B rb (varS st t) ⟨[],(Zbb st.vars t).2,0⟩ h0 ⟨Hb.out.opn,Hb.out.atom,Hb.out.body,Hb.out.cls,Hb.out.args⟩ Ho.out)
 have HB0:=Zac hB0
 clear h0 hB0
 go_wp2_with fail
 refine HA.out.mono ?_
 rintro e w1 ⟨rfl,h1,hB1⟩
 obtain ⟨hrb1,d0,d1,d2,_,df⟩:=h1.cells
 have H1:=Zac h1
 have HB1:=Zac hB1
 clear h1 hB1
 go_wp2
 go_end0
 obtain ⟨hR,hB⟩:=H1.out.next 4
 exact ⟨rfl,hR,HB0.out.trans (HB1.out.trans hB)⟩
theorem take4 (w:World) (B rb:Nat) (st:RS) (t:List UInt8) (h:IsRx w B rb st) (hb:RBd st) :
  Calls Tryz.prog 132 #[.pointer (some ⟨rb,0,none⟩),.int .i64 4,.string ⟨t.toArray⟩] w fun e w'=>e = .returned (.tuple #[])∧IsRx w' B rb (Zbi st 4 t)∧Held B w w':=by
 have HA:=Zac (Zzk w B rb st h hb.opn)
 clear h
 go_enter Tryz.func132,Tryz.ntmps132
 go_wp2_with fail
 refine HA.out.mono ?_
 rintro e w1 ⟨rfl,h1,hB1⟩
 obtain ⟨hrb1,d0,d1,d2,_,df⟩:=h1.cells
 have H1:=Zac h1
 have HB1:=Zac hB1
 clear h1 hB1
 go_wp2
 go_end0
 obtain ⟨hR,hB⟩:=H1.out.next 4
 exact ⟨rfl,hR,HB1.out.trans hB⟩
theorem take5 (w:World) (B rb:Nat) (st:RS) (t:List UInt8) (h:IsRx w B rb st) (hb:RBd st) :
  Calls Tryz.prog 132 #[.pointer (some ⟨rb,0,none⟩),.int .i64 5,.string ⟨t.toArray⟩] w fun e w'=>e = .returned (.tuple #[])∧IsRx w' B rb (Zbi st 5 t)∧Held B w w':=by
 have HA:=Zac (Zzn w B rb st h hb)
 clear h
 go_enter Tryz.func132,Tryz.ntmps132
 go_wp2_with fail
 refine HA.out.mono ?_
 rintro e w1 ⟨rfl,h1,hB1⟩
 have H1:=Zac h1
 have HB1:=Zac hB1
 clear h1 hB1
 go_wp2
 go_end0
 exact ⟨rfl,H1.out,HB1.out⟩
theorem take7 (w:World) (B rb:Nat) (st:RS) (t:List UInt8) (h:IsRx w B rb st) (hb:RBd st) :
  Calls Tryz.prog 132 #[.pointer (some ⟨rb,0,none⟩),.int .i64 7,.string ⟨t.toArray⟩] w fun e w'=>e = .returned (.tuple #[])∧IsRx w' B rb (Zbi st 7 t)∧Held B w w':=by
 have HA:=Zac (Zij w B rb st h hb)
 clear h
 go_enter Tryz.func132,Tryz.ntmps132
 go_wp2_with fail
 refine HA.out.mono ?_
 rintro e w1 ⟨rfl,h1,hB1⟩
 obtain ⟨hrb1,d0,d1,d2,_,df⟩:=h1.cells
 have H1:=Zac h1
 have HB1:=Zac hB1
 clear h1 hB1
 go_wp2
 go_end0
 obtain ⟨hR,hB⟩:=H1.out.inb true
 obtain ⟨hR2,hB2⟩:=hR.next 1
 exact ⟨rfl,hR2,HB1.out.trans (hB.trans hB2)⟩
theorem RBd.endAtom {st:RS} (hb:RBd st) (h:st.body.length+1≤4096):RBd (Zap st):=by
 unfold Zap
 split
 ·exact ⟨hb.opn,by simp,by simpa using h,hb.cls,by simp⟩
 ·exact ⟨hb.opn,by simp,hb.body,hb.cls,by simp⟩
theorem take6 (w:World) (B rb:Nat) (st:RS) (t:List UInt8) (h:IsRx w B rb st) (hb:RBd st) (hbd:st.body.length+1≤4096) :
  Calls Tryz.prog 132 #[.pointer (some ⟨rb,0,none⟩),.int .i64 6,.string ⟨t.toArray⟩] w fun e w'=>e = .returned (.tuple #[])∧IsRx w' B rb (Zbi st 6 t)∧Held B w w':=by
 have HA:=Zac (Zij w B rb st h hb)
 have Hb:=Zac (hb.endAtom hbd)
 clear h
 go_enter Tryz.func132,Tryz.ntmps132
 go_wp2_with fail
 refine HA.out.mono ?_
 rintro e w1 ⟨rfl,h1,hB1⟩
 have HC:=Zac (Zot w1 B rb (Zap st) h1 Hb.out)
 have HB1:=Zac hB1
 clear h1 hB1
 go_wp2_with fail
 refine HC.out.mono ?_
 rintro e w2 ⟨rfl,h2,hB2⟩
 have H2:=Zac h2
 have HB2:=Zac hB2
 clear h2 hB2
 go_wp2
 go_end0
 exact ⟨rfl,H2.out,HB1.out.trans HB2.out⟩
theorem take3 (w:World) (B rb:Nat) (st:RS) (t:List UInt8) (h:IsRx w B rb st) (hb:RBd st) (hne:0<st.atom.length) :
  Calls Tryz.prog 132 #[.pointer (some ⟨rb,0,none⟩),.int .i64 3,.string ⟨t.toArray⟩] w fun e w'=>e = .returned (.tuple #[])∧IsRx w' B rb (Zbi st 3 t)∧Held B w w':=by
 obtain ⟨V,Sa,Sb,vs,xs,h⟩:=h
 have hrb:=Zab h.blk
 have hBw:B≤w.heap.size:=by have:=h.le; omega
 obtain ⟨c0,c1,c2,c3,c4,c5,c6,c7,c8⟩:=h.opens.facts
 have hf:=fun i=>Zae h.blk i
 obtain ⟨aa,acap,hva⟩:=Zad h.rest.atom
 obtain ⟨oa,ocap,hvo⟩:=Zad h.rest.opn
 have hlo:=hb.opn
 have hla:=hb.atom
 have hor:=h.rest.opn
 rw [hvo] at hor c4
 rw [hva] at c3
 have H:=Zac h
 have Hor:=Zac hor
 have Hvo:=Zac hvo
 have hcast:IntKind.i64.wrap (((st.atom.length:Nat):Int) - 1)=((st.atom.length - 1:Nat):Int):=by rw [IntKind.wrap_i64]; omega
 clear h hva hvo hor
 go_enter Tryz.func132,Tryz.ntmps132
 go_wp2_with fail
 go_region_law (refine Zct (w.drewN 1) rfl (.tmp 35) (.tmp 42) 25 rfl B 3 Tryz.infoInt Tryz.underlying25 rfl (by decide) (.slice oa st.opn.length ocap) st.opn.length (ints st.opn.reverse) rfl Hor.out #[.int .i64 ((st.atom.length - 1:Nat):Int)] rfl (by simp) rfl (Zlk _) (by omega) (by simp; omega) rfl ?_; intro v' w2 hap; obtain ⟨o1,o1cap,rfl⟩:=Zad hap.owns; have hblk1:=Zfb hap.kept H.out.blk (Zaf Hor.out (by decide) H.out.blk); have d1:w2.cell? ⟨rb,1,none⟩=some (.int .i64 st.next):=Zaa hblk1 1 _ rfl; have d4:w2.cell? ⟨rb,4,none⟩=some V.o:=Zaa hblk1 4 _ rfl; have df:=fun i=>Zae hblk1 i; have Hap:=Zac hap; have Hblk1:=Zac hblk1; clear hap hblk1)
 all_goals
  rw [Hvo.out] at d4
  go_wp2
  go_end0
  have hk:Kept (Zee rb V.o) w (w2.setCell ⟨rb,4,none⟩ (.slice o1 (st.opn.length+1) o1cap)):=by
   rw [Hvo.out]
   exact Zgh (((Qx _ w).drewN _).trans Hap.out.kept) 4 _
  have hrow:(w2.setCell ⟨rb,4,none⟩ (.slice o1 (st.opn.length+1) o1cap)).ownsRow B 3 1 (.slice o1 (st.opn.length+1) o1cap) ((st.atom.length - 1)::st.opn).length (ints ((st.atom.length - 1)::st.opn).reverse):=by
   have h2:=Hap.out.owns
   have h3:=((Qx (only rb) w2).put 4 (.slice o1 (st.opn.length+1) o1cap)).owns h2 (fun k hko e=>by
    have e:k=rb:=e
    rw [e] at hko
    exact Zaf h2 (by decide) Hblk1.out hko)
   simpa [ints,hcast] using h3
  have hR:=H.out.opened hk ((st.atom.length - 1)::st.opn) (.slice o1 (st.opn.length+1) o1cap) (Zai Hblk1.out 4 _) hrow
  have hB:=H.out.below hk H.out.rest.opn (by decide)
  obtain ⟨hR2,hB2⟩:=IsRx.next ⟨_,Sa,Sb,vs,xs,hR⟩ 2
  exact ⟨rfl,hR2,hB.trans hB2⟩
structure TakeOk (st:RS) (kd:Nat):Prop where
 bd:RBd st
 vars:st.vars.length≤4096
 body:st.body.length+1≤4096
 opn:∀ n ∈ st.opn,n<st.atom.length
 lo:1≤kd
 hi:kd≤7
 bracket:kd=3→0<st.atom.length
theorem Ydq (w:World) (B rb:Nat) (st:RS) (kd:Nat) (t:List UInt8) (h:IsRx w B rb st) (hk:TakeOk st kd) :
  Calls Tryz.prog 132 #[.pointer (some ⟨rb,0,none⟩),.int .i64 kd,.string ⟨t.toArray⟩] w fun e w'=>e = .returned (.tuple #[])∧IsRx w' B rb (Zbi st kd t)∧Held B w w':=by
 obtain ⟨bd,vars,body,opn,lo,hi,bracket⟩:=hk
 have hc:kd=1∨kd=2∨kd=3∨kd=4∨kd=5∨kd=6∨kd=7:=by omega
 rcases hc with rfl | rfl | rfl | rfl | rfl | rfl | rfl
 ·exact take1 w B rb st t h bd opn
 ·exact take2 w B rb st t h bd vars opn
 ·exact take3 w B rb st t h bd (bracket rfl)
 ·exact take4 w B rb st t h bd
 ·exact take5 w B rb st t h bd
 ·exact take6 w B rb st t h bd body
 ·exact take7 w B rb st t h bd
end Go.Proofs.YtlmjilpjmgjjcaaGreatDoor
namespace Go.Proofs.YtlmjilpjmgjjcaaGreatDoor
def okk (ts:List Tok) (L:LookS):Prop:=(Zge ts L).1=0
def fin:List Tok→Prop
 | []=>False
 | t::ts=>t.kind=4∨fin ts
theorem Zeo {t:Tok} {ts:List Tok} {L:LookS} (h:okk (t::ts) L) (hn:¬ (t.kind=4∧(L.want=5∨L.want=0))):(Zca L t.kind t.text.length).err=0∧okk ts (Zca L t.kind t.text.length):=by
 unfold okk at h
 rw [Zge,if_neg hn] at h
 by_cases he:(Zca L t.kind t.text.length).err=0
 ·rw [if_neg (by simp [he])] at h
  exact ⟨he,h⟩
 ·rw [if_pos he] at h
  exact absurd h he
structure Aft (rest:List Tok) (L L':LookS) (stk:List Nat):Prop where
 ok:okk rest L'
 fin:fin rest
 want:L'.want=4∨(L'.want=3∧∀ y ys,rest=y::ys→y.kind≠40)
 stk:L'.stk=stk
 err:L'.err=0
 query:L'.query=L.query
 body:L'.body=(if L.want=0 then false else L.body)
theorem Zfh {L:LookS} {kd tn:Nat} (he:L.err=0) (h:(Zbh L kd tn).err=0):kd=1∨(kd=2∧L.want=2):=by
 unfold Zbh at h
 split at h
 ·simp at h
 ·omega
theorem Zix {L:LookS} {kd tn:Nat} (h:(Zbh L kd tn).err=0) (hk:kd=1∨(kd=2∧L.want=2)) :
  (Zbh L kd tn).want=(if kd=1 then 3 else 4)∧(Zbh L kd tn).stk=(Zci L).stk∧(Zbh L kd tn).query=L.query∧(Zbh L kd tn).body=(if L.want=0 then false else L.body):=by
 have hn:¬ (kd≠1∧(kd≠2∨L.want≠2)):=by omega
 unfold Zbh
 rw [if_neg hn]
 refine ⟨rfl,rfl,?_,?_⟩
 ·show (Zci L).query=_
  unfold Zci
  split
  ·rfl
  ·split
   ·rfl
   ·split <;> rfl
 ·show (Zci L).body=_
  unfold Zci
  split
  ·rfl
  ·split
   ·rfl
   ·split <;> rfl
theorem Yga {y:Tok} {ys:List Tok} {L L':LookS} {n:Nat} {r:List Nat} (h:Aft (y::ys) L L' (n::r)) :
  (y.kind=44∧okk ys (Zak L' 44)∧fin ys∧(Zak L' 44) = { L' with want:=2 })∨(y.kind=41∧okk ys (Zak L' 41)∧fin ys∧(Zak L' 41) = { L' with stk:=r,want:=4 }):=by
 have hw:¬ L'.want≤2∧L'.want≠5∧L'.want≠0:=by rcases h.want with hw | ⟨hw,_⟩ <;> omega
 have h4:¬ (y.kind=4∧(L'.want=5∨L'.want=0)):=by omega
 obtain ⟨he,ho⟩:=Zeo h.ok h4
 unfold Zca at he ho
 rw [if_neg hw.1,if_neg hw.2.1] at he ho
 have hst:=h.stk
 have h40:¬ (y.kind=40∧L'.want=3):=by
  rintro ⟨h1,h2⟩
  rcases h.want with hw | ⟨_,hw⟩
  ·omega
  ·exact hw y ys rfl h1
 have hfin:y.kind≠4→fin ys:=fun hy=>by
  rcases h.fin with h | h
  ·exact absurd h hy
  ·exact h
 by_cases h44:y.kind=44
 ·left
  rw [h44] at ho
  exact ⟨h44,ho,hfin (by omega),by simp [Zak,hst]⟩
 ·by_cases h41:y.kind=41
  ·right
   rw [h41] at ho
   exact ⟨h41,ho,hfin (by omega),by simp [Zak,hst]⟩
  ·exfalso
   simp [Zak,hst,h44,h41] at he
   split at he
   ·rename_i hc; exact h40 hc
   ·simp at he
def Ygb (n:Nat):Prop:=∀ (ts:List Tok) (L:LookS) (f:Nat) (names:Names),ts.length≤n→ts.length≤f→okk ts L→fin ts→L.want≤2→L.err=0→(L.want=2→L.stk≠[])→(∀ t r,ts=t::r→t.kind≠4) →
 ∃ r L',Zcs f ts names=some r∧Aft r.2.1 L L' (Zci L).stk∧r.2.1.length<ts.length
theorem Ygs (n f:Nat) (IH:Ygb n):∀ (g:Nat) (x:Tok) (xs:List Tok) (L:LookS) (m:Nat) (r:List Nat) (names:Names) (acc:List (List Sym)),xs.length≤n→xs.length≤f→xs.length+1≤g→x.kind≠41 →
  okk xs L→fin xs→L.want=2→L.stk=m::r→L.err=0 →
  ∃ q L',Zdz (Zcs f) g (x::xs) names acc=some q∧Aft q.2.1 L L' r∧q.2.1.length<xs.length:=by
 intro g
 induction g with
 | zero=>intro x xs L m r names acc h1 h1' h2; omega
 | succ g ih =>
  intro x xs L m r names acc h1 h1' h2 h41 hok hfin hw hst he
  have hx4:∀ t r,xs=t::r→t.kind≠4:=by
   rintro t r rfl h4
   have:=(Zeo hok (by omega)).1
   unfold Zca at this
   rw [if_pos (by omega)] at this
   rcases Zfh he this with h | h <;> omega
  obtain ⟨r1,L1,hp,ha,hl⟩:=IH xs L f names h1 (by omega) hok hfin (by omega) he (by rw [hst]; simp) hx4
  have hls:(Zci L).stk=(m+1)::r:=by simp [Zci,hw,hst]
  rw [hls] at ha
  rw [Zdz,if_neg h41,hp]
  simp only
  cases hr:r1.2.1 with
  | nil=>rw [hr] at ha; exact ha.fin.elim
  | cons y ys =>
   rw [hr] at ha hl
   simp only [Qf] at hl
   rcases Yga ha with ⟨hy,ho,hf,hE⟩ | ⟨hy,ho,hf,hE⟩
   ·obtain ⟨q,L2,h5,h6,h7⟩:=ih y ys (Zak L1 44) (m+1) r r1.2.2 (acc++[r1.1]) (by omega) (by omega) (by omega) (by omega) ho hf (by rw [hE]) (by rw [hE]; exact ha.stk) (by rw [hE]; exact ha.err)
    refine ⟨q,L2,h5,⟨h6.ok,h6.fin,h6.want,h6.stk,h6.err,?_,?_⟩,by omega⟩
    ·rw [h6.query,hE]; exact ha.query
    ·rw [h6.body,hE]
     have:=ha.body
     simp [hw] at this ⊢
     exact this
   ·refine ⟨(acc++[r1.1],ys,r1.2.2),Zak L1 41,?_,⟨ho,hf,Or.inl (by rw [hE]),by rw [hE],by rw [hE]; exact ha.err,by rw [hE]; exact ha.query,by rw [hE]; exact ha.body⟩,by simp; omega⟩
    cases g with
    | zero=>omega
    | succ g=>rw [Zdz,if_pos hy]
theorem Zzp:∀ n,Ygb n:=by
 intro n
 induction n with
 | zero =>
  intro ts L f names h1 h2 hok hfin
  cases ts with
  | nil=>exact hfin.elim
  | cons t ts=>simp at h1
 | succ n IH =>
  intro ts L f names h1 h2 hok hfin hw he hst hne
  cases ts with
  | nil=>exact hfin.elim
  | cons t ts =>
   have h4:=hne t ts rfl
   simp only [Qf] at h1 h2
   cases f with
   | zero=>omega
   | succ f =>
    obtain ⟨he1,ho1⟩:=Zeo hok (by omega)
    unfold Zca at he1 ho1
    rw [if_pos hw] at he1 ho1
    have hk:=Zfh he he1
    obtain ⟨k1,k2,k3,k4⟩:=Zix he1 hk
    have hfin1:fin ts:=by
     rcases hfin with h | h
     ·exact absurd h h4
     ·exact h
    by_cases hv:t.kind=2
    ·rw [Zcs,if_pos hv]
     exact ⟨_,Zbh L t.kind t.text.length,rfl,⟨ho1,hfin1,Or.inl (by rw [k1,hv]; rfl),k2,he1,k3,k4⟩,by simp⟩
    ·have hk1:t.kind=1:=by omega
     rw [Zcs,if_neg hv]
     cases ts with
     | nil=>exact hfin1.elim
     | cons u us =>
      rw [Ziu]
      simp only [Qf] at h1 h2
      rw [if_pos hk1] at k1
      by_cases hu:u.kind=40
      ·rw [if_neg (by simp [hu])]
       obtain ⟨he2,ho2⟩:=Zeo ho1 (by omega)
       unfold Zca at he2 ho2
       rw [if_neg (by omega),if_neg (by omega),hu] at he2 ho2
       have hE:Zak (Zbh L t.kind t.text.length) 40 = { Zbh L t.kind t.text.length with stk:=0::(Zbh L t.kind t.text.length).stk,want:=2 }:=by
        simp [Zak,k1]
       have hfin2:fin us:=by
        rcases hfin1 with h | h
        ·omega
        ·exact h
       obtain ⟨q,L2,h5,h6,h7⟩:=Ygs n f IH (us.length+1) u us _ 0 (Zci L).stk names [] (by omega) (by omega) (by omega) (by omega) ho2 hfin2 (by rw [hE]) (by rw [hE,← k2]) (by rw [hE]; exact he1)
       rw [h5]
       refine ⟨_,L2,rfl,⟨h6.ok,h6.fin,h6.want,h6.stk,h6.err,?_,?_⟩,by simp; omega⟩
       ·rw [h6.query,hE]; exact k3
       ·rw [h6.body,hE]
        simpa using k4
      ·rw [if_pos hu]
       refine ⟨_,Zbh L t.kind t.text.length,rfl,⟨ho1,hfin1,Or.inr ⟨k1,?_⟩,k2,he1,k3,k4⟩,by simp⟩
       intro y ys hy
       simp at hy
       rw [← hy.1]; exact hu
end Go.Proofs.YtlmjilpjmgjjcaaGreatDoor
namespace Go.Proofs.YtlmjilpjmgjjcaaGreatDoor
open Go.RowKit
theorem Zou {y:Tok} {ys:List Tok} {L L':LookS} (h:Aft (y::ys) L L' []) :
  (y.kind=44∧L'.body=true∧okk ys (Zak L' 44)∧fin ys∧(Zak L' 44) = { L' with want:=1 }) ∨
  (y.kind=3∧L'.body=false∧okk ys (Zak L' 3)∧fin ys∧(Zak L' 3) = { L' with body:=true,goals:=0,want:=1 }) ∨
  (y.kind=46∧okk ys (Zak L' 46)∧fin ys∧(Zak L' 46) = { L' with want:=if L'.query then 5 else 0 }):=by
 have hw:¬ L'.want≤2∧L'.want≠5∧L'.want≠0:=by rcases h.want with hw | ⟨hw,_⟩ <;> omega
 have h4:¬ (y.kind=4∧(L'.want=5∨L'.want=0)):=by omega
 obtain ⟨he,ho⟩:=Zeo h.ok h4
 unfold Zca at he ho
 rw [if_neg hw.1,if_neg hw.2.1] at he ho
 have hst:=h.stk
 have h40:¬ (y.kind=40∧L'.want=3):=by
  rintro ⟨h1,h2⟩
  rcases h.want with hw | ⟨_,hw⟩
  ·omega
  ·exact hw y ys rfl h1
 have hfin:y.kind≠4→fin ys:=fun hy=>by
  rcases h.fin with h | h
  ·exact absurd h hy
  ·exact h
 by_cases h44:y.kind=44
 ·left
  rw [h44] at ho he
  cases hb:L'.body
  ·simp [Zak,hst,hb] at he
  ·exact ⟨h44,rfl,ho,hfin (by omega),by simp [Zak,hst,hb]⟩
 ·by_cases h3:y.kind=3
  ·right; left
   rw [h3] at ho he
   cases hb:L'.body
   ·exact ⟨h3,rfl,ho,hfin (by omega),by simp [Zak,hst,hb]⟩
   ·simp [Zak,hst,hb] at he
  ·by_cases h46:y.kind=46
   ·right; right
    rw [h46] at ho he
    refine ⟨h46,ho,hfin (by omega),?_⟩
    cases hq:L'.query <;> simp [Zak,hst,hq]
   ·exfalso
    simp [Zak,hst,h44,h3,h46] at he
    split at he
    ·rename_i hc; exact h40 hc
    ·simp at he
theorem Zzq {ts:List Tok} {L:LookS} (hok:okk ts L) (hw:L.want=1) (he:L.err=0):∀ t r,ts=t::r→t.kind≠4:=by
 rintro t r rfl h4
 have:=(Zeo hok (by omega)).1
 unfold Zca at this
 rw [if_pos (by omega)] at this
 rcases Zfh he this with h | h <;> omega
theorem Zuq:∀ (g:Nat) (ts:List Tok) (L:LookS) (names:Names) (acc:List (List Sym)),ts.length≤g→ts.length≤1000→okk ts L→fin ts→L.want=1→L.stk=[]→L.body=true→L.err=0 →
  ∃ q L',Zcy 1000 g ts names acc=some q∧okk q.2.1 L'∧fin q.2.1∧L'.want=(if L.query then 5 else 0)∧L'.stk=[]∧L'.err=0∧L'.query=L.query∧q.2.1.length<ts.length:=by
 intro g
 induction g with
 | zero =>
  intro ts L names acc h1 h2 hok hfin
  cases ts with
  | nil=>exact hfin.elim
  | cons t ts=>simp at h1
 | succ g ih =>
  intro ts L names acc h1 h2 hok hfin hw hst hb he
  obtain ⟨r1,L1,hp,ha,hl⟩:=Zzp ts.length ts L 1000 names (Qe _) h2 hok hfin (by omega) he (by omega) (Zzq hok hw he)
  have hls:(Zci L).stk=[]:=by simp [Zci,hw,hst]
  rw [hls] at ha
  have hb1:L1.body=true:=by rw [ha.body,if_neg (by omega)]; exact hb
  rw [Zcy,hp]
  simp only
  cases hr:r1.2.1 with
  | nil=>rw [hr] at ha; exact ha.fin.elim
  | cons y ys =>
   rw [hr] at ha hl
   simp only [Qf] at hl
   simp only
   rcases Zou ha with ⟨hy,_,ho,hf,hE⟩ | ⟨hy,hb2,_⟩ | ⟨hy,ho,hf,hE⟩
   ·rw [if_neg (by omega)]
    obtain ⟨q,L2,h5,h6,h7,h8,h9,h10,h11,h12⟩:=ih ys (Zak L1 44) r1.2.2 (acc++[r1.1]) (by omega) (by omega) ho hf (by rw [hE]) (by rw [hE]; exact ha.stk) (by rw [hE]; exact hb1) (by rw [hE]; exact ha.err)
    have hq:(Zak L1 44).query=L.query:=by rw [hE]; exact ha.query
    rw [hq] at h8 h11
    exact ⟨q,L2,h5,h6,h7,h8,h9,h10,h11,by omega⟩
   ·rw [hb1] at hb2; cases hb2
   ·rw [if_pos hy]
    exact ⟨_,_,rfl,ho,hf,by rw [hE,ha.query],by rw [hE]; exact ha.stk,by rw [hE]; exact ha.err,by rw [hE]; exact ha.query,by simp; omega⟩
theorem Zzr (ts:List Tok) (L:LookS) (h2:ts.length≤1000) (hok:okk ts L) (hfin:fin ts) (hw:L.want=0) (hst:L.stk=[]) (he:L.err=0) (hq:L.query=false) (hne:∀ t r,ts=t::r→t.kind≠4) :
  ∃ c L',Zeb ts=some c∧okk c.2 L'∧fin c.2∧L'.want=0∧L'.stk=[]∧L'.err=0∧L'.query=false∧c.2.length<ts.length:=by
 obtain ⟨r1,L1,hp,ha,hl⟩:=Zzp ts.length ts L 1000 [] (Qe _) h2 hok hfin (by omega) he (by omega) hne
 have hls:(Zci L).stk=[]:=by simp [Zci,hw,hst]
 rw [hls] at ha
 have hb1:L1.body=false:=by rw [ha.body,if_pos hw]
 rw [Zeb,hp]
 simp only
 cases hr:r1.2.1 with
 | nil=>rw [hr] at ha; exact ha.fin.elim
 | cons y ys =>
  rw [hr] at ha hl
  simp only [Qf] at hl
  simp only
  rcases Zou ha with ⟨hy,hb2,_⟩ | ⟨hy,_,ho,hf,hE⟩ | ⟨hy,ho,hf,hE⟩
  ·rw [hb1] at hb2; cases hb2
  ·rw [if_pos hy]
   obtain ⟨q,L2,h5,h6,h7,h8,h9,h10,h11,h12⟩:=Zuq 1000 ys (Zak L1 3) r1.2.2 [] (by omega) (by omega) ho hf (by rw [hE]) (by rw [hE]; exact ha.stk) (by rw [hE]) (by rw [hE]; exact ha.err)
   have hq2:(Zak L1 3).query=false:=by rw [hE]; exact ha.query.trans hq
   rw [hq2] at h8 h11
   rw [h5]
   exact ⟨_,L2,rfl,h6,h7,by simpa using h8,h9,h10,h11,by simp; omega⟩
  ·rw [if_neg (by omega)]
   have hq2:L1.query=false:=ha.query.trans hq
   exact ⟨_,_,rfl,ho,hf,by rw [hE,hq2]; rfl,by rw [hE]; exact ha.stk,by rw [hE]; exact ha.err,by rw [hE]; exact hq2,by simp; omega⟩
theorem Ygt:∀ (g:Nat) (ts:List Tok) (L:LookS) (acc:List Cls),ts.length≤g→ts.length≤1000→okk ts L→fin ts→L.want=0→L.stk=[]→L.err=0→L.query=false→∃ cs,Zgr g ts acc=some cs:=by
 intro g
 induction g with
 | zero =>
  intro ts L acc h1 h2 hok hfin
  cases ts with
  | nil=>exact hfin.elim
  | cons t ts=>simp at h1
 | succ g ih =>
  intro ts L acc h1 h2 hok hfin hw hst he hq
  cases ts with
  | nil=>exact hfin.elim
  | cons t ts =>
   rw [Zgr]
   by_cases h4:t.kind=4
   ·rw [if_pos h4]; exact ⟨_,rfl⟩
   ·rw [if_neg h4]
    obtain ⟨c,L1,hp,h5,h6,h7,h8,h9,h10,h11⟩:=Zzr (t::ts) L h2 hok hfin hw hst he hq (fun t' r' e=>by simp at e; rw [← e.1]; exact h4)
    rw [hp]
    simp only
    simp only [Qf] at h1 h2 h11
    exact ih c.2 L1 _ (by omega) (by omega) h5 h6 h7 h8 h9 h10
theorem Zov (l:List Tok) (p:Nat):fin (l++[⟨4,[],p⟩]):=by
 induction l with
 | nil=>exact Or.inl rfl
 | cons t l ih=>exact Or.inr ih
theorem Zsp (s:ByteArray) (hs:s.size≤120) (h:(Zge (Zaz s) (Zcp true)).1=0):∃ q,Zcy 1000 1000 (Zaz s) [] []=some q:=by
 have hl:=Zeg s
 obtain ⟨q,L',h1,_⟩:=Zuq 1000 (Zaz s) (Zcp true) [] [] (by omega) (by omega) h (Zov _ _) rfl rfl rfl rfl
 exact ⟨q,h1⟩
theorem Zow (s:ByteArray) (hs:s.size≤800) (h:(Zge (Zaz s) (Zcp false)).1=0):∃ cs,Zgr 1000 (Zaz s) []=some cs:=by
 have hl:=Zeg s
 exact Ygt 1000 (Zaz s) (Zcp false) [] (by omega) (by omega) h (Zov _ _) rfl rfl rfl rfl
end Go.Proofs.YtlmjilpjmgjjcaaGreatDoor
