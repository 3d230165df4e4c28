/-
  PROVED HERE: how a search and what it has told so far lie in memory (the conditions stand in each statement).
-/
import Derived.Test.YtlmjilpjmgjjcaaGreatDoorT10
set_option linter.unusedSimpArgs false
set_option linter.unusedVariables false
set_option maxRecDepth 10000
set_option maxHeartbeats 4000000
namespace Go.Proofs.YtlmjilpjmgjjcaaGreatDoor
open Go.RowKit
theorem Yin {a0:Act} {vc:Value} {β:Nat→Nat} {lst lst':Nat→Bool} {x:Operand}:∀ {ops:List Oper} {kd:List Kd} {k:Nat},(∀ j o d,ops[j]?=some o→o.dst=some d→x = .tmp d→lst (k+j)=lst' (k+j)) →
  (pa a0 vc β lst k ops kd).eval x=(pa a0 vc β lst' k ops kd).eval x:=by
 intro ops
 induction ops with
 | nil=>intro kd k _; simp [pa]
 | cons o os ih =>
  intro kd k h
  cases kd with
  | nil=>simp [pa]
  | cons q qs =>
   have ih':=ih (kd:=qs) (k:=k+1) (fun j r d hr hd hx=>by
    have e:k+1+j=k+(j+1):=by omega
    rw [e]
    exact h (j+1) r d (by simpa using hr) hd hx)
   rw [pa,pa]
   by_cases hx:∃ d,o.dst=some d∧x = .tmp d
   ·obtain ⟨d,hd,rfl⟩:=hx
    have h0:=h 0 o d rfl hd rfl
    simp only [Nat.add_zero] at h0
    rw [← h0]
    split
    ·rw [hd]
     simp only [Act.eval,Act.put,Array.getD_eq_getD_getElem?]
     rcases Nat.lt_or_ge d a0.tmps.size with hd' | hd'
     ·rw [Array.getElem?_setIfInBounds_self_of_lt (by rw [Znq]; exact hd'),Array.getElem?_setIfInBounds_self_of_lt (by rw [Znq]; exact hd')]
     ·rw [Array.getElem?_eq_none (by simp [Znq]; omega),Array.getElem?_eq_none (by simp [Znq]; omega)]
    ·exact ih'
   ·have hne:∀ d,o.dst=some d→x ≠ .tmp d:=fun d hd e=>hx ⟨d,hd,e⟩
    have e1:∀ (b:Bool) (A:Act) (v:Value),(if b then A.put o.dst v else A).eval x=A.eval x:=fun b A v=>by
     cases b
     ·rfl
     ·exact Act.eval_put hne
    rw [e1,e1]
    exact ih'
theorem Yfn {o:Oper} {j:Nat} (h:Zcw o j=true):∃ e ∈ o.after,Region.binds .any e=true∧e.on=j:=by
 unfold Zcw at h
 rw [← Array.any_toList] at h
 obtain ⟨e,he,hb⟩:=List.any_eq_true.1 h
 simp only [Bool.and_eq_true,beq_iff_eq] at hb
 exact ⟨e,by simpa using he,hb.1,hb.2⟩
def Zyf (z T:Nat) (ops:List Oper) (ph:List Ph) (m n:Nat):Bool :=
 (ops.length == ph.length && (List.range m).all fun p=>Zoj ph p (fun _=>true)) &&
 (List.range ops.length).all fun i=>match ops[i]?,ph[i]? with
  | some o,some q =>
   (match o.guard with
    | none=>true
    | some (j,_)=>Zcw o j && (match ops[j]? with
     | some p=>match p.dst with | some d=>decide (d<T) | none=>false
     | _=>false)) && (match o.op with | .select .. => false | _=>true) &&
   (o.after.all fun e => !Region.binds .any e || e.on<i) &&
   ((List.range ops.length).all fun j=>match ops[j]? with
    | some p=>match p.dst with
     | some d=>((j == i) || (o.dst != some d)) && (!(o.looksAt ops.toArray).contains d || (Zcw o j && j != z) || (j == z && Zcw p i))
     | none=>true
    | none=>true) &&
   (match q with
    | .rd lo hi _=>(lo == 0 || Zoj ph (lo - 1) (fun j=>reach ops n i j)) && (decide (m≤hi) || Zoj ph hi (fun j=>reach ops n j i))
    | .st p=>decide (p<m) && (p == 0 || Zoj ph (p - 1) (fun j=>reach ops n i j)) && ((List.range ops.length).all fun j=>j == i || (match ph[j]? with | some r => !r.isSt p | none=>true))
    | .no=>o.guard.isSome)
  | _,_=>false
structure PzAt (z T:Nat) (ops:List Oper) (ph:List Ph) (m n i:Nat) (o:Oper) (q:Ph):Prop where
 gd:o.guard=none∨∃ j b p d,o.guard=some (j,b)∧Zcw o j=true∧ops[j]?=some p∧p.dst=some d∧d<T
 sel:∀ cs b,o.op ≠ .select cs b
 low:∀ e ∈ o.after,Region.binds .any e=true→e.on<i
 dst:∀ j p d,ops[j]?=some p→p.dst=some d→j=i∨o.dst≠some d
 look:∀ j p d,ops[j]?=some p→p.dst=some d→d ∈ o.looksAt ops.toArray→(Zcw o j=true∧j≠z)∨(j=z∧Zcw p i=true)
 rdl:∀ lo hi g,q = .rd (lo+1) hi g→∃ j,ph[j]?=some (.st lo)∧reach ops n i j=true
 rdh:∀ lo hi g,q = .rd lo hi g→m≤hi∨∃ j,ph[j]?=some (.st hi)∧reach ops n j i=true
 stm:∀ p,q = .st p→p<m
 stl:∀ p,q = .st (p+1)→∃ j,ph[j]?=some (.st p)∧reach ops n i j=true
 stu:∀ p,q = .st p→∀ j,ph[j]?=some (.st p)→j=i
 ng:q = .no→o.guard≠none
theorem Yio {z T:Nat} {ops:List Oper} {ph:List Ph} {m n:Nat} (h:Zyf z T ops ph m n=true) {i:Nat} {o:Oper} (ho:ops[i]?=some o):∃ q,ph[i]?=some q∧PzAt z T ops ph m n i o q:=by
 unfold Zyf at h
 simp only [Bool.and_eq_true,List.all_eq_true,List.mem_range,beq_iff_eq] at h
 obtain ⟨⟨hl,_⟩,h⟩:=h
 have hi:=(Qa.1 ho).1
 have h:=h i hi
 rw [ho] at h
 cases hq:ph[i]? with
 | none=>rw [hq] at h; simp at h
 | some q =>
  rw [hq] at h
  simp only [Bool.and_eq_true,List.all_eq_true,List.mem_range] at h
  obtain ⟨⟨⟨⟨h1,h2⟩,h3⟩,h4⟩,h5⟩:=h
  refine ⟨q,rfl,?_,?_,?_,?_,?_,?_,?_,?_,?_,?_,?_⟩
  ·cases hgd:o.guard with
   | none=>exact Or.inl rfl
   | some jb =>
    obtain ⟨j,b⟩:=jb
    rw [hgd] at h1
    simp only [Bool.and_eq_true] at h1
    obtain ⟨h6,h7⟩:=h1
    cases hp:ops[j]? with
    | none=>rw [hp] at h7; simp at h7
    | some p =>
     rw [hp] at h7
     simp only at h7
     cases hd:p.dst with
     | none=>rw [hd] at h7; simp at h7
     | some d =>
      rw [hd] at h7
      exact Or.inr ⟨j,b,p,d,rfl,h6,hp,hd,by simpa using h7⟩
  ·intro cs b e; rw [e] at h2; simp at h2
  ·intro e he hb
   have:=Array.all_eq_true_iff_forall_mem.1 h3 e he
   simpa [hb] using this
  ·intro j p d hp hd
   have:=h4 j (Qa.1 hp).1
   rw [hp] at this
   simp only [hd,Bool.and_eq_true,Bool.or_eq_true,beq_iff_eq,bne_iff_ne] at this
   exact this.1
  ·intro j p d hp hd hm
   have:=h4 j (Qa.1 hp).1
   rw [hp] at this
   simp only [hd,Bool.and_eq_true,Bool.or_eq_true,beq_iff_eq,bne_iff_ne] at this
   rcases this.2 with (h | h) | h
   ·simp [hm] at h
   ·exact Or.inl h
   ·exact Or.inr h
  ·intro lo hi g e
   subst e
   simp only [Bool.and_eq_true,Bool.or_eq_true] at h5
   rcases h5.1 with h | h
   ·simp at h
   ·exact Zfo h
  ·intro lo hi g e
   subst e
   simp only [Bool.and_eq_true,Bool.or_eq_true,decide_eq_true_eq] at h5
   rcases h5.2 with h | h
   ·exact Or.inl h
   ·exact Or.inr (Zfo h)
  ·intro p e
   subst e
   simp only [Bool.and_eq_true,decide_eq_true_eq] at h5
   exact h5.1.1
  ·intro p e
   subst e
   simp only [Bool.and_eq_true,Bool.or_eq_true] at h5
   rcases h5.1.2 with h | h
   ·simp at h
   ·exact Zfo h
  ·intro p e j hj
   subst e
   simp only [Bool.and_eq_true,List.all_eq_true,List.mem_range,Bool.or_eq_true,beq_iff_eq] at h5
   rcases h5.2 j (by have:=(Qa.1 hj).1; omega) with h | h
   ·exact h
   ·rw [hj] at h; simp [Ph.isSt] at h
  ·intro e
   subst e
   intro hn
   rw [hn] at h5
   simp at h5
abbrev pzA (z i:Nat) (a0:Act) (ops:List Oper) (ph:List Ph) (vs:List Value):Act:=phA a0 vs (fun j=>i == z || j != z) ops ph
def AllObZ (P:Program) (S:List Value→World→Prop) (z:Nat) (a0:Act) (ops0:List Oper) (ph0:List Ph):Nat→List Oper→List Ph→Prop
 | k,o::os,q::qs=>ObP P S (pzA z k a0 ops0 ph0) ph0 o q∧AllObZ P S z a0 ops0 ph0 (k+1) os qs
 | _,_,_=>True
theorem AllObZ.at {P:Program} {S:List Value→World→Prop} {z:Nat} {a0:Act} {ops0:List Oper} {ph0:List Ph}:∀ {ops:List Oper} {ks:List Ph} {k:Nat},AllObZ P S z a0 ops0 ph0 k ops ks →
  ∀ {i:Nat} {o:Oper} {q:Ph},ops[i]?=some o→ks[i]?=some q→ObP P S (pzA z (k+i) a0 ops0 ph0) ph0 o q:=by
 intro ops
 induction ops with
 | nil=>intro ks k _ i o q h; simp at h
 | cons p os ih =>
  intro ks k h i o q ho hq
  cases ks with
  | nil=>simp at hq
  | cons r qs =>
   cases i with
   | zero=>simp at ho hq; subst ho hq; exact h.1
   | succ i =>
    have:=ih h.2 (i:=i) (by simpa using ho) (by simpa using hq)
    have e:k+1+i=k+(i+1):=by omega
    rw [e] at this; exact this
theorem Yfo {P:Program} {ops:List Oper} {id:Nat} {Q:Exit→Act→World→Prop} {a0:Act} {w:World} (hm:P.follows .mixedOrders=true) (z:Nat) (ph:List Ph) (m n:Nat) (hfit:Zyf z a0.tmps.size ops ph m n=true)
  (S:List Value→World→Prop) (hS0:S [] w.drew) (hob:AllObZ P S z a0 ops ph 0 ops ph)
  (hQ:∀ vs u,vs.length=m→S vs u→Q .normal (phAll a0 ops ph vs) u) :
  (Code.region id ops.toArray true).wp P Q a0 w:=by
 have hlen:ops.length=ph.length∧∀ p,p<m→∃ j:Nat,ph[j]?=some (Ph.st p):=by
  unfold Zyf at hfit
  simp only [Bool.and_eq_true,beq_iff_eq,List.all_eq_true,List.mem_range] at hfit
  exact ⟨hfit.1.1,fun p hp=>by obtain ⟨j,h,_⟩:=Zfo (hfit.1.2 p hp); exact ⟨j,h⟩⟩
 obtain ⟨hlen,hall⟩:=hlen
 have hkat:∀ {i':Nat} {q':Ph},ph[i']?=some q'→∃ o',ops[i']?=some o'∧PzAt z a0.tmps.size ops ph m n i' o' q':=fun {i' q'} h1=>by
  have ho:=Qb (l:=ops) (i:=i') (by have:=(Qa.1 h1).1; omega)
  obtain ⟨q2,hq2,hF2⟩:=Yio hfit ho
  rw [h1] at hq2; simp at hq2; subst hq2
  exact ⟨_,ho,hF2⟩
 refine wp_region_any hm (Zkc (J:=PhPlan ops ph m a0 S) ?_ ?_ _ _ _ _ ?_ ?_)
 ·intro L a u i hr hJ
  obtain ⟨hsz,hcl,vs,rfl,hS,hvm,hst,hdue⟩:=hJ
  obtain ⟨h0,o,ho',_⟩:=mem_ready.1 hr
  have ho:ops[i]?=some o:=by simpa using ho'
  have hi:i<ops.length:=(Qa.1 ho).1
  have hil:i<L.size:=by omega
  have hun:L.getD i false=false:=by simp [hil] at h0 ⊢; exact h0
  obtain ⟨q,hq,hF⟩:=Yio hfit ho
  have hOb:=hob.at ho hq
  have hw1:∀ k,Zcw o k=true→L.getD k false=true:=fun k hk=>Zbq hr ho hk
  rw [Nat.zero_add] at hOb
  have hexec:execOp (phA a0 vs (fun j=>L.getD j false) ops ph).eval o=execOp (pzA z i a0 ops ph vs).eval o:=by
   refine execOp_congr o hF.sel (fun x hx=>Yin (fun j p d hp hd e => ?_))
   subst e
   simp only [Nat.zero_add]
   rcases hF.look j p d hp hd (List.mem_append_left _ (List.mem_filterMap.2 ⟨.tmp d,by simpa using hx,rfl⟩)) with ⟨hw,hjz⟩ | ⟨rfl,hw⟩
   ·rw [Zbq hr ho hw]
    symm
    simp only [Bool.or_eq_true,bne_iff_ne]
    exact Or.inr hjz
   ·have hjl:L.getD j false=false:=by
     cases hq':L.getD j false with
     | false=>rfl
     | true =>
      have:=hcl j p hp hq' i hw
      rw [hun] at this; simp at this
    rw [hjl]
    have hij:i≠j:=by
     intro e
     subst e
     rw [ho] at hp
     simp at hp
     subst hp
     obtain ⟨e',he',hb1,hb2⟩:=Yfn hw
     have:=hF.low e' he' hb1
     omega
    symm
    simp [hij]
  have hyield:∀ j b,o.guard=some (j,b)→∃ r,ph[j]?=some r∧r.due≤vs.length∧yielded ops.toArray (phA a0 vs (fun j=>L.getD j false) ops ph).tmps j=(match r.val vs with | .bool c=>some c | _=>none):=by
   intro j b hg
   rcases hF.gd with hg' | ⟨j',b',p,d,hg',h1,h3,h4,h5⟩
   ·rw [hg'] at hg; simp at hg
   ·rw [hg'] at hg
    simp only [Qo,Prod.mk.injEq] at hg
    obtain ⟨rfl,rfl⟩:=hg
    obtain ⟨r,hr',hF'⟩:=Yio hfit h3
    have hk:(ph.map (Ph.kd vs))[j']?=some (r.kd vs):=by simp [hr']
    have ht:=Yli (a0:=a0) (vc:=undef) (β:=noB) (lst:=fun j=>L.getD j false) (k:=0) h3 hk (by simpa using hw1 j' h1) h4 (fun j2 p' h6 h7=>by
     rcases hF'.dst j2 p' d h6 h7 with h | h
     ·exact h
     ·exact absurd h4 h) h5
    refine ⟨r,hr',hdue j' r hr' (hw1 j' h1),?_⟩
    unfold yielded
    simp only [List.getElem?_toArray,h3,Option.bind_some,h4,ht,Kd.val,Ph.kd]
    cases r.val vs <;> rfl
  have hL:=Zhm hil
  have hold:∀ j,L.getD j false=true→(L.setIfInBounds i true).getD j false=true:=fun j h=>by rw [hL,h]; rfl
  have hnew:∀ j,j≠i→(L.setIfInBounds i true).getD j false=L.getD j false:=fun j h=>by
   rw [hL]
   have:(j == i)=false:=by rw [Qu]; exact h
   simp [this]
  have hput:∀ vs',(∀ j r,ph[j]?=some r→L.getD j false=true→r.val vs=r.val vs') →
    (phA a0 vs (fun j=>L.getD j false) ops ph).put o.dst (q.val vs')=phA a0 vs' (fun j=>(L.setIfInBounds i true).getD j false) ops ph:=by
   intro vs' hv
   have e1:phA a0 vs (fun j=>L.getD j false) ops ph=phA a0 vs' (fun j=>L.getD j false) ops ph:=Zlz (fun j r hr' hl=>by
    simp only [Nat.zero_add] at hl
    exact hv j r hr' hl)
   rw [e1]
   have hk:(ph.map (Ph.kd vs'))[i]?=some (q.kd vs'):=by simp [hq]
   have e2:=Zwv (a0:=a0) (vc:=undef) (β:=noB) (lst:=fun j=>L.getD j false) (k:=0) ho hk (by simpa using hun) hF.dst
   simp only [Nat.zero_add] at e2
   have e3:(q.kd vs').val undef noB i=q.val vs':=rfl
   rw [e3] at e2
   show (pa a0 undef noB (fun j=>L.getD j false) 0 ops (ph.map (Ph.kd vs'))).put o.dst (q.val vs')=_
   rw [← e2]
   exact Zet (fun j r hr'=>⟨by simp only [Nat.zero_add,hL],fun _=>rfl⟩)
  have hcl':∀ (i':Nat) o',ops[i']?=some o'→(L.setIfInBounds i true).getD i' false=true→∀ j,Zcw o' j=true→(L.setIfInBounds i true).getD j false=true:=by
   intro i' o' h1 h2 j hj
   by_cases e:i'=i
   ·subst e
    rw [ho] at h1; simp at h1; subst h1
    exact hold _ (Zbq hr ho hj)
   ·exact hold _ (hcl i' o' h1 ((hnew i' e).symm.trans h2) j hj)
  have hreach:∀ j,reach ops n i j=true→L.getD j false=true:=fun j h=>Zpu (L:=fun j=>L.getD j false) hcl ho hw1 h
  -- the operation turns no memory
  have hkeep:(∀ p,q ≠ .st p)→q.due≤vs.length→PhPlan ops ph m a0 S (L.setIfInBounds i true) ((phA a0 vs (fun j=>L.getD j false) ops ph).put o.dst (q.val vs)) u:=fun hns hqd=>by
   refine ⟨by simpa using hsz,hcl',vs,hput vs (fun _ _ _ _=>rfl),hS,hvm,?_,?_⟩
   ·intro i' p h1
    have hne:i'≠i:=fun e=>by subst e; rw [hq] at h1; exact hns p (Option.some.inj h1)
    rw [hnew i' hne]
    exact hst i' p h1
   ·intro i' q' h1 h2
    by_cases e:i'=i
    ·subst e; rw [hq] at h1; simp at h1; subst h1; exact hqd
    ·exact hdue i' q' h1 ((hnew i' e).symm.trans h2)
  unfold wpOp
  simp only [ho']
  by_cases hqn:q = .no
  ·subst hqn
   cases hg:o.guard with
   | none=>exact absurd hg (hF.ng rfl)
   | some jb =>
    obtain ⟨j,b⟩:=jb
    obtain ⟨r,hr',hd,hy⟩:=hyield j b hg
    have hO:=hOb.1
    rw [hg] at hO
    simp only [hr'] at hO
    have hv:=hO vs u hd hS
    have hwant:Region.wanted o (yielded ops.toArray (phA a0 vs (fun j=>L.getD j false) ops ph).tmps)=false:=by
     unfold Region.wanted
     rw [hg]
     simp only
     rw [hy]
     cases hrv:r.val vs with
     | bool c =>
      rw [hrv] at hv
      have:c≠b:=fun e=>hv (by rw [e])
      simpa using this
     | _=>simp
    rw [if_neg (by rw [hwant]; simp)]
    exact hkeep (fun p=>by simp) (Qm _)
  ·have hwant:Region.wanted o (yielded ops.toArray (phA a0 vs (fun j=>L.getD j false) ops ph).tmps)=true:=by
    cases hg:o.guard with
    | none=>simp [Region.wanted,hg]
    | some jb =>
     obtain ⟨j,b⟩:=jb
     obtain ⟨r,hr',hd,hy⟩:=hyield j b hg
     have hO:=hOb.1
     rw [hg] at hO
     simp only [hr'] at hO
     have hv:=hO vs u hd hS
     have hv':r.val vs = .bool b:=by cases q <;> first | exact hv | exact absurd rfl hqn
     unfold Region.wanted
     rw [hg]
     simp only
     rw [hy,hv']
     simp
   rw [if_pos hwant]
   refine Or.inl ?_
   unfold Oper.wp
   rw [hexec]
   cases q with
   | no=>exact absurd rfl hqn
   | rd lo hi g =>
    have hlo:lo≤vs.length:=by
     cases lo with
     | zero=>exact Qm _
     | succ lo =>
      obtain ⟨j,h1,h2⟩:=hF.rdl lo hi g rfl
      exact (hst j lo h1).1 (hreach j h2)
    have hhi:vs.length≤hi:=by
     rcases hF.rdh lo hi g rfl with h | ⟨j,h1,h2⟩
     ·omega
     ·rcases Nat.lt_or_ge hi vs.length with h | h
      ·have hj:=(hst j hi h1).2 h
       have:=Zin (L:=fun j=>L.getD j false) hcl n j i h2 hj
       rw [hun] at this; simp at this
      ·exact h
    have hO:(execOp (pzA z i a0 ops ph vs).eval o).run P u=_:=hOb.2 vs u hlo hhi hS
    rw [hO]
    exact hkeep (fun p=>by simp) hlo
   | st p =>
    have hpv:vs.length=p:=by
     have h1:¬ p<vs.length:=fun h=>by
      have:=(hst i p hq).2 h
      rw [hun] at this; simp at this
     cases p with
     | zero=>omega
     | succ p =>
      obtain ⟨j,h2,h3⟩:=hF.stl p rfl
      have:=(hst j p h2).1 (hreach j h3)
      omega
    have hpm:=hF.stm p rfl
    have hstep:∀ v u',S (vs++[v]) u'→PhPlan ops ph m a0 S (L.setIfInBounds i true) ((phA a0 vs (fun j=>L.getD j false) ops ph).put o.dst v) u':=by
     intro v u' hS'
     have hval:(Ph.st p).val (vs++[v])=v:=by
      subst hpv
      simp [Ph.val]
     refine ⟨by simpa using hsz,hcl',vs++[v],?_,hS',by simp; omega,?_,?_⟩
     ·rw [← hput (vs++[v]) ?_,hval]
      intro j r h1 h2
      have hd:=hdue j r h1 h2
      cases r with
      | rd lo hi g =>
       simp only [Ph.due] at hd
       simp only [Ph.val]
       rw [List.take_append_of_le_length hd]
      | st p' =>
       simp only [Ph.due] at hd
       simp only [Ph.val,List.getD_eq_getElem?_getD]
       rw [Qc (by omega)]
      | no=>rfl
     ·intro i' p' h1
      by_cases e:i'=i
      ·subst e
       rw [hq] at h1
       simp at h1
       subst h1
       rw [hL]
       simp
       omega
      ·rw [hnew i' e,hst i' p' h1]
       have hne:p'≠p:=fun e2=>by subst e2; exact e (hF.stu p' rfl i' h1)
       simp only [Qg,Qf,Jt]
       omega
     ·intro i' q' h1 h2
      simp only [Qg,Qf,Jt]
      by_cases e:i'=i
      ·subst e
       rw [hq] at h1; simp at h1; subst h1
       simp only [Ph.due]; omega
      ·have:=hdue i' q' h1 ((hnew i' e).symm.trans h2)
       omega
    have hO:StepOk P S vs u (pzA z i a0 ops ph vs).eval o:=hOb.2 vs u hpv hS
    cases hO with
    | value v w' h hS'=>rw [h]; exact hstep v w' hS'
    | skip w' h hS'=>rw [h]; exact hstep undef w' hS'
    | call f args u1 h hS' =>
     rw [h]
     refine hS'.mono ?_
     rintro e u' ⟨v,rfl,hr'⟩
     exact hstep v u' hr'
    | row f args u1 h hS' =>
     rw [h]
     exact hS'.mono (fun v u' hr'=>hstep v u' hr')
 ·intro L a u hr hJ
  obtain ⟨hsz,hcl,vs,rfl,hS,hvm,hst,hdue⟩:=hJ
  have hal:∀ i,i<ops.length→L.getD i false=true:=by
   intro i
   induction i using Nat.strongRecOn with
   | _ i ih =>
    intro hi
    cases hl:L.getD i false with
    | true=>rfl
    | false =>
     exfalso
     have ho:ops[i]?=some ops[i]:=Qb hi
     obtain ⟨q,hq,hF⟩:=Yio hfit ho
     have:i ∈ Region.ready .any ops.toArray L:=by
      refine mem_ready.2 ⟨?_,ops[i],by simp,fun e he hb=>ih e.on (hF.low e he hb) (by have:=hF.low e he hb; omega)⟩
      have hi':i<L.size:=by omega
      simp [hi'] at hl ⊢
      exact hl
     rw [hr] at this
     simp at this
  have e:phA a0 vs (fun j=>L.getD j false) ops ph=phAll a0 ops ph vs:=Zet (fun j r hr'=>⟨by
   simp only [Nat.zero_add]
   exact hal j (by have:=(Qa.1 hr').1; simp at this; omega),fun _=>rfl⟩)
  rw [e]
  refine hQ vs u ?_ hS
  rcases Nat.lt_or_ge vs.length m with h | h
  ·obtain ⟨j,hj⟩:=hall _ h
   have:=(hst j _ hj).1 (hal j (by have:=(Qa.1 hj).1; omega))
   omega
  ·omega
 ·have:(ops.toArray).size=ops.length:=by simp
  unfold unl
  exact Qq (List.length_filter_le _ _) (by simp)
 ·have hz:∀ j,(Array.replicate ops.toArray.size false).getD j false=false:=fun j=>by
   simp only [Array.getD_eq_getD_getElem?,Array.getElem?_replicate]
   split <;> rfl
  refine ⟨by simp,?_,[],?_,hS0,Qm _,?_,?_⟩
  ·intro i o _ h; rw [hz] at h; simp at h
  ·have:∀ (k:Nat) (os:List Oper) (qs:List Kd),pa a0 undef noB (fun j=>(Array.replicate ops.toArray.size false).getD j false) k os qs=a0:=by
    intro k os
    induction os generalizing k with
    | nil=>intro qs; simp [pa]
    | cons o os ih =>
     intro qs
     cases qs with
     | nil=>simp [pa]
     | cons q qs=>rw [pa,hz]; simp only [Bool.false_eq_true,if_false]; exact ih _ _
   exact (this _ _ _).symm
  ·intro i p _
   rw [hz]
   simp
  ·intro i q _ h; rw [hz] at h; simp at h
theorem Ybg (d:Nat) (w:World) (hd:d≤1000):Calls Tryz.prog 80 #[.int .i64 d] w fun e w'=>e = .returned (.string ⟨(List.replicate (2 * d) 32).toArray⟩)∧w'=w:=by
 go_enter Tryz.func80,Tryz.ntmps80
 go_wp2
 go_loopg [3,4] (d+1) (fun gk tx nv wr=>∃ (k:Nat),nv = .int .i64 k∧k≤d∧d - k<gk∧tx = .string ⟨(List.replicate (2 * k) 32).toArray⟩∧wr=w)
 case atStart=>exact ⟨0,by go_num,Qm _,by omega,rfl,rfl⟩
 case round =>
  obtain ⟨k,rfl,hk,hgk,rfl,rfl⟩:=hrel
  by_cases hlt:k<d
  ·have hlt':(k:Int)<(d:Int):=by omega
   have hsz:(⟨(List.replicate (2 * k) 32).toArray⟩:ByteArray).size=2 * k:=by simp [ByteArray.size]
   obtain ⟨S,hS⟩:∃ S,S=(⟨(List.replicate (2 * k) (32:UInt8)).toArray⟩:ByteArray):=⟨_,rfl⟩
   rw [← hS] at hsz ⊢
   have HS:=Zac hS
   clear hS
   go_wp2
   go_roundg (d - k)
   case measure=>omega
   case rel =>
    refine ⟨k+1,by go_num,by omega,by omega,?_,rfl⟩
    rw [HS.out]
    show Value.string (_++(⟨[32,32].toArray⟩:ByteArray))=_
    rw [Zbb,show 2 * (k+1)=2 * k+1+1 by omega,List.replicate_succ',List.replicate_succ']
    simp
  ·have hek:k=d:=by omega
   subst hek
   have hlt':¬ ((k:Int)<(k:Int)):=by omega
   go_wp2
   go_ret
   exact ⟨rfl,rfl⟩
theorem Zwl {cs:List Cls}:∀ {ks:List Nat} {n:ND} {i:Nat},(Zaw cs n ks i).2=(0,0)→(Zaw cs n ks i).1.used=n.used++ks:=by
 intro ks
 induction ks with
 | nil =>
  intro n i h
  have e:Zaw cs n [] i=if n.goals=[] then (n,0,0) else (n,7,i):=by unfold Zaw; rfl
  rw [e] at h ⊢
  split
  ·simp
  ·rename_i hg; rw [if_neg hg] at h; simp at h
 | cons k ks ih =>
  intro n i h
  obtain ⟨c,hc,hg,hq,hgo⟩:=Zuc h
  rw [hgo] at h ⊢
  rw [ih h,Zew hq]
  simp
theorem Ylv {n:ND} (hn:NOk n) (hm:NNm n) (hf:NFew n):TxOk (n.done.map (·.1)):=by
 have hl:n.done.length≤100:=by rw [hn.dl]; exact hn.ul
 have hin:∀ t ∈ n.done.map (·.1),t ∈ n.terms∧t.length≤30:=fun t ht=>by
  refine ⟨by unfold ND.terms; simp only [Qk]; exact Or.inr (Or.inr ht),?_⟩
  obtain ⟨x,hx,rfl⟩:=List.mem_map.1 ht
  exact (hn.ds x hx).1
 refine Ymt hn hm hin (by simp; omega) ?_
 have:=Yaz (n.done.map (·.1)) [] (fun t ht=>by
  obtain ⟨h1,h2⟩:=hin t ht
  have:=Yik (hn.wf t h1) (hf t h1)
  omega)
 simp only [Jt,Ql] at this
 omega
theorem Zyg (a:List UInt8) (b:Array UInt8):(⟨a.toArray⟩:ByteArray)++⟨b⟩=⟨(a++b.toList).toArray⟩:=by
 have:=Zbb a b.toList
 simpa using this
def ExplPh (w0:World) (I X:List UInt8):List Value→World→Prop
 | [],u=>u=w0
 | [a],u=>a = .string ⟨I.toArray⟩∧u=w0
 | [a,b],u=>a = .string ⟨I.toArray⟩∧b = .string ⟨X.toArray⟩∧u=w0
 | _,_=>False
theorem ExplPh.at {w0:World} {I X:List UInt8}:∀ {vs:List Value} {u:World},ExplPh w0 I X vs u→u=w0∧(1≤vs.length→vs.getD 0 undef = .string ⟨I.toArray⟩)∧(2≤vs.length→vs.getD 1 undef = .string ⟨X.toArray⟩)
 | [],u,h=>⟨h,by simp,by simp⟩
 | [a],u,h=>⟨h.2,fun _=>h.1,by simp⟩
 | [a,b],u,h=>⟨h.2.2,fun _=>h.1,fun _=>h.2.1⟩
 | _::_::_::_,u,h=>h.elim
theorem Zmc (w:World) (nv gv vv rv kv dv:Value) (uu:Nat) (n:ND) (ds ks:List Nat) (hnv:∃ a l c,nv = .slice a l c) (hg:∃ a l c,gv = .slice a l c) (hv:∃ a l c,vv = .slice a l c) (hr:TermsIn w rv (n.done.map (·.1))) (hk:w.ownsRow 0 3 1 kv ks.length (ints ks)) (hd:w.ownsRow 0 3 1 dv ds.length (ints ds))
  (hn:NOk n) (hm:NNm n) (hf:NFew n) (hkl:ks.length=n.done.length) (hdl:ds.length=n.done.length) (hk9:∀ k ∈ ks,k≤99) (hd9:∀ d ∈ ds,d≤100) (hL:(Zen (Zaq (n.done.map (·.1)) []).1 ds ks).length≤100000000) :
  Calls Tryz.prog 59 #[.agg #[nv,gv,vv,rv,.int .i64 uu,kv,dv]] w fun e w'=>Ext w w'∧e = .returned (.string ⟨(Zen (Zaq (n.done.map (·.1)) []).1 ds ks).toArray⟩):=by
 obtain ⟨n1,n2,n3,rfl⟩:=hnv
 obtain ⟨g1,g2,g3,rfl⟩:=hg
 obtain ⟨v1,v2,v3,rfl⟩:=hv
 obtain ⟨ra,rcap,rfl⟩:=hr.shape
 obtain ⟨ka,kcap,rfl⟩:=Zae hk
 obtain ⟨da,dcap,rfl⟩:=Zae hd
 have hN100:n.done.length≤100:=by rw [hn.dl]; exact hn.ul
 obtain ⟨ts,hts⟩:∃ l,l=n.done.map (·.1):=⟨_,rfl⟩
 have htl:ts.length=n.done.length:=by rw [hts]; simp
 have htx:=Ylv hn hm hf
 rw [← hts] at hr htx hL ⊢
 obtain ⟨N,hN⟩:∃ N,N=ts.length:=⟨_,rfl⟩
 have hkN:ks.length=N:=by omega
 have hdN:ds.length=N:=by omega
 have hNl:N≤100:=by omega
 rw [hkN] at hk ⊢
 rw [hdN] at hd ⊢
 rw [← hN] at hr ⊢
 have HT:Hid (∀ y,Ext w y→Calls Tryz.prog 79 #[.slice ra N rcap] y (Zyc ts y)):=fun y hE=>Zue y _ ts (hr.ext hE) htx
 have hcl:(Zaq ts []).1.length=ts.length:=Zdw _ _
 obtain ⟨C,hC⟩:∃ C,C=(Zaq ts []).1:=⟨_,rfl⟩
 have Htx:Hid (Zka ts=C.map (fun t=>Zby t [])):=by show _=_; unfold Zka; rw [hC]
 rw [← hC] at hcl hL ⊢
 obtain ⟨F,hF⟩:∃ F,F=Zen C ds ks:=⟨_,rfl⟩
 rw [← hF] at hL ⊢
 have HF:=Zac hF
 have Hk:=Zac hk
 have Hd:=Zac hd
 have Hk9:=Zac hk9
 have Hd9:=Zac hd9
 have HkN:=Zac hkN
 have HdN:=Zac hdN
 have HCN:Hid (C.length=N):=by show _=_; omega
 have HtN:Hid (ts.length=N):=hN.symm
 clear hr hk hd hn hm hf htx hC hF hcl hkl hdl hk9 hd9 hkN hdN hts htl hN hN100
 go_enter Tryz.func59,Tryz.ntmps59
 go_wp2_with fail
 refine (HT.out _ (Below.refl _ w |>.alloc (Qe _) _)).mono ?_
 rintro e w1 ⟨hE1,xa,xc,rfl,hT⟩
 rw [HtN.out] at hT ⊢
 rw [Htx.out] at hT
 have hz1:=hE1.size
 simp at hz1
 have hEw1:Ext w w1:=(Below.refl _ w |>.alloc (Qe _) _).trans (hE1.mono (by simp))
 have hbx:w1.heap[w.heap.size]?=some (.cells #[.slice n1 n2 n3,.slice g1 g2 g3,.slice v1 v2 v3,.slice ra N rcap,.int .i64 uu,.slice ka N kcap,.slice da N dcap] 89 (0,0)):=(hE1.block _ (by simp)).trans (heap_alloc_new w _)
 have c5:w1.cell? ⟨w.heap.size,5,none⟩=some (.slice ka N kcap):=Zaa hbx 5 _ rfl
 have c6:w1.cell? ⟨w.heap.size,6,none⟩=some (.slice da N dcap):=Zaa hbx 6 _ rfl
 have hbl:=Zab hbx
 have HEw1:=Zac hEw1
 have HTx:=Zac hT
 clear hE1 hEw1 hbx hT HT
 go_wp2
 go_loopg [3,11] (N+1) (fun gk tx iv wr=>∃ (k:Nat) (acc:List UInt8),iv = .int .i64 k∧k≤N∧N - k<gk∧tx = .string ⟨acc.toArray⟩∧acc++Zen (C.drop k) (ds.drop k) (ks.drop k)=F∧Ext w1 wr)
 case atStart=>exact ⟨0,[],by go_num,Qm _,by omega,rfl,by rw [HF.out]; rfl,Below.refl _ _⟩
 case round =>
  obtain ⟨k,acc,rfl,hk,hgk,rfl,hacc,hEr⟩:=hrel
  have hzr:=hEr.size
  have c5:wr.cell? ⟨w.heap.size,5,none⟩=some (.slice ka N kcap):=(hEr.cell (p:=⟨w.heap.size,5,none⟩) hbl).trans c5
  have c6:wr.cell? ⟨w.heap.size,6,none⟩=some (.slice da N dcap):=(hEr.cell (p:=⟨w.heap.size,6,none⟩) hbl).trans c6
  have hblr:w.heap.size<wr.heap.size:=by omega
  have HEr:=Zac hEr
  clear hEr
  by_cases hlt:k<N
  ·have hkC:k<C.length:=by rw [HCN.out]; exact hlt
   have hkd:k<ds.length:=by rw [HdN.out]; exact hlt
   have hkk:k<ks.length:=by rw [HkN.out]; exact hlt
   obtain ⟨t,ht⟩:∃ t,C[k]?=some t:=⟨_,Qb hkC⟩
   obtain ⟨d,hd⟩:∃ d,ds[k]?=some d:=⟨_,Qb hkd⟩
   obtain ⟨x,hx⟩:∃ x,ks[k]?=some x:=⟨_,Qb hkk⟩
   have hdt:C.drop k=t::C.drop (k+1):=by rw [List.drop_eq_getElem_cons hkC,(Qa.1 ht).2]
   have hdd:ds.drop k=d::ds.drop (k+1):=by rw [List.drop_eq_getElem_cons hkd,(Qa.1 hd).2]
   have hdx:ks.drop k=x::ks.drop (k+1):=by rw [List.drop_eq_getElem_cons hkk,(Qa.1 hx).2]
   rw [hdt,hdd,hdx,Zen] at hacc
   have hd100:=Hd9.out d (Qh hd)
   have hx99:=Hk9.out x (Qh hx)
   obtain ⟨kb,kc',kcur,hke,_,hkb,_⟩:=Zap Hk.out (by omega)
   simp only [Value.slice.injEq] at hke
   obtain ⟨rfl,_,rfl⟩:=hke
   have hkw:=Zab hkb
   obtain ⟨db,dc',dcur,hde,_,hdb,_⟩:=Zap Hd.out (by omega)
   simp only [Value.slice.injEq] at hde
   obtain ⟨rfl,_,rfl⟩:=hde
   have hdw:=Zab hdb
   have hz0:=HEw1.out.size
   have hE0r:Ext w wr:=HEw1.out.trans (HEr.out.mono hz0)
   have k0:wr.cell? ⟨kb,k,none⟩=some (.int .i64 x):=(hE0r.cell (p:=⟨kb,k,none⟩) hkw).trans (Zai Hk.out k _ (by simp only [ints,Qj,hx,Option.map_some]))
   have d0:wr.cell? ⟨db,k,none⟩=some (.int .i64 d):=(hE0r.cell (p:=⟨db,k,none⟩) hdw).trans (Zai Hd.out k _ (by simp only [ints,Qj,hd,Option.map_some]))
   obtain ⟨A,hA⟩:∃ A,A=Zby t []:=⟨_,rfl⟩
   obtain ⟨g2',cap2,cur2,he2,_,hgb2,_⟩:=Zap HTx.out (by omega)
   simp only [Value.slice.injEq] at he2
   obtain ⟨rfl,_,rfl⟩:=he2
   have hgw2:=Zab hgb2
   have hgr2:g2'<wr.heap.size:=by omega
   have y0:wr.cell? ⟨g2',k,none⟩=some (.string ⟨A.toArray⟩):=(HEr.out.cell (p:=⟨g2',k,none⟩) hgw2).trans (Zai HTx.out _ _ (by simp [strs,ht,hA]))
   rw [← hA] at hacc
   obtain ⟨I,hI⟩:∃ I,I=List.replicate (2 * d) (32:UInt8):=⟨_,rfl⟩
   obtain ⟨X,hX⟩:∃ X,X=Lib.decDigits x:=⟨_,rfl⟩
   rw [← hI,← hX] at hacc
   have hlen:=Zqu hacc
   simp only [Qg,Qf,Jt] at hlen
   have HI:=Zac (Ybg d wr.drew (by omega))
   have HX:=Zac (Zkk x wr.drew (by omega))
   rw [← hI] at HI
   rw [← hX] at HX
   have Hacc:=Zac hacc
   have hkr:kb<wr.heap.size:=by omega
   have hdr:db<wr.heap.size:=by omega
   have hnk:¬ ((N:Int)≤(k:Int)):=by omega
   clear hacc hdt hdd hdx ht hd hx hkb hdb hgb2 hA hI hX hE0r
   go_wp2_with fail
   refine Yfo (by kernel_rfl) 19 [.rd 0 2 (fun _ => .string ⟨acc.toArray⟩),.rd 0 2 (fun _ => .pointer (some ⟨w.heap.size,6,none⟩)),.rd 0 2 (fun _ => .slice (some ⟨db,0,none⟩) N dcap),.rd 0 2 (fun _ => .int .i64 k),.rd 0 2 (fun _ => .pointer (some ⟨db,k,none⟩)),.rd 0 2 (fun _ => .int .i64 d),.st 0,.rd 0 2 (fun _ => .string ⟨A.toArray⟩),
    .rd 1 2 (fun _ => .string ⟨(I++A).toArray⟩),.rd 1 2 (fun _ => .string ⟨(I++A++[32,98,121,32]).toArray⟩),.rd 0 2 (fun _ => .pointer (some ⟨w.heap.size,5,none⟩)),.rd 0 2 (fun _ => .slice (some ⟨kb,0,none⟩) N kcap),.rd 0 2 (fun _ => .int .i64 k),.rd 0 2 (fun _ => .pointer (some ⟨kb,k,none⟩)),.rd 0 2 (fun _ => .int .i64 x),.st 1,
    .rd 2 2 (fun _ => .string ⟨(I++A++[32,98,121,32]++X).toArray⟩),.rd 2 2 (fun _ => .string ⟨(I++A++[32,98,121,32]++X++[10]).toArray⟩),.rd 2 2 (fun _ => .string ⟨(acc++(I++A++[32,98,121,32]++X++[10])).toArray⟩),.rd 2 2 (fun _ => .string ⟨(acc++(I++A++[32,98,121,32]++X++[10])).toArray⟩)] 2 6 (by kernel_rfl)
    (ExplPh wr.drew I X) rfl ?_ ?_
   ·refine ⟨⟨trivial,fun vs u hl0 hl hS => ?_⟩,⟨trivial,fun vs u hl0 hl hS => ?_⟩,⟨trivial,fun vs u hl0 hl hS => ?_⟩,⟨trivial,fun vs u hl0 hl hS => ?_⟩,⟨trivial,fun vs u hl0 hl hS => ?_⟩,⟨trivial,fun vs u hl0 hl hS => ?_⟩,⟨trivial,fun vs u hl hS => ?_⟩,⟨trivial,fun vs u hl0 hl hS => ?_⟩,⟨trivial,fun vs u hl0 hl hS => ?_⟩,⟨trivial,fun vs u hl0 hl hS => ?_⟩,⟨trivial,fun vs u hl0 hl hS => ?_⟩,⟨trivial,fun vs u hl0 hl hS => ?_⟩,⟨trivial,fun vs u hl0 hl hS => ?_⟩,⟨trivial,fun vs u hl0 hl hS => ?_⟩,⟨trivial,fun vs u hl0 hl hS => ?_⟩,⟨trivial,fun vs u hl hS => ?_⟩,⟨trivial,fun vs u hl0 hl hS => ?_⟩,⟨trivial,fun vs u hl0 hl hS => ?_⟩,⟨trivial,fun vs u hl0 hl hS => ?_⟩,⟨trivial,fun vs u hl0 hl hS => ?_⟩,trivial⟩
    all_goals (obtain ⟨rfl,hv0,hv1⟩:=hS.at)
    ·simp [pzA,phA,pa,Ph.kd,Ph.val,Kd.val,go_sem]
    ·simp [pzA,phA,pa,Ph.kd,Ph.val,Kd.val,go_sem]
    ·simp [pzA,phA,pa,Ph.kd,Ph.val,Kd.val,go_sem,c6]
    ·simp [pzA,phA,pa,Ph.kd,Ph.val,Kd.val,go_sem]
    ·simp [pzA,phA,pa,Ph.kd,Ph.val,Kd.val,go_sem,hlt]
    ·simp [pzA,phA,pa,Ph.kd,Ph.val,Kd.val,go_sem,d0]
    ·obtain rfl:=List.length_eq_zero_iff.1 hl
     refine .call 80 #[.int .i64 d] _ (by simp [pzA,phA,pa,Ph.kd,Ph.val,Kd.val,go_sem]) (HI.out.mono ?_)
     rintro e u ⟨rfl,rfl⟩
     exact ⟨_,rfl,rfl,rfl⟩
    ·simp [pzA,phA,pa,Ph.kd,Ph.val,Kd.val,go_sem]
    ·have h0:vs[0]?.getD undef = .string ⟨I.toArray⟩:=by have:=hv0 hl0; rwa [List.getD_eq_getElem?_getD] at this
     simp [pzA,phA,pa,Ph.kd,Ph.val,Kd.val,go_sem,h0,show ¬ 9223372036854775807<I.length+A.length by omega,Zbb]
    ·simp [pzA,phA,pa,Ph.kd,Ph.val,Kd.val,go_sem,show ¬ 9223372036854775807<I.length+A.length+4 by omega,show ¬ 9223372036854775807<I.length+(A.length+4) by omega,Zyg]
    ·simp [pzA,phA,pa,Ph.kd,Ph.val,Kd.val,go_sem]
    ·simp [pzA,phA,pa,Ph.kd,Ph.val,Kd.val,go_sem,c5]
    ·simp [pzA,phA,pa,Ph.kd,Ph.val,Kd.val,go_sem]
    ·simp [pzA,phA,pa,Ph.kd,Ph.val,Kd.val,go_sem,hlt]
    ·simp [pzA,phA,pa,Ph.kd,Ph.val,Kd.val,go_sem,k0]
    ·obtain ⟨a1,rfl⟩:=List.length_eq_one_iff.1 hl
     refine .call 41 #[.int .i64 x] _ (by simp [pzA,phA,pa,Ph.kd,Ph.val,Kd.val,go_sem]) (HX.out.mono ?_)
     rintro e u ⟨rfl,rfl⟩
     exact ⟨_,rfl,hS.1,rfl,rfl⟩
    ·have h1:vs[1]?.getD undef = .string ⟨X.toArray⟩:=by have:=hv1 hl0; rwa [List.getD_eq_getElem?_getD] at this
     simp [pzA,phA,pa,Ph.kd,Ph.val,Kd.val,go_sem,h1,show ¬ 9223372036854775807<I.length+(A.length+4)+X.length by omega,show ¬ 9223372036854775807<I.length+(A.length+(4+X.length)) by omega,show ¬ 9223372036854775807<I.length+(A.length+(X.length+4)) by omega,Zbb]
    ·simp [pzA,phA,pa,Ph.kd,Ph.val,Kd.val,go_sem,show ¬ 9223372036854775807<I.length+(A.length+(4+X.length))+1 by omega,show ¬ 9223372036854775807<I.length+(A.length+(X.length+4))+1 by omega,Zyg]
    ·simp [pzA,phA,pa,Ph.kd,Ph.val,Kd.val,go_sem,show ¬ 9223372036854775807<acc.length+(I.length+(A.length+(X.length+1+4))) by omega,Zbb]
    ·simp [pzA,phA,pa,Ph.kd,Ph.val,Kd.val,go_sem]
   ·rintro vs u hl hS
    obtain ⟨rfl,_,_⟩:=hS.at
    simp only [phAll,phA,paAll,pa,Ph.kd,Ph.val,Kd.val,List.map_cons,List.map_nil,if_true,Act.put,List.setIfInBounds_toArray,List.set_cons_succ,List.set_cons_zero]
    have Hacc2:Hid ((acc++(I++A++[32,98,121,32]++X++[10]))++Zen (C.drop (k+1)) (ds.drop (k+1)) (ks.drop (k+1))=F):=by show _=_; rw [← Hacc.out]; simp
    obtain ⟨acc2,hacc2⟩:∃ q,q=acc++(I++A++[32,98,121,32]++X++[10]):=⟨_,rfl⟩
    rw [← hacc2] at Hacc2 ⊢
    clear hacc2
    go_wp2
    go_roundg (N - k)
    case measure=>omega
    case rel=>exact ⟨k+1,acc2,by go_num,by omega,by omega,rfl,Hacc2.out,HEr.out.trans ⟨rfl,rfl,rfl,Qe _,fun _ _=>rfl⟩⟩
  ·have hek:k=N:=by omega
   subst hek
   have Hacc:Hid (acc=F):=by
    show _=_
    rw [List.drop_eq_nil_of_le (by rw [HCN.out]; exact Qe _)] at hacc
    simpa [Zen] using hacc
   clear hacc
   go_wp2
   go_ret
   rw [← Hacc.out]
   exact ⟨HEw1.out.trans (HEr.out.mono HEw1.out.size),rfl⟩
theorem Zuh:Zwi:=by
 intro p q x w hp hq hx
 have HC:=Zac (Zpz p q x w hp hq hx)
 obtain ⟨Y,hY⟩:∃ Y,Y=Zqx p q x:=⟨_,rfl⟩
 rw [← hY]
 have HY:=Zac hY
 clear hp hq hx hY
 go_enter Tryz.func34,Tryz.ntmps34
 go_wp2_with fail
 refine HC.out.mono ?_
 rintro e w1 ⟨hE1,hout⟩
 have hz1:=hE1.size
 have HE1:=Zac hE1
 clear hE1 HC
 rcases hout with ⟨hne,rfl⟩ | ⟨a,ks,n,m,hH,n1,nc,g1,g2,g3,v1,v2,v3,r1,r2,r3,uu,k1,kc,d1,dc,rfl,hN,hnames,hks,hds⟩
 ·obtain ⟨er,her⟩:∃ r,r=(Zdi p q x).2.2.1:=⟨_,rfl⟩
  obtain ⟨pe,hpe⟩:∃ r,r=(Zdi p q x).2.2.2:=⟨_,rfl⟩
  rw [← her,← hpe]
  rw [← her] at hne
  have Hy:Hid (Y=([],er,pe)):=by show _=_; rw [HY.out,Zqx,if_neg (by rw [← her]; exact hne),← her,← hpe]
  have hb:((er:Int) != 0)=true:=by rw [bne_iff_ne]; omega
  clear her hpe hne
  unfold Zdh
  go_wp2_with fail
  go_quiet (fail)
  go_wp2
  go_ret3
  rw [Hy.out]
  exact ⟨rfl,HE1.out.trans (Kept.below (S:=fun i=>w.heap.size≤i) (by repeat' (first | with_reducible(first|exact Qx _ _|apply Kept.drew|apply Kept.drewN|apply Qz|refine Qy ?_ ?_ _)|(intro _; simp only; omega))) (by omega) (fun _ h=>h))⟩
 ·have hus:m.used=ks:=by
   obtain ⟨cs,_,hf⟩:=hH.fol
   have:=Zwl (cs:=cs) (ks:=ks) (n:=topN a) (i:=0) (by rw [hf])
   rw [hf] at this
   simpa [topN] using this
  have hu24:=Zzv hH.ask hH.held
  rw [hus] at hu24
  have hkl:ks.length=n.done.length:=by rw [hH.ok.dl,hH.same.used,hus]
  have hdl:(m.done.map (·.2)).length=n.done.length:=by rw [Ql,← hH.same.dl]
  have hd9:∀ d ∈ m.done.map (·.2),d≤100:=fun d hd=>by
   rw [← hH.same.dd] at hd
   obtain ⟨g,hg,rfl⟩:=List.mem_map.1 hd
   have:=(hH.ok.ds g hg).2
   have:=hH.ok.ul
   omega
  have hk9:∀ k ∈ ks,k≤99:=fun k hk=>by have:=hu24 k hk; omega
  have hfl:(n.done.map (·.1)).flatten.length≤30 * (n.done.map (·.1)).length:=Znw (fun t ht=>by
   obtain ⟨g,hg,rfl⟩:=List.mem_map.1 ht
   exact (hH.ok.ds g hg).1)
  have hdn:n.done.length≤100:=by rw [hH.ok.dl]; exact hH.ok.ul
  simp only [Ql] at hfl
  have hL:(Zen (Zaq (n.done.map (·.1)) []).1 (m.done.map (·.2)) ks).length≤100000000:=by
   have:=Ztb (n.done.map (·.1)) (m.done.map (·.2)) ks [] hd9 hk9 (fun t ht=>by
    have hin:t ∈ n.terms:=by unfold ND.terms; simp only [Qk]; exact Or.inr (Or.inr ht)
    obtain ⟨g,hg,rfl⟩:=List.mem_map.1 ht
    exact ⟨hH.ok.wf _ hin,by have:=(hH.ok.ds g hg).1; omega,fun s hs=>Qq (hH.nm _ hin s hs) (by omega)⟩) (by simp only [Jt]; omega)
   omega
  have hexp:Zev m=Zen (Zaq (n.done.map (·.1)) []).1 (m.done.map (·.2)) ks:=by unfold Zev; rw [hH.same.doneC hH.ok,hus]
  obtain ⟨T,hT⟩:∃ T,T=Zen (Zaq (n.done.map (·.1)) []).1 (m.done.map (·.2)) ks:=⟨_,rfl⟩
  have Hy:Hid (Y=(T,0,0)):=by show _=_; rw [HY.out,Zqx,hH.held,hT,← hexp]; simp
  have HAn:Hid (∀ y,Ext w1 y→Calls Tryz.prog 59 #[.agg #[.slice n1 a.2.length nc,.slice g1 g2 g3,.slice v1 v2 v3,.slice r1 r2 r3,.int .i64 uu,.slice k1 ks.length kc,.slice d1 (m.done.map (·.2)).length dc]] y fun e w'=>Ext y w'∧e = .returned (.string ⟨T.toArray⟩)):=fun y hE=>by
   rw [hT]
   exact Zmc y _ _ _ _ _ _ uu n (m.done.map (·.2)) ks ⟨_,_,_,rfl⟩ ⟨_,_,_,rfl⟩ ⟨_,_,_,rfl⟩ (hN.done.ext hE) (Zah hks (fun j hj=>hE.block j (hks.lt j hj).2)) (Zah hds (fun j hj=>hE.block j (hds.lt j hj).2)) hH.ok hH.nm hH.few hkl hdl hk9 hd9 hL
  obtain ⟨D,hD⟩:∃ D,D=(m.done.map (·.2)).length:=⟨_,rfl⟩
  rw [← hD] at HAn ⊢
  clear hus hu24 hkl hdl hd9 hk9 hfl hdn hL hexp hT hH hN hnames hks hds hD
  go_wp2_with fail
  refine (HAn.out _ ((Below.refl _ w1 |>.alloc (Qe _) _).alloc (by simp) _)).mono ?_
  rintro e w2 ⟨hE2,rfl⟩
  have HE2:=Zac hE2
  clear hE2
  go_wp2
  go_ret3
  rw [Hy.out]
  exact ⟨rfl,(HE1.out.trans (Kept.below (S:=fun i=>w.heap.size≤i) (by repeat' (first | with_reducible(first|exact Qx _ _|apply Kept.drew|apply Kept.drewN|apply Qz|refine Qy ?_ ?_ _)|(intro _; simp only; omega))) (by omega) (fun _ h=>h))).trans (HE2.out.mono (by simp; omega))⟩
theorem RowL.bump {w:World} {wb cap:Nat} {ds:List (ND × Nat)} {n:ND} {k:Nat} {xs:List Value} (h:RowL w (.slice (some ⟨wb,0,none⟩) (ds.length+1) cap) (ds++[(n,k)]) xs) (k':Nat) :
  RowL (w.setCell ⟨wb,ds.length * 5+4,none⟩ (.int .i64 k')) (.slice (some ⟨wb,0,none⟩) (ds.length+1) cap) (ds++[(n,k')]) (xs.set (ds.length * 5+4) (.int .i64 k')):=by
 have ho:=h.owns
 have hxl:=ho.1
 rw [Qg,Qn] at ho hxl
 have hS:=Zkb ho
 have hk:=Zif w wb (ds.length+1) cap (ds.length * 5+4) (.int .i64 k')
 refine ⟨by rw [Qg,Qn]; exact Zki ho _ _,fun i d hd => ?_⟩
 rcases Nat.lt_or_ge i ds.length with hi | hi
 ·rw [Qc hi] at hd
  obtain ⟨p0,p1,p2,p3,y0,y1,y2,y3,y4,g⟩:=h.all i d (by rw [Qc hi]; exact hd)
  exact ⟨p0,p1,p2,p3,by rw [List.getElem?_set_ne (by omega)]; exact y0,by rw [List.getElem?_set_ne (by omega)]; exact y1,by rw [List.getElem?_set_ne (by omega)]; exact y2,by rw [List.getElem?_set_ne (by omega)]; exact y3,by rw [List.getElem?_set_ne (by omega)]; exact y4,g.keep hk hS⟩
 ·have e:i=ds.length:=by
   have:=(Qa.1 hd).1
   simp at this; omega
  subst e
  rw [Qd (Qe _)] at hd
  simp at hd
  subst hd
  obtain ⟨p0,p1,p2,p3,y0,y1,y2,y3,y4,g⟩:=h.all ds.length (n,k) (by rw [Qd (Qe _)]; simp)
  exact ⟨p0,p1,p2,p3,by rw [List.getElem?_set_ne (by omega)]; exact y0,by rw [List.getElem?_set_ne (by omega)]; exact y1,by rw [List.getElem?_set_ne (by omega)]; exact y2,by rw [List.getElem?_set_ne (by omega)]; exact y3,by rw [List.getElem?_set_self (by omega)],g.keep hk hS⟩
theorem CSr.bump {w:World} {b wb:Nat} {x:CX} {cs:List Cls} {a:List (List Sym) × Names} {m:SN} {n:ND} {k:Nat} {r:List (ND × Nat)} (h:CSr w b x cs a m) (hw:m.way=(n,k)::r) (hx:x.wa=some ⟨wb,0,none⟩) :
  Kept (ownS b x) w ((w.setCell ⟨wb,r.length * 5+4,none⟩ (.int .i64 ((k+1:Nat):Int))).setCell ⟨b,3,none⟩ (.int .i64 ((m.tries+1:Nat):Int)))∧CSr ((w.setCell ⟨wb,r.length * 5+4,none⟩ (.int .i64 ((k+1:Nat):Int))).setCell ⟨b,3,none⟩ (.int .i64 ((m.tries+1:Nat):Int))) b x cs a { m with way:=(n,k+1)::r,tries:=m.tries+1 }:=by
 obtain ⟨ys,hrow⟩:=h.way
 obtain ⟨xs,hP⟩:=h.prog
 rw [hw,hx,Qf,List.reverse_cons] at hrow
 have hbx:=h.box
 have hne:wb≠b:=fun e=>by
  subst e
  rcases hrow.owns.2 with ⟨e,_⟩ | ⟨g,cap,cur,e,_,hg,_⟩
  ·simp at e
  ·simp at e
   obtain ⟨rfl,_⟩:=e
   rw [hbx] at hg
   simp at hg
 have hK1:Kept (Zbo (.slice (some ⟨wb,0,none⟩) (r.length+1) x.wc)) w (w.setCell ⟨wb,r.length * 5+4,none⟩ (.int .i64 ((k+1:Nat):Int))):=Zif w wb (r.length+1) x.wc _ _
 have hb1:(w.setCell ⟨wb,r.length * 5+4,none⟩ (.int .i64 ((k+1:Nat):Int))).heap[b]?=_:=(hK1.block b (Zab hbx) (fun e=>hne (by simpa [Zbo,Value.ownBlock] using e))).trans hbx
 have hK2:Kept (only b) (w.setCell ⟨wb,r.length * 5+4,none⟩ (.int .i64 ((k+1:Nat):Int))) _:=(Qx (only b) _).put 3 (.int .i64 ((m.tries+1:Nat):Int))
 have hK:Kept (ownS b x) w ((w.setCell ⟨wb,r.length * 5+4,none⟩ (.int .i64 ((k+1:Nat):Int))).setCell ⟨b,3,none⟩ (.int .i64 ((m.tries+1:Nat):Int))):=(hK1.mono (fun i _ e=>Or.inr (by rw [hx]; exact Zlm.1 e))).trans (hK2.mono (fun i _ e=>Or.inl e))
 have hS:=h.offS
 have hR1:=RowL.bump (ds:=r.reverse) (n:=n) (k:=k) (xs:=ys) (by rw [List.length_reverse]; exact hrow) (k+1)
 rw [List.length_reverse] at hR1
 have hoff1:OffCode (only b) (w.setCell ⟨wb,r.length * 5+4,none⟩ (.int .i64 ((k+1:Nat):Int))):=fun j e=>by
  have e:j=b:=e
  subst e
  exact ⟨_,_,_,hb1,by simp [Zcm]⟩
 have hR2:=hR1.keep hK2 hoff1 (fun j hj e=>by
  have e:j=b:=e
  subst e
  exact hne (by simpa [Value.ownBlock] using hj))
 refine ⟨hK,(by have:=Zaf hb1 3 (.int .i64 ((m.tries+1:Nat):Int)); rw [hw] at this; exact this),⟨xs,hS.prog hK hP⟩,hS.own (by simp [Zcm]) hK h.names,⟨_,by rw [hx]; simp only [List.reverse_cons,Qf]; exact hR2⟩,fun hs => ?_⟩
 obtain ⟨⟨n',g1,g2⟩,g3⟩:=h.found hs
 exact ⟨⟨n',hS.terms hK g1,g2⟩,hS.own (by simp [Zcm]) hK g3⟩
def TreePh (W:World) (b:Nat) (T X:List UInt8):List Value→World→Prop
 | [],y=>y=W
 | [v],y=>y=W∧v = .string ⟨X.toArray⟩
 | [v,_],y=>v = .string ⟨X.toArray⟩∧y=W.setCell ⟨b,7,none⟩ (.string ⟨(T++X).toArray⟩)
 | _,_=>False
theorem TreePh.at {W:World} {b:Nat} {T X:List UInt8} {vs:List Value} {y:World} (h:TreePh W b T X vs y):(vs.length≤1→y=W)∧(1≤vs.length→vs.getD 0 undef = .string ⟨X.toArray⟩):=by
 match vs,h with
 | [],h=>exact ⟨fun _=>h,fun h=>by simp at h⟩
 | [v],h=>exact ⟨fun _=>h.1,fun _=>by simpa using h.2⟩
 | [v,v'],h=>exact ⟨fun h=>by simp at h,fun _=>by simpa using h.1⟩
theorem Zwm (w:World) (b:Nat) (x:CX) (cs:List Cls) (a:List (List Sym) × Names) (m:SN) (h:CSr w b x cs a m) (hI:InvN cs a m) (h0:m.status=0) (hw:m.way≠[]) (ht:m.tries<3000) (hcs:∀ c ∈ cs,COk c∧CNm c) (hcf:∀ c ∈ cs,CFew c) (hcl:cs.length≤24) :
  Calls Tryz.prog 76 #[.pointer (some ⟨b,0,none⟩)] w fun e w'=>e = .returned (.tuple #[])∧∃ x',Kept (ownS b x) w w'∧CSr w' b x' cs a (Zam cs m)∧Zhj w x x':=by
 obtain ⟨n,k,r,c,hw1,hc,hg⟩:=hI.head hw
 have hkl:=(Qa.1 hc).1
 have hlen:=hI.len
 rw [hw1,Qf] at hlen
 have hrl:r.length+1≤100000:=by omega
 obtain ⟨xs,hP⟩:=h.prog
 obtain ⟨ys,hrow⟩:=h.way
 have hbx:=h.box
 obtain ⟨ca,cc,na,nc,wa,wc,va,vl,vc,fa,fl,fc⟩:=x
 simp only [CX.cells] at hbx hP hrow
 rw [hw1,Qf,List.reverse_cons] at hrow
 rw [hw1,Qf,h0] at hbx
 have ho:=hrow.owns
 rw [Qg,List.length_reverse,Qn] at ho
 obtain ⟨wb,wcap,wcur,hwe,_,hwb,hwcap⟩:=Zap ho (by omega)
 simp only [Value.slice.injEq] at hwe
 obtain ⟨rfl,_,rfl⟩:=hwe
 obtain ⟨x0,x1,x2,x3,y0,y1,y2,y3,y4,hnode⟩:=hrow.all r.length (n,k) (by rw [Qd (by simp)]; simp)
 obtain ⟨lb,lcap,lcur,hle,_,hlb,_⟩:=Zap hP.owns (by omega)
 simp only [Value.slice.injEq] at hle
 obtain ⟨rfl,_,rfl⟩:=hle
 obtain ⟨b0,b1,b2,b3,b4,b5,b6,b7,bf⟩:=box8 hbx
 have c4:=Zai ho _ _ y4
 simp only at c4
 have hwf:=fun i=>Zad hwb i
 have hbl:=Zab hbx
 have hwbl:=Zab hwb
 have hne:wb≠b:=fun e=>by
  subst e
  rw [hbx] at hwb
  simp at hwb
 have hne':b≠wb:=fun e=>hne e.symm
 have hki:¬ ((cs.length:Int)≤(k:Int)):=by omega
 have hgd:decide ((r.length:Int)<0)=false:=by rw [decide_eq_false_iff_not]; omega
 obtain ⟨tr,htr⟩:∃ x,x=m.tries:=⟨_,rfl⟩
 rw [← htr] at hbx b3
 have htr3:tr≤3000:=by omega
 have HI:=Zac hI
 have H:=Zac h
 have Hcs:=Zac hcs
 have Hcf:=Zac hcf
 have Hw1:=Zac hw1
 have Hc:=Zac hc
 have Hg:=Zac hg
 have H0:=Zac h0
 have Htr:=Zac htr
 have Ht:=Zac ht
 clear h hI hcs hcf hw1 hc hg h0 hw hP hrow ho hwb hlb hbx y0 y1 y2 y3 y4 hnode htr ht hlen
 go_enter Tryz.func76,Tryz.ntmps76
 go_wp2_with fail
 go_quiet (fail)
 go_wp2_with fail
 obtain ⟨W4,hW4⟩:∃ W4,W4=((w.drewN nq).setCell ⟨wb,r.length * 5+4,none⟩ (.int .i64 ((k:Int)+1))).setCell ⟨b,3,none⟩ (.int .i64 ((tr:Int)+1)):=⟨_,rfl⟩
 rw [← hW4]
 have hE0:Ext w (w.drewN nq):=Ext.of ((Qx _ w).drewN _)
 obtain ⟨hK4,hC4⟩:=(H.out.ext hE0).bump Hw1.out rfl
 rw [show ((k+1:Nat):Int)=(k:Int)+1 by omega,← Htr.out,show ((tr+1:Nat):Int)=(tr:Int)+1 by omega,← hW4] at hK4 hC4
 have hKw:Kept (ownS b ⟨some ⟨lb,0,none⟩,cc,na,nc,some ⟨wb,0,none⟩,wc,va,vl,vc,fa,fl,fc⟩) w W4:=((Qx _ w).drewN nq).trans hK4
 obtain ⟨M4,hM4⟩:∃ M4:SN,M4 = { m with way:=(n,k+1)::r,tries:=tr+1 }:=⟨_,rfl⟩
 rw [← hM4] at hC4
 have hbx4:=hC4.box
 rw [hM4] at hbx4
 simp only [CX.cells,Qf] at hbx4
 rw [H0.out] at hbx4
 clear b0 b1 b2 b3 b4 b5 b6 b7 bf c4 hwf
 obtain ⟨b0,b1,b2,b3,b4,b5,b6,b7,bf⟩:=box8 hbx4
 obtain ⟨ys4,hrow4⟩:=hC4.way
 rw [hM4] at hrow4
 simp only [Qf,List.reverse_cons] at hrow4
 have ho4:=hrow4.owns
 rw [Qg,List.length_reverse,Qn] at ho4
 obtain ⟨x0,x1,x2,x3,y0,y1,y2,y3,y4,hnode⟩:=hrow4.all r.length (n,k+1) (by rw [Qd (by simp)]; simp)
 obtain ⟨n1,hN1,rfl,hOk,hNm,hFw,hSm⟩:=hnode
 obtain ⟨ga,gcap,rfl⟩:=hN1.goals.shape
 obtain ⟨va',vcap',rfl⟩:=hN1.vals.shape
 obtain ⟨ra',rcap',rfl⟩:=hN1.done.shape
 simp only [Ql] at hN1 y0 y1 y2
 have c0:=Zai ho4 _ _ y0
 have c1:=Zai ho4 _ _ y1
 have c2:=Zai ho4 _ _ y2
 have c3:=Zai ho4 _ _ y3
 obtain ⟨xs4,hP4⟩:=hC4.prog
 obtain ⟨cv0,cv1,cv2,l0,l1,l2,hcl2⟩:=hP4.cell Hc.out
 obtain ⟨d0,d1,rfl⟩:=Zae hcl2.head
 obtain ⟨d2,d3,rfl⟩:=hcl2.body.shape
 obtain ⟨d4,d5,rfl⟩:=Zae hcl2.names
 have hbl4:=Zab hbx4
 have hwbl4:wb<W4.heap.size:=Nat.lt_of_lt_of_le hwbl hKw.size
 have hlbl:lb<W4.heap.size:=World.block_lt_of_cell? W4 ⟨lb,k * 3,none⟩ l0
 obtain ⟨hco,hcm⟩:=Hcs.out c (Qh Hc.out)
 have HIc:Hid (∀ Z u,Ext W4.drew u→(∀ k,Z k→W4.heap.size≤k∧k<u.heap.size)→Calls Tryz.prog 97 #[.agg #[.slice ga n1.goals.length gcap,.slice va' n1.vals.length vcap',.slice ra' n1.done.length rcap',.int .i64 n1.vars],.agg #[.slice d0 c.head.length d1,.slice d2 c.body.length d3,.slice d4 c.names.length d5]] u fun e u'=>∃ r,e = .returned r∧Ext u u'∧TryX n1 c k Z r u'):=fun Z u hu hZ=>by
  have hwu:Ext W4 u:=hu.undrew
  refine (Zrn u _ _ _ _ _ _ n1 c k hOk hco (hN1.ext hwu) (hcl2.ext hwu)).mono ?_
  intro e u' h
  exact h.toX (fun j hj=>(hZ j hj).2)
 have Hco:=Zac hco
 have HOk:=Zac hOk
 have HNm:=Zac hNm
 have HFw:=Zac hFw
 have HSm:=Zac hSm
 have Hcm:=Zac hcm
 have HCf:Hid (CFew c):=Hcf.out c (Qh Hc.out)
 have HC4:=Zac hC4
 have HK4:=Zac hKw
 have HM4:=Zac hM4
 have hrlt:r.length<r.length+1:=by omega
 clear hW4 hE0 hK4 hC4 hKw hM4 hbx4 hrow4 ho4 y0 y1 y2 y3 y4 hN1 hP4 hcl2 hco hOk hNm hFw hSm hcm
 refine Zjk (by kernel_rfl) [.pur (.pointer (some ⟨b,0,none⟩)),.pur (.pointer (some ⟨b,0,none⟩)),.pur (.pointer (some ⟨b,2,none⟩)),.pur (.slice (some ⟨wb,0,none⟩) (r.length+1) wc),.pur (.int .i64 r.length),.pur (.pointer (some ⟨wb,r.length * 5,none⟩)),.pur (.pointer (some ⟨wb,r.length * 5,none⟩)),.pur (.agg #[.slice ga n1.goals.length gcap,.slice va' n1.vals.length vcap',.slice ra' n1.done.length rcap',.int .i64 n1.vars]),
  .pur (.pointer (some ⟨b,0,none⟩)),.pur (.pointer (some ⟨b,0,none⟩)),.pur (.pointer (some ⟨b,0,none⟩)),.pur (.slice (some ⟨lb,0,none⟩) cs.length cc),.pur (.int .i64 k),.pur (.pointer (some ⟨lb,k * 3,none⟩)),.pur (.agg #[.slice d0 c.head.length d1,.slice d2 c.body.length d3,.slice d4 c.names.length d5]),
  .cal,.post (fun v=>v),.post (Zgx 0),.post (Zgx 1),.alo 87 #[.slice none 0 0,.slice none 0 0,.slice none 0 0,.int .i64 0] 20 (fun v=>cellsOf (Zgx 0 v)),.sto 19,.post (Zgx 1)] 15 (by kernel_rfl) (TryX n1 c k) 97 _ TryX.stable HIc.out ?_ rfl (by decide) ?_
 ·refine ⟨fun vc β u hu => ?_,fun vc β u hu => ?_,fun vc β u hu => ?_,fun vc β u hu => ?_,fun vc β u hu => ?_,fun vc β u hu => ?_,fun vc β u hu => ?_,fun vc β u hu => ?_,fun vc β u hu => ?_,fun vc β u hu => ?_,fun vc β u hu => ?_,fun vc β u hu => ?_,fun vc β u hu => ?_,fun vc β u hu => ?_,fun vc β u hu => ?_,fun vc β u => ?_,?_,?_,?_,fun vc β u => ?_,?_,?_,trivial⟩
  all_goals try (simp [pa,Kd.val,go_sem,hu.up b0,hu.up b2,hu.up c0,hu.up c1,hu.up c2,hu.up c3,hu.up l0,hu.up l1,hu.up l2,hkl]; done)
  all_goals try (simp [pa,Kd.val,go_sem]; done)
  all_goals try (rintro vc β Z u ⟨g1,g2,g3,v1,v2,v3,q1,q2,q3,uu,qq,rfl,_⟩; simp [pa,Kd.val,go_sem,Zgx]; done)
  all_goals try (simp [pa,Kd.val,go_sem]; intro h; omega)
  rintro vc β Z u t z sx cl he ⟨g1,g2,g3,v1,v2,v3,q1,q2,q3,uu,qq,rfl,_⟩ hb
  simp at he
  obtain ⟨rfl,rfl,rfl,rfl⟩:=he
  have z0:=Zaa hb 0 _ rfl
  have z1:=Zaa hb 1 _ rfl
  have z2:=Zaa hb 2 _ rfl
  have z3:=Zaa hb 3 _ rfl
  have zf:=fun i=>Zad hb i
  refine ⟨_,?_,Zaf (Zaf (Zaf (Zaf hb 0 _) 1 _) 2 _) 3 _,((((Qx (only (β 19)) u).put 0 _).put 1 _).put 2 _).put 3 _⟩
  simp [pa,Kd.val,go_sem,z0,z1,z2,z3,zf,Zgx]
 rintro vc β w5 hext5 ⟨g1,g2,g3,v1,v2,v3,q1,q2,q3,uu,qq,rfl,hqq⟩ hbox _
 have hext5:=hext5.undrew
 have hs5:=hext5.size
 obtain ⟨hb0,hbx⟩:=hbox 19 _ _ _ _ rfl
 have hbx':w5.heap[β 19]?=some (.cells #[.slice g1 g2 g3,.slice v1 v2 v3,.slice q1 q2 q3,.int .i64 uu] 87 (0,0)):=hbx
 generalize hbe:β 19=bt at *
 have z0:=Zaa hbx' 0 _ rfl
 have z1:=Zaa hbx' 1 _ rfl
 have z2:=Zaa hbx' 2 _ rfl
 have z3:=Zaa hbx' 3 _ rfl
 have hC5:=HC4.out.ext hext5
 have HK5:=Zac (HK4.out.then (Kept.of_below hext5) (S':=fun j=>W4.heap.size≤j) (fun i hi hh=>by have:=HK4.out.size; omega))
 have hbx5:=hC5.box
 rw [HM4.out] at hbx5
 simp only [CX.cells,Qf] at hbx5
 rw [H0.out] at hbx5
 clear b0 b1 b2 b3 b4 b5 b6 b7 bf c0 c1 c2 c3 l0 l1 l2
 obtain ⟨b0,b1,b2,b3,b4,b5,b6,b7,bf⟩:=box8 hbx5
 have hbl5:=Zab hbx5
 have hbtl:=Zab hbx'
 have Hbx5:=Zac hbx5
 have HC5:=Zac hC5
 have hway4:M4.way=(n,k+1)::r:=by rw [HM4.out]
 have hlen4:M4.tree.length+M4.way.length≤100000:=by
  have h1:=HI.out.len
  have h2:=Ht.out
  rw [Hw1.out] at h1
  rw [HM4.out]
  simp only [Qf] at h1 ⊢
  omega
 have hnx4:∀ y ∈ M4.way,1≤y.2∧y.2≤4000:=fun y hy=>by
  rw [hway4] at hy
  rcases Qp.1 hy with rfl | hy
  ·exact ⟨Nat.succ_le_succ (Qm _),by show k+1≤_; omega⟩
  ·have h1:=(HI.out.way y (by rw [Hw1.out]; simp [hy])).2.2.1
   have h2:=HI.out.used
   rw [Hw1.out] at h2
   exact ⟨h2.2.1 y hy,by omega⟩
 have HL:Hid (∀ u (xx:CX) (mm:SN),CSr u b xx cs a mm→mm.way.length≤200000→(∀ y ∈ mm.way,y.2≤4000)→mm.tree.length+mm.way.length≤200000→Calls Tryz.prog 53 #[.pointer (some ⟨b,0,none⟩)] u fun e w'=>e = .returned (.tuple #[])∧Kept (only b) u w'∧CSr w' b xx cs a (Zcv cs mm)):=fun u xx mm h1 h2 h3 h4=>Zuf u b xx cs a mm h1 h2 h3 hcl h4
 have Hlen4:=Zac hlen4
 have Hnx4:=Zac hnx4
 have Hway4:=Zac hway4
 clear hlen4 hnx4 hway4 hbx hbx' hbx5 hC5 hbox hext5
 simp only [paAll,pa,Kd.val,if_true,Act.put,Zgx]
 rw [hbe]
 rcases hqq with ⟨rfl,hq⟩ | ⟨rfl,ch,hq⟩ | ⟨rfl,ch,q0,hq12,hq,rfl,rfl,hg',hv',hr'⟩
 ·have hq0:(tryN n c k).2=0:=by
   rcases hq with h | h
   ·exact absurd (List.eq_nil_of_length_eq_zero (by rw [← HSm.out.gl,h]; rfl)) Hg.out
   ·exact (Zgb HOk.out HSm.out Hco.out h).1.symm
  have hmk:Zam cs m=Zcv cs M4:=by
   unfold Zam
   rw [Hw1.out]
   simp only [Hc.out]
   rw [if_neg (by omega),if_neg (by omega),HM4.out,Htr.out]
  have HL5:=Zac (HL.out w5 _ M4 HC5.out (by have:=Hlen4.out; omega) (fun y hy=>(Hnx4.out y hy).2) (by have:=Hlen4.out; omega))
  have Hmk:=Zac hmk
  clear hq hq0 hmk HL
  go_wp2_with fail
  refine HL5.out.mono ?_
  rintro e w6 ⟨rfl,hK6,hC6⟩
  have H6:Hid (∃ x',Kept (ownS b ⟨some ⟨lb,0,none⟩,cc,na,nc,some ⟨wb,0,none⟩,wc,va,vl,vc,fa,fl,fc⟩) w w6∧CSr w6 b x' cs a (Zam cs m)∧Zhj w ⟨some ⟨lb,0,none⟩,cc,na,nc,some ⟨wb,0,none⟩,wc,va,vl,vc,fa,fl,fc⟩ x'):=⟨_,HK5.out.trans (hK6.mono (fun i _ e=>Or.inl e)),by rw [Hmk.out]; exact hC6,⟨fun j hj=>Or.inl hj,rfl,rfl,rfl,rfl⟩⟩
  clear hK6 hC6
  go_wp2
  go_end0
  exact ⟨rfl,H6.out⟩
 ·have hq3:(tryN n c k).2=3:=(Zgb HOk.out HSm.out Hco.out hq).1.symm
  obtain ⟨M5,hM5⟩:∃ M5:SN,M5 = { M4 with status:=3 }:=⟨_,rfl⟩
  have hmk:Zam cs m=Zcv cs M5:=by
   unfold Zam
   rw [Hw1.out]
   simp only [Hc.out]
   rw [if_pos hq3,hM5,HM4.out,Htr.out]
  have hKs:Kept (only b) w5 (w5.setCell ⟨b,4,none⟩ (.int .i64 3)):=(Qx _ _).put 4 _
  have hC5':CSr (w5.setCell ⟨b,4,none⟩ (.int .i64 3)) b ⟨some ⟨lb,0,none⟩,cc,na,nc,some ⟨wb,0,none⟩,wc,va,vl,vc,fa,fl,fc⟩ cs a M5:=by
   refine HC5.out.upd hKs ?_ ⟨rfl,rfl,rfl,rfl⟩ (by rw [hM5]; exact HC5.out.way) (fun h=>by rw [hM5] at h; simp at h)
   have:=Zaf HC5.out.box 4 (.int .i64 3)
   rw [hM5]
   exact this
  have hw5:M5.way=M4.way∧M5.tree=M4.tree:=by rw [hM5]; exact ⟨rfl,rfl⟩
  have HL5:=Zac (HL.out _ _ M5 hC5' (by rw [hw5.1]; have:=Hlen4.out; omega) (fun y hy=>(Hnx4.out y (by rw [← hw5.1]; exact hy)).2) (by rw [hw5.1,hw5.2]; have:=Hlen4.out; omega))
  have Hmk:=Zac hmk
  have HK5':=Zac (HK5.out.trans (hKs.mono (fun i _ e=>Or.inl e)))
  clear hq hq3 hmk HL hC5' hKs hw5 hM5
  go_wp2_with fail
  refine HL5.out.mono ?_
  rintro e w6 ⟨rfl,hK6,hC6⟩
  have H6:Hid (∃ x',Kept (ownS b ⟨some ⟨lb,0,none⟩,cc,na,nc,some ⟨wb,0,none⟩,wc,va,vl,vc,fa,fl,fc⟩) w w6∧CSr w6 b x' cs a (Zam cs m)∧Zhj w ⟨some ⟨lb,0,none⟩,cc,na,nc,some ⟨wb,0,none⟩,wc,va,vl,vc,fa,fl,fc⟩ x'):=⟨_,HK5'.out.trans (hK6.mono (fun i _ e=>Or.inl e)),by rw [Hmk.out]; exact hC6,⟨fun j hj=>Or.inl hj,rfl,rfl,rfl,rfl⟩⟩
  clear hK6 hC6
  go_wp2
  go_end0
  exact ⟨rfl,H6.out⟩
 ·obtain ⟨e1,e2⟩:=Zgb HOk.out HSm.out Hco.out hq
  obtain ⟨hOk2,hSm2⟩:=e2 hq12
  have hk12:(tryN n c k).2=1∨(tryN n c k).2=2:=by rw [← e1]; exact hq12
  have hNm2:=Ych hq hq12 HNm.out Hcm.out
  have hFw2:=Zwb hq hq12 HFw.out HCf.out
  obtain ⟨vs1,hg1,_⟩:=hg'
  obtain ⟨vs2,hv1,_⟩:=hv'
  obtain ⟨vs3,hr1,_⟩:=hr'
  have hN5:NodeIn w5 (.slice g1 ch.goals.length g3) (.slice v1 v2 v3) (.slice q1 q2 q3) ch:=⟨⟨vs1,hg1⟩,⟨vs2,hv1⟩,⟨vs3,hr1⟩⟩
  have hCN:CNode w5 (.slice g1 ch.goals.length g3) (.slice v1 v2 v3) (.slice q1 q2 q3) (.int .i64 ch.vars) (tryN n c k).1:=⟨ch,hN5,rfl,hOk2,hNm2,hFw2,hSm2⟩
  obtain ⟨X,hX⟩:∃ X,X=Lib.decDigits k:=⟨_,rfl⟩
  have hXl:X.length≤24:=by rw [hX]; have:=Zjj k; omega
  obtain ⟨T,hT⟩:∃ T,T=m.tree:=⟨_,rfl⟩
  have hTl:T.length≤100000:=by
   have:=Hlen4.out
   rw [HM4.out] at this
   simp only at this
   rw [hT]; omega
  obtain ⟨M5,hM5⟩:∃ M5:SN,M5 = { M4 with tree:=T++X }:=⟨_,rfl⟩
  have hMt:M4.tree=T:=by rw [HM4.out,hT]
  have hmk:Zam cs m=Zcv cs (Zbx M5 (tryN n c k).1):=by
   unfold Zam
   rw [Hw1.out]
   simp only [Hc.out]
   rw [if_neg (by omega),if_pos hk12,hM5,HM4.out,Htr.out,hT,hX]
  obtain ⟨w6,hw6⟩:∃ w6,w6=w5.drew.setCell ⟨b,7,none⟩ (.string ⟨(T++X).toArray⟩):=⟨_,rfl⟩
  have hK56:Kept (only b) w5 w6:=by rw [hw6]; exact ((Qx _ _).drew).put 7 _
  have hC6:CSr w6 b ⟨some ⟨lb,0,none⟩,cc,na,nc,some ⟨wb,0,none⟩,wc,va,vl,vc,fa,fl,fc⟩ cs a M5:=by
   refine HC5.out.upd hK56 ?_ ⟨rfl,rfl,rfl,rfl⟩ (by rw [hM5]; exact HC5.out.way) (fun h=>by rw [hM5] at h ⊢; exact HC5.out.found h)
   have:=Zaf (w:=w5.drew) HC5.out.box 7 (.string ⟨(T++X).toArray⟩)
   rw [hw6,hM5]
   exact this
  have hCN6:=hCN.keep hK56 HC5.out.off
  have hw5:M5.way=M4.way∧M5.tree=T++X:=by rw [hM5]; exact ⟨rfl,rfl⟩
  have hlen5:M5.tree.length+M5.way.length≤150000:=by
   have:=Hlen4.out
   rw [hw5.1,hw5.2,Qg]
   rw [hMt] at this
   omega
  have hused:(tryN n c k).1.used=Zgn M5.way:=by
   have h2:=HI.out.used
   rw [Hw1.out] at h2
   rw [Zew hk12,hw5.1,Hway4.out,Zld,h2.1]
  have hnx5:∀ y ∈ M5.way,1≤y.2∧y.2≤4000:=fun y hy=>Hnx4.out y (by rw [← hw5.1]; exact hy)
  have HEn:Hid (Calls Tryz.prog 52 #[.pointer (some ⟨b,0,none⟩),.agg #[.slice g1 ch.goals.length g3,.slice v1 v2 v3,.slice q1 q2 q3,.int .i64 ch.vars]] w6 fun e w'=>e = .returned (.tuple #[])∧∃ x',Kept (ownS b ⟨some ⟨lb,0,none⟩,cc,na,nc,some ⟨wb,0,none⟩,wc,va,vl,vc,fa,fl,fc⟩) w6 w'∧CSr w' b x' cs a (Zbx M5 (tryN n c k).1)∧Zhj w6 ⟨some ⟨lb,0,none⟩,cc,na,nc,some ⟨wb,0,none⟩,wc,va,vl,vc,fa,fl,fc⟩ x'):=by
   by_cases hgl:(tryN n c k).1.goals=[]
   ·exact Ybf w6 b _ cs a M5 _ _ _ _ _ hC6 hCN6 (by omega) hgl hused hnx5 (by rw [hw5.2,Qg]; omega)
   ·exact Zqa w6 b _ cs a M5 _ _ _ _ _ hC6 hCN6 (by omega) hgl (by rw [hw5.2,Qg]; omega)
  have Hbd:Hid ((Zbx M5 (tryN n c k).1).way.length≤200000∧(∀ y ∈ (Zbx M5 (tryN n c k).1).way,y.2≤4000)∧(Zbx M5 (tryN n c k).1).tree.length+(Zbx M5 (tryN n c k).1).way.length≤200000):=by
   show _∧_∧_
   unfold Zbx
   split
   ·simp only [Qg,Qn]
    exact ⟨by omega,fun y hy=>(hnx5 y hy).2,by omega⟩
   ·simp only [Qg,Jt,Qf]
    refine ⟨by omega,fun y hy => ?_,by omega⟩
    rcases Qp.1 hy with rfl | hy
    ·exact Qm _
    ·exact (hnx5 y hy).2
  have HXt:=Zac (Zkk k w5.drew (by omega))
  rw [← hX] at HXt
  have Hmk:=Zac hmk
  have HK56:=Zac hK56
  have hs6:=hK56.size
  have Hw6:=Zac hw6
  have z6:∀ i v,w5.cell? ⟨bt,i,none⟩=some v→w6.cell? ⟨bt,i,none⟩=some v:=fun i v hv=>hK56.cell hv (fun e=>by
   have e:bt=b:=e
   have:W4.heap.size≤bt:=hb0
   omega)
  have z0:=z6 0 _ z0
  have z1:=z6 1 _ z1
  have z2:=z6 2 _ z2
  have z3:=z6 3 _ z3
  have b7':w5.drew.cell? ⟨b,7,none⟩=some (.string ⟨T.toArray⟩):=by rw [hT]; exact b7
  have bf':∀ i,w5.drew.frozen? ⟨b,i,none⟩=false:=bf
  have hbt6:bt<w6.heap.size:=by omega
  clear hq e1 e2 hOk2 hSm2 hk12 hNm2 hFw2 hg1 hv1 hr1 hN5 hCN hX hT hM5 hMt hmk hC6 hCN6 hw5 hlen5 hused hnx5 hK56 hw6 z6 b0 b1 b2 b3 b4 b5 b6 b7 bf
  go_wp2_with fail
  refine Zgk (by kernel_rfl) [.rd 0 2 (fun _ => .pointer (some ⟨b,0,none⟩)),.rd 0 2 (fun _ => .pointer (some ⟨b,0,none⟩)),.rd 0 2 (fun _ => .pointer (some ⟨b,7,none⟩)),.rd 0 1 (fun _ => .string ⟨T.toArray⟩),.rd 0 2 (fun _ => .int .i64 k),.st 0,.rd 1 2 (fun _ => .string ⟨(T++X).toArray⟩),.rd 0 2 (fun _ => .pointer (some ⟨b,0,none⟩)),.rd 0 2 (fun _ => .pointer (some ⟨b,7,none⟩)),.st 1] 2 7 (by kernel_rfl) (TreePh w5.drew b T X) rfl ?_ ?_
  ·refine ⟨⟨trivial,fun vs y _ hl hS => ?_⟩,⟨trivial,fun vs y _ hl hS => ?_⟩,⟨trivial,fun vs y _ hl hS => ?_⟩,⟨trivial,fun vs y _ hl hS => ?_⟩,⟨trivial,fun vs y _ hl hS => ?_⟩,⟨trivial,fun vs y hl hS => ?_⟩,⟨trivial,fun vs y hl0 hl hS => ?_⟩,⟨trivial,fun vs y _ hl hS => ?_⟩,⟨trivial,fun vs y _ hl hS => ?_⟩,⟨trivial,fun vs y hl hS => ?_⟩,trivial⟩
   ·simp [phAll,phA,pa,Ph.kd,Ph.val,Kd.val,go_sem]
   ·simp [phAll,phA,pa,Ph.kd,Ph.val,Kd.val,go_sem]
   ·simp [phAll,phA,pa,Ph.kd,Ph.val,Kd.val,go_sem]
   ·obtain rfl:=hS.at.1 hl
    simp [phAll,phA,pa,Ph.kd,Ph.val,Kd.val,go_sem,b7']
   ·simp [phAll,phA,pa,Ph.kd,Ph.val,Kd.val,go_sem]
   ·obtain rfl:=List.length_eq_zero_iff.1 hl
    obtain rfl:y=w5.drew:=hS
    refine .call 41 #[.int .i64 k] _ (by simp [phAll,phA,pa,Ph.kd,Ph.val,Kd.val,go_sem]) (HXt.out.mono ?_)
    rintro e u ⟨rfl,rfl⟩
    exact ⟨_,rfl,rfl,rfl⟩
   ·have h0:=hS.at.2 hl0
    rw [List.getD_eq_getElem?_getD] at h0
    simp [phAll,phA,pa,Ph.kd,Ph.val,Kd.val,go_sem,h0,Zbb,show ¬ 9223372036854775807<T.length+X.length by omega]
   ·simp [phAll,phA,pa,Ph.kd,Ph.val,Kd.val,go_sem]
   ·simp [phAll,phA,pa,Ph.kd,Ph.val,Kd.val,go_sem]
   ·obtain ⟨v,rfl⟩:=List.length_eq_one_iff.1 hl
    obtain ⟨rfl,hv⟩:=hS
    exact .skip _ (by simp [phAll,phA,pa,Ph.kd,Ph.val,Kd.val,go_sem,b7',bf']) ⟨hv,rfl⟩
  rintro vs y hl hS
  obtain ⟨v,v',rfl⟩:∃ v v',vs=[v,v']:=by
   match vs,hl with
   | [v,v'],_=>exact ⟨v,v',rfl⟩
  obtain ⟨hv,hy⟩:=hS
  rw [← Hw6.out] at hy
  subst hy
  simp only [phAll,phA,paAll,pa,Ph.kd,Ph.val,Kd.val,List.map_cons,List.map_nil,if_true,Act.put,List.setIfInBounds_toArray,List.set_cons_succ,List.set_cons_zero]
  clear hv b7' bf'
  go_wp2_with fail
  refine HEn.out.mono ?_
  rintro e w7 ⟨rfl,x7,hK7,hC7,hN7⟩
  have HL7:=Zac (HL.out w7 x7 _ hC7 Hbd.out.1 Hbd.out.2.1 Hbd.out.2.2)
  have HK7:=Zac hK7
  have HN7:=Zac hN7
  clear hK7 hC7 hN7 HL HEn
  go_wp2_with fail
  refine HL7.out.mono ?_
  rintro e w8 ⟨rfl,hK8,hC8⟩
  have H8:Hid (∃ x',Kept (ownS b ⟨some ⟨lb,0,none⟩,cc,na,nc,some ⟨wb,0,none⟩,wc,va,vl,vc,fa,fl,fc⟩) w w8∧CSr w8 b x' cs a (Zam cs m)∧Zhj w ⟨some ⟨lb,0,none⟩,cc,na,nc,some ⟨wb,0,none⟩,wc,va,vl,vc,fa,fl,fc⟩ x'):=⟨x7,((HK5.out.trans (HK56.out.mono (fun i _ e=>Or.inl e))).trans HK7.out).trans (hK8.mono (fun i _ e=>Or.inl e)),by rw [Hmk.out]; exact hC8,⟨fun j hj=>by
   rcases HN7.out.1 j hj with h | h
   ·exact Or.inl h
   ·have:=HK5.out.size
    have:=HK56.out.size
    exact Or.inr (by omega),HN7.out.2⟩⟩
  clear hK8 hC8
  go_wp2
  go_end0
  exact ⟨rfl,H8.out⟩
theorem Yfp (n:ND) (c:Cls) (k:Nat):Zii n c k≠2:=by
 unfold Zii
 split
 ·omega
 ·split <;> omega
theorem Zfx {cs:List Cls} {n:Nat} {s:SN} (h:n=0∨s.status≠0∨s.way=[]∨3000≤s.tries):Zbl cs n s=(s,0):=by
 cases n with
 | zero=>rfl
 | succ n =>
  unfold Zbl
  rw [if_neg]
  rintro ⟨h1,h2,h3⟩
  rcases h with h | h | h | h
  ·omega
  ·exact h h1
  ·exact h2 h
  ·omega
theorem Yip {cs:List Cls} {n:Nat} {s:SN} (h1:s.status=0) (h2:s.way≠[]) (h3:s.tries<3000):Zbl cs (n+1) s=((Zbl cs n (Zam cs s)).1,(Zbl cs n (Zam cs s)).2+1):=by
 rw [Zbl,if_pos ⟨h1,h2,h3⟩]
theorem Yiq {cs:List Cls} {n j:Nat} {m m':SN} (h:m.status≠2∧m.status≠3) (hl:Zbl cs n { m with status:=0 }=((Zbl cs (n - j) m').1,(Zbl cs (n - j) m').2+j)) (hs:Zbl cs (n - j) m'=(m',0)):Zaz cs n m=(endN m',j):=by
 unfold Zaz
 rw [if_neg (by omega),hl,hs]
 simp
noncomputable def sweN (m:SN):Nat:=open Classical in if m.way=[] then 2 else if 3000≤m.tries then 3 else 0
theorem Ylw (w:World) (b:Nat) (x:CX) (cs:List Cls) (a:List (List Sym) × Names) (m:SN) (h:CSr w b x cs a m) :
  Calls Tryz.prog 77 #[.pointer (some ⟨b,0,none⟩)] w fun e w'=>e = .returned (.int .i64 (sweN m))∧w'=w:=by
 have hbx:=h.box
 obtain ⟨ca,cc,na,nc,wa,wc,va,vl,vc,fa,fl,fc⟩:=x
 simp only [CX.cells] at hbx
 obtain ⟨b0,b1,b2,b3,b4,b5,b6,b7,bf⟩:=box8 hbx
 obtain ⟨z,hz⟩:∃ z,z=m.way.length:=⟨_,rfl⟩
 obtain ⟨tr,htr⟩:∃ z,z=m.tries:=⟨_,rfl⟩
 rw [← hz] at b2
 rw [← htr] at b3
 have hbl:=Zab hbx
 by_cases hz0:z=0
 ·have hs:sweN m=2:=by unfold sweN; rw [if_pos (List.eq_nil_of_length_eq_zero (by omega))]
  rw [hs]
  subst hz0
  clear h hbx hz htr hs
  go_enter Tryz.func77,Tryz.ntmps77
  go_wp2
  go_ret
  exact ⟨rfl,rfl⟩
 ·have hw:m.way≠[]:=fun e=>hz0 (by rw [hz,e]; rfl)
  have hz1:((z:Int) == 0)=false:=by rw [Qu]; omega
  by_cases ht:3000≤tr
  ·have hs:sweN m=3:=by unfold sweN; rw [if_neg hw,if_pos (by omega)]
   have ht':(3000:Int)≤(tr:Int):=by omega
   rw [hs]
   clear h hbx hz htr hs hw ht hz0
   go_enter Tryz.func77,Tryz.ntmps77
   go_wp2
   go_ret
   exact ⟨rfl,rfl⟩
  ·have hs:sweN m=0:=by unfold sweN; rw [if_neg hw,if_neg (by omega)]
   have ht':¬ (3000:Int)≤(tr:Int):=by omega
   rw [hs]
   clear h hbx hz htr hs hw ht hz0
   go_enter Tryz.func77,Tryz.ntmps77
   go_wp2
   go_ret
   exact ⟨rfl,rfl⟩
theorem CSr.full {w w':World} {b:Nat} {x:CX} {cs:List Cls} {a:List (List Sym) × Names} {m:SN} (h:CSr w b x cs a m) (hk:Kept (only b) w w') (hb:w'.heap[b]?=some (.cells #[.slice x.ca cs.length x.cc,.slice x.na a.2.length x.nc,.slice none 0 0,.int .i64 m.tries,.int .i64 3,.slice x.va x.vl x.vc,.slice x.fa x.fl x.fc,.string ⟨#[]⟩] 112 (0,0))):CSr w' b { x with wa:=none,wc:=0 } cs a (Zfu m) :=
 h.upd hk hb ⟨rfl,rfl,rfl,rfl⟩ ⟨[],RowL.nil _⟩ (fun h=>by simp [Zfu] at h)
theorem CSr.stat {w w':World} {b:Nat} {x:CX} {cs:List Cls} {a:List (List Sym) × Names} {m:SN} (h:CSr w b x cs a m) (st:Nat) (hst:st≠1) (hk:Kept (only b) w w') (hb:w'.heap[b]?=some (.cells (x.cells cs.length a.2.length m.way.length m.tries st m.tree) 112 (0,0))):CSr w' b x cs a { m with status:=st } :=
 h.upd hk hb ⟨rfl,rfl,rfl,rfl⟩ h.way (fun h=>absurd h hst)
theorem Ybh {m:SN} (h:m.status=0):m = { m with status:=0 }:=by
 obtain ⟨p1,p2,p3,p4,p5⟩:=m
 simp only at h
 subst h
 rfl
theorem Yfq {w:World} {b:Nat} {x x':CX} (h:Zhj w x x') {i:Nat} (hi:i<w.heap.size) (ho:ownS b x' i):ownS b x i:=by
 rcases ho with rfl | ho
 ·exact Or.inl rfl
 ·rcases h.1 i ho with h | h
  ·exact Or.inr h
  ·omega
set_option maxRecDepth 20000 in
theorem Yir (w:World) (b:Nat) (x:CX) (cs:List Cls) (a:List (List Sym) × Names) (m:SN) (n:Nat) (h:CSr w b x cs a m) (hI:InvN cs a m) (hcs:∀ c ∈ cs,COk c∧CNm c) (hcf:∀ c ∈ cs,CFew c) (hcl:cs.length≤24) (hn:n≤3000) (hm:m.status≠2∧m.status≠3) :
  Calls Tryz.prog 54 #[.pointer (some ⟨b,0,none⟩),.int .i64 n] w fun e w'=>e = .returned (.tuple #[.int .i64 (Zaz cs n m).2,.int .i64 0])∧∃ x',Kept (ownS b x) w w'∧CSr w' b x' cs a (Zaz cs n m).1∧Zhj w x x':=by
 obtain ⟨st0,hst0⟩:∃ z,z=m.status:=⟨_,rfl⟩
 have hm2:((st0:Int) == 2)=false:=by rw [Qu]; omega
 have hm3:((st0:Int) == 3)=false:=by rw [Qu]; omega
 have hbx:=h.box
 obtain ⟨ca,cc,na,nc,wa,wc,va,vl,vc,fa,fl,fc⟩:=x
 simp only [CX.cells] at hbx
 rw [← hst0] at hbx
 obtain ⟨b0,b1,b2,b3,b4,b5,b6,b7,bf⟩:=box8 hbx
 have hbl:=Zab hbx
 obtain ⟨W0,hW0⟩:∃ W0,W0=((w.setCell ⟨b,4,none⟩ (.int .i64 0)).setCell ⟨b,5,none⟩ (.slice none 0 0)).setCell ⟨b,6,none⟩ (.slice none 0 0):=⟨_,rfl⟩
 have hK0:Kept (only b) w W0:=by rw [hW0]; exact (((Qx _ _).put 4 _).put 5 _).put 6 _
 have hC0:CSr W0 b ⟨ca,cc,na,nc,wa,wc,none,0,0,none,0,0⟩ cs a { m with status:=0 }:=h.upd hK0 (by rw [hW0]; exact Zaf (Zaf (Zaf hbx 4 _) 5 _) 6 _) ⟨rfl,rfl,rfl,rfl⟩ h.way (fun h=>by simp at h)
 have HK0:=Zac (hK0.mono (S':=ownS b ⟨ca,cc,na,nc,wa,wc,va,vl,vc,fa,fl,fc⟩) (fun i _ e=>Or.inl e))
 have HC0:=Zac hC0
 have HI0:=Zac (hI.seek hm.2)
 have HW0:=Zac hW0
 have Hcs:=Zac hcs
 have Hcf:=Zac hcf
 have Hm:=Zac hm
 clear h hI hcs hcf hm hbx hK0 hC0 hW0 hst0
 go_enter Tryz.func54,Tryz.ntmps54
 go_wp2
 rw [← HW0.out]
 go_loopg [6] (n+1) (fun gk mv wr=>∃ (j:Nat) (x':CX) (m':SN),mv = .int .i64 j∧j≤n∧n - j<gk∧Kept (ownS b ⟨ca,cc,na,nc,wa,wc,va,vl,vc,fa,fl,fc⟩) w wr∧CSr wr b x' cs a m'∧Zhj w ⟨ca,cc,na,nc,wa,wc,va,vl,vc,fa,fl,fc⟩ x'∧InvN cs a m'∧Zbl cs n { m with status:=0 }=((Zbl cs (n - j) m').1,(Zbl cs (n - j) m').2+j)∧m'.status≠2)
 case atStart=>exact ⟨0,_,{ m with status:=0 },by go_num,by omega,by omega,HK0.out,HC0.out,⟨fun k hk=>Or.inl hk,rfl,rfl,rfl,rfl⟩,HI0.out,by simp,by simp⟩
 case round =>
  clear b0 b1 b2 b3 b4 b5 b6 b7 bf HK0 HC0 HI0 HW0
  obtain ⟨j,⟨ca1,cc1,na1,nc1,wa1,wc1,va1,vl1,vc1,fa1,fl1,fc1⟩,m',rfl,hjn,hgk,hK,hC,hN,hI,hloop,hst2⟩:=hrel
  obtain ⟨st,hst⟩:∃ z,z=m'.status:=⟨_,rfl⟩
  obtain ⟨tr,htr⟩:∃ z,z=m'.tries:=⟨_,rfl⟩
  obtain ⟨zl,hzl⟩:∃ z,z=m'.way.length:=⟨_,rfl⟩
  have hst3:=hI.st
  have hT:=hI.tries
  have hbx:=hC.box
  simp only [CX.cells] at hbx
  rw [← hst,← htr,← hzl] at hbx
  obtain ⟨b0,b1,b2,b3,b4,b5,b6,b7,bf⟩:=box8 hbx
  have hbl1:=Zab hbx
  have Hm':Hid (st=m'.status∧tr=m'.tries∧zl=m'.way.length):=⟨hst,htr,hzl⟩
  have hstv:st=0∨st=1∨st=3:=by omega
  have hzlb:zl≤100000:=by have:=hI.len; omega
  have HK:=Zac hK
  have HC:=Zac hC
  have HN:=Zac hN
  have HI:=Zac hI
  have Hloop:=Zac hloop
  have Hbx:=Zac hbx
  have Hend:Hid (Zbl cs (n - j) m'=(m',0)→∀ w',(∃ x',Kept (only b) wr w'∧CSr w' b x' cs a (endN m')∧(x'.wa=wa1∨x'.wa=none)∧x'.ca=ca1∧x'.cc=cc1∧x'.na=na1∧x'.nc=nc1)→(Ending.returned (.tuple #[.int .i64 j,.int .i64 0])) = .returned (.tuple #[.int .i64 (Zaz cs n m).2,.int .i64 0])∧∃ x',Kept (ownS b ⟨ca,cc,na,nc,wa,wc,va,vl,vc,fa,fl,fc⟩) w w'∧CSr w' b x' cs a (Zaz cs n m).1∧Zhj w ⟨ca,cc,na,nc,wa,wc,va,vl,vc,fa,fl,fc⟩ x'):=fun hl w' ⟨x',h1,h2,h3,h4,h5,h6,h7⟩=>by
   rw [Yiq (n:=n) (j:=j) Hm.out hloop hl]
   refine ⟨rfl,x',hK.trans (h1.mono (fun i _ e=>Or.inl e)),h2,⟨fun k hk => ?_,h4.trans hN.2.1,h5.trans hN.2.2.1,h6.trans hN.2.2.2.1,h7.trans hN.2.2.2.2⟩⟩
   rcases h3 with h3 | h3
   ·rw [h3] at hk; exact hN.1 k hk
   ·rw [h3] at hk; obtain ⟨p,hp,_⟩:=hk; simp at hp
  clear hK hC hN hI hloop hbx hst htr hzl hst2 hst3 hT
  by_cases hs0:st=0
  ·subst hs0
   have HM0:Hid (m'.status=0):=Hm'.out.1.symm
   have HSw:=Zac (Ylw wr b ⟨ca1,cc1,na1,nc1,wa1,wc1,va1,vl1,vc1,fa1,fl1,fc1⟩ cs a m' HC.out)
   by_cases hlt:j<n
   ·by_cases hz0:zl=0
    ·have HW:Hid (m'.way=[]):=List.eq_nil_of_length_eq_zero (by rw [← Hm'.out.2.2]; exact hz0)
     subst hz0
     have hl0:=Zfx (cs:=cs) (n:=n - j) (s:=m') (Or.inr (Or.inr (Or.inl HW.out)))
     have hsw:sweN m'=2:=by unfold sweN; rw [if_pos HW.out]
     rw [hsw] at HSw
     have hK5:Kept (only b) wr (wr.setCell ⟨b,4,none⟩ (.int .i64 2)):=(Qx _ _).put 4 _
     have Hfin:Hid (_∧_):=Hend.out hl0 _ ⟨⟨ca1,cc1,na1,nc1,wa1,wc1,va1,vl1,vc1,fa1,fl1,fc1⟩,hK5,by
      have e:endN m' = { m' with status:=2 }:=by unfold endN; rw [if_neg (by rw [HM0.out]; decide),if_pos HM0.out,if_pos HW.out]
      rw [e]
      exact HC.out.stat 2 (by decide) hK5 (by rw [← Hm'.out.2.1,← Hm'.out.2.2]; exact Zaf Hbx.out 4 _),Or.inl rfl,rfl,rfl,rfl,rfl⟩
     clear hl0 hsw hK5 Hend HC HI HN Hloop Hm'
     go_wp2_with fail
     refine HSw.out.mono ?_
     rintro e w1 ⟨rfl,rfl⟩
     go_wp2
     go_ret2
     exact Hfin.out
    ·have hwn:m'.way≠[]:=fun e=>hz0 (by rw [Hm'.out.2.2,e]; rfl)
     have hzi:(0:Int)<(zl:Int):=by omega
     have hz1:((zl:Int) == 0)=false:=by rw [Qu]; omega
     have Hwn:=Zac hwn
     clear hwn hz0
     by_cases ht3:tr<3000
     ·have hgT:(tr:Int)<3000:=by omega
      have HMk:=Zac (Zwm wr b ⟨ca1,cc1,na1,nc1,wa1,wc1,va1,vl1,vc1,fa1,fl1,fc1⟩ cs a m' HC.out HI.out HM0.out Hwn.out (by rw [← Hm'.out.2.1]; exact ht3) Hcs.out Hcf.out hcl)
      obtain ⟨n',k,r,c,hw1,hw2,hw3⟩:=HI.out.head Hwn.out
      obtain ⟨e1,e2,e3,e4⟩:=Zhp hw1 hw2 HM0.out
      have Hinv:Hid (InvN cs a (Zam cs m')∧(Zam cs m').status≠2):=⟨HI.out.try' hcl HM0.out hw1 hw2 (by rw [← Hm'.out.2.1]; exact ht3),by rw [e2]; exact Yfp _ _ _⟩
      have Hlp:Hid (Zbl cs n { m with status:=0 }=((Zbl cs (n - (j+1)) (Zam cs m')).1,(Zbl cs (n - (j+1)) (Zam cs m')).2+(j+1))):=by
       have h1:=Hloop.out
       rw [show n - j=(n - (j+1))+1 by omega,Yip HM0.out Hwn.out (by rw [← Hm'.out.2.1]; exact ht3)] at h1
       show _=_
       rw [h1]
       simp; omega
      clear ht3 hw1 hw2 hw3 e1 e2 e3 e4
      go_wp2_with fail
      refine HMk.out.mono ?_
      rintro e w1 ⟨rfl,x1,hK1,hC1,hN1⟩
      have HK1:=Zac hK1
      have HC1:=Zac hC1
      have HN1:=Zac hN1
      clear hK1 hC1 hN1 b0 b1 b2 b3 b4 b5 b6 b7 bf
      go_wp2
      go_roundg (n - j)
      case measure=>omega
      case rel =>
       refine ⟨j+1,x1,Zam cs m',by go_num,by omega,by omega,HK.out.then HK1.out (fun i hi ho=>Yfq HN.out hi ho),HC1.out,⟨fun i hi => ?_,HN1.out.2.1.trans HN.out.2.1,HN1.out.2.2.1.trans HN.out.2.2.1,HN1.out.2.2.2.1.trans HN.out.2.2.2.1,HN1.out.2.2.2.2.trans HN.out.2.2.2.2⟩,Hinv.out.1,Hlp.out,Hinv.out.2⟩
       rcases HN1.out.1 i hi with h | h
       ·exact HN.out.1 i h
       ·exact Or.inr (Qq HK.out.size h)
     ·have hgT:¬ (tr:Int)<3000:=by omega
      have ht3':3000≤tr:=by omega
      clear ht3
      have hl0:=Zfx (cs:=cs) (n:=n - j) (s:=m') (Or.inr (Or.inr (Or.inr (by rw [← Hm'.out.2.1]; exact ht3'))))
      have hsw:sweN m'=3:=by unfold sweN; rw [if_neg Hwn.out,if_pos (by rw [← Hm'.out.2.1]; exact ht3')]
      rw [hsw] at HSw
      have hK5:Kept (only b) wr (((wr.setCell ⟨b,4,none⟩ (.int .i64 3)).setCell ⟨b,2,none⟩ (.slice none 0 0)).setCell ⟨b,7,none⟩ (.string ⟨#[]⟩)):=(((Qx _ _).put 4 _).put 2 _).put 7 _
      have Hfin:Hid (_∧_):=Hend.out hl0 _ ⟨_,hK5,by
       have e:endN m'=Zfu m':=by unfold endN; rw [if_neg (by rw [HM0.out]; decide),if_pos HM0.out,if_neg Hwn.out,if_pos (by rw [← Hm'.out.2.1]; exact ht3')]
       rw [e]
       exact HC.out.full hK5 (by rw [← Hm'.out.2.1]; exact Zaf (Zaf (Zaf Hbx.out 4 _) 2 _) 7 _),Or.inr rfl,rfl,rfl,rfl,rfl⟩
      clear hl0 hsw hK5 Hend HC HI HN Hloop Hm' ht3'
      go_wp2_with fail
      refine HSw.out.mono ?_
      rintro e w1 ⟨rfl,rfl⟩
      go_wp2
      go_ret2
      exact Hfin.out
   ·by_cases hz0:zl=0
    ·have HW:Hid (m'.way=[]):=List.eq_nil_of_length_eq_zero (by rw [← Hm'.out.2.2]; exact hz0)
     subst hz0
     have hl0:=Zfx (cs:=cs) (n:=n - j) (s:=m') (Or.inl (by omega))
     have hsw:sweN m'=2:=by unfold sweN; rw [if_pos HW.out]
     rw [hsw] at HSw
     have hK5:Kept (only b) wr (wr.setCell ⟨b,4,none⟩ (.int .i64 2)):=(Qx _ _).put 4 _
     have Hfin:Hid (_∧_):=Hend.out hl0 _ ⟨⟨ca1,cc1,na1,nc1,wa1,wc1,va1,vl1,vc1,fa1,fl1,fc1⟩,hK5,by
      have e:endN m' = { m' with status:=2 }:=by unfold endN; rw [if_neg (by rw [HM0.out]; decide),if_pos HM0.out,if_pos HW.out]
      rw [e]
      exact HC.out.stat 2 (by decide) hK5 (by rw [← Hm'.out.2.1,← Hm'.out.2.2]; exact Zaf Hbx.out 4 _),Or.inl rfl,rfl,rfl,rfl,rfl⟩
     clear hl0 hsw hK5 Hend HC HI HN Hloop Hm'
     go_wp2_with fail
     refine HSw.out.mono ?_
     rintro e w1 ⟨rfl,rfl⟩
     go_wp2
     go_ret2
     exact Hfin.out
    ·have hwn:m'.way≠[]:=fun e=>hz0 (by rw [Hm'.out.2.2,e]; rfl)
     have Hwn:=Zac hwn
     clear hwn hz0
     by_cases ht3':3000≤tr
     ·have hl0:=Zfx (cs:=cs) (n:=n - j) (s:=m') (Or.inl (by omega))
      have hsw:sweN m'=3:=by unfold sweN; rw [if_neg Hwn.out,if_pos (by rw [← Hm'.out.2.1]; exact ht3')]
      rw [hsw] at HSw
      have hK5:Kept (only b) wr (((wr.setCell ⟨b,4,none⟩ (.int .i64 3)).setCell ⟨b,2,none⟩ (.slice none 0 0)).setCell ⟨b,7,none⟩ (.string ⟨#[]⟩)):=(((Qx _ _).put 4 _).put 2 _).put 7 _
      have Hfin:Hid (_∧_):=Hend.out hl0 _ ⟨_,hK5,by
       have e:endN m'=Zfu m':=by unfold endN; rw [if_neg (by rw [HM0.out]; decide),if_pos HM0.out,if_neg Hwn.out,if_pos (by rw [← Hm'.out.2.1]; exact ht3')]
       rw [e]
       exact HC.out.full hK5 (by rw [← Hm'.out.2.1]; exact Zaf (Zaf (Zaf Hbx.out 4 _) 2 _) 7 _),Or.inr rfl,rfl,rfl,rfl,rfl⟩
      clear hl0 hsw hK5 Hend HC HI HN Hloop Hm' ht3'
      go_wp2_with fail
      refine HSw.out.mono ?_
      rintro e w1 ⟨rfl,rfl⟩
      go_wp2
      go_ret2
      exact Hfin.out
     ·have hl0:=Zfx (cs:=cs) (n:=n - j) (s:=m') (Or.inl (by omega))
      have hsw:sweN m'=0:=by unfold sweN; rw [if_neg Hwn.out,if_neg (by rw [← Hm'.out.2.1]; exact ht3')]
      rw [hsw] at HSw
      have hK5:Kept (only b) wr (wr.setCell ⟨b,4,none⟩ (.int .i64 0)):=(Qx _ _).put 4 _
      have Hfin:Hid (_∧_):=Hend.out hl0 _ ⟨⟨ca1,cc1,na1,nc1,wa1,wc1,va1,vl1,vc1,fa1,fl1,fc1⟩,hK5,by
       have e:endN m' = { m' with status:=0 }:=by
        unfold endN
        rw [if_neg (by rw [HM0.out]; decide),if_pos HM0.out,if_neg Hwn.out,if_neg (by rw [← Hm'.out.2.1]; exact ht3')]
        exact Ybh HM0.out
       rw [e]
       exact HC.out.stat 0 (by decide) hK5 (by rw [← Hm'.out.2.1,← Hm'.out.2.2]; exact Zaf Hbx.out 4 _),Or.inl rfl,rfl,rfl,rfl,rfl⟩
      clear hl0 hsw hK5 Hend HC HI HN Hloop Hm' ht3'
      go_wp2_with fail
      refine HSw.out.mono ?_
      rintro e w1 ⟨rfl,rfl⟩
      go_wp2
      go_ret2
      exact Hfin.out
  ·have hne':m'.status≠0:=by rw [← Hm'.out.1]; exact hs0
   have hl0:=Zfx (cs:=cs) (n:=n - j) (s:=m') (Or.inr (Or.inl hne'))
   rcases hstv with rfl | rfl | rfl
   ·exact absurd rfl hs0
   ·have Hfin:Hid (_∧_):=Hend.out hl0 wr ⟨⟨ca1,cc1,na1,nc1,wa1,wc1,va1,vl1,vc1,fa1,fl1,fc1⟩,Qx _ _,by
     have e:endN m'=m':=by simp [endN,show m'.status=1 from Hm'.out.1.symm]
     rw [e]; exact HC.out,Or.inl rfl,rfl,rfl,rfl,rfl⟩
    clear hs0 hne' hl0 Hend HC HI HN Hloop Hm'
    by_cases hlt:j<n
    all_goals
     go_wp2
     go_ret2
     exact Hfin.out
   ·have hK5:Kept (only b) wr ((wr.setCell ⟨b,2,none⟩ (.slice none 0 0)).setCell ⟨b,7,none⟩ (.string ⟨#[]⟩)):=((Qx _ _).put 2 _).put 7 _
    have Hfin:Hid (_∧_):=Hend.out hl0 _ ⟨_,hK5,by
     have e:endN m'=Zfu m':=by unfold endN; rw [if_pos Hm'.out.1.symm]
     rw [e]
     exact HC.out.full hK5 (by rw [← Hm'.out.2.1]; exact Zaf (Zaf Hbx.out 2 _) 7 _),Or.inr rfl,rfl,rfl,rfl,rfl⟩
    clear hs0 hne' hl0 hK5 Hend HC HI HN Hloop Hm'
    by_cases hlt:j<n
    all_goals
     go_wp2
     go_ret2
     exact Hfin.out
theorem Yis (w:World) (ua:Option Addr) (uc:Nat) (ks:List Nat) (h:w.ownsRow 0 3 1 (.slice ua ks.length uc) ks.length (ints ks)) (hl:ks.length≤1000) (hk:∀ k ∈ ks,k<24) :
  Calls Tryz.prog 78 #[.slice ua ks.length uc] w fun e w'=>e = .returned (.string ⟨(Zcb [] ks).toArray⟩)∧w'=w:=by
 obtain ⟨F,hF⟩:∃ F,F=Zcb [] ks:=⟨_,rfl⟩
 rw [← hF]
 have hFl:F.length≤200000:=by
  have:=Zzw ks [] (by simp) (fun k hk'=>by have:=hk k hk'; omega)
  rw [← hF] at this
  omega
 obtain ⟨L,hL⟩:∃ L,L=ks.length:=⟨_,rfl⟩
 rw [← hL] at h hl ⊢
 have HU:=Zac h
 have HF:=Zac hF
 have Hk:=Zac hk
 have HL:=Zac hL
 clear h hF hk hL
 go_enter Tryz.func78,Tryz.ntmps78
 go_wp2
 go_loopg [3,8] (L+1) (fun gk tx i wr=>∃ (j:Nat) (dt:List UInt8),i = .int .i64 j∧j≤L∧L - j<gk∧tx = .string ⟨dt.toArray⟩∧wr=w ∧
  dt++Zcb (if j=0 then [] else [46]) (ks.drop j)=F)
 case atStart=>exact ⟨0,[],by go_num,Qm _,by omega,rfl,rfl,by simp [HF.out]⟩
 case round =>
  obtain ⟨j,dt,rfl,hj,hgk,rfl,rfl,hdt⟩:=hrel
  have hdl:dt.length≤200000:=by
   have h1:=congrArg List.length hdt
   simp only [Qg] at h1
   omega
  have Hdt:=Zac hdt
  clear hdt
  by_cases hlt:j<L
  ·have hlt':j<ks.length:=by rw [← HL.out]; exact hlt
   obtain ⟨u,hu⟩:∃ u,ks[j]?=some u:=⟨_,Qb hlt'⟩
   have hdu:ks.drop j=u::ks.drop (j+1):=by
    rw [List.drop_eq_getElem_cons hlt',(Qa.1 hu).2]
   obtain ⟨ub,ucap',ucur,hue,hBu,hub,hucp⟩:=Zap HU.out (by omega)
   simp only [Value.slice.injEq] at hue
   obtain ⟨rfl,_,rfl⟩:=hue
   have z0:wr.cell? ⟨ub,j,none⟩=some (.int .i64 u):=Zai HU.out j _ (by simp only [ints,Qj,hu,Option.map_some])
   have hu24:=Hk.out u (Qh hu)
   have HD:=Zac (Zkk u wr (by omega))
   obtain ⟨X,hX⟩:∃ X,X=Lib.decDigits u:=⟨_,rfl⟩
   rw [← hX] at HD
   have hul1:X.length≤30:=by rw [hX]; have:=Zjj u; omega
   by_cases h0:j=0
   ·have hk0:¬ (0:Int)<(j:Int):=by omega
    have Hd0:Hid ((dt++X)++Zcb [46] (ks.drop (j+1))=F):=by
     have h1:=Hdt.out
     rw [hdu,if_pos h0] at h1
     simp only [Zcb] at h1
     show _=_
     rw [← h1,hX]; simp
    have Hstr:=Zac (Zbb dt X)
    clear h0 hu hdu hub Hdt hX hlt'
    go_wp2_with fail
    refine HD.out.mono ?_
    rintro e w1 ⟨rfl,rfl⟩
    go_wp2
    go_roundg (L - j)
    case measure=>omega
    case rel=>exact ⟨j+1,dt++X,by go_num,by omega,by omega,by rw [← Hstr.out],rfl,by simpa using Hd0.out⟩
   ·have hk0:(0:Int)<(j:Int):=by omega
    have Hd0:Hid ((dt++[46]++X)++Zcb [46] (ks.drop (j+1))=F):=by
     have h1:=Hdt.out
     rw [hdu,if_neg h0] at h1
     simp only [Zcb] at h1
     show _=_
     rw [← h1,hX]; simp
    have Hstr:=Zac (Zbb (dt++[46]) X)
    have Hstr1:=Zac (Zbb dt [46])
    clear h0 hu hdu hub Hdt hX hlt'
    go_wp2_with fail
    refine HD.out.mono ?_
    rintro e w1 ⟨rfl,rfl⟩
    go_wp2
    go_roundg (L - j)
    case measure=>omega
    case rel=>exact ⟨j+1,dt++[46]++X,by go_num,by omega,by omega,by rw [← Hstr.out,← Hstr1.out],rfl,by simpa using Hd0.out⟩
  ·have he:j=L:=by omega
   have Hfin:Hid (dt=F):=by
    have h1:=Hdt.out
    rw [he,HL.out,List.drop_length] at h1
    show _=_
    simpa [Zcb] using h1
   clear Hdt he
   go_wp2
   go_ret
   rw [Hfin.out]
   exact ⟨rfl,rfl⟩
theorem Znx (w:World) (b:Nat) (x:CX) (cs:List Cls) (a:List (List Sym) × Names) (m:SN) (h:CSr w b x cs a m) :
  Calls Tryz.prog 55 #[.pointer (some ⟨b,0,none⟩)] w fun e w'=>e = .returned (.int .i64 m.status)∧w'=w:=by
 have hbx:=h.box
 obtain ⟨ca,cc,na,nc,wa,wc,va,vl,vc,fa,fl,fc⟩:=x
 simp only [CX.cells] at hbx
 obtain ⟨b0,b1,b2,b3,b4,b5,b6,b7,bf⟩:=box8 hbx
 have hbl:=Zab hbx
 clear h hbx
 go_enter Tryz.func55,Tryz.ntmps55
 go_wp2
 go_ret
 exact ⟨rfl,rfl⟩
theorem Zny (w:World) (b:Nat) (x:CX) (cs:List Cls) (a:List (List Sym) × Names) (m:SN) (h:CSr w b x cs a m) :
  Calls Tryz.prog 58 #[.pointer (some ⟨b,0,none⟩)] w fun e w'=>e = .returned (.string ⟨(Zcy a m.status m.found m.tree).2.2.toArray⟩)∧w'=w:=by
 have hbx:=h.box
 obtain ⟨ca,cc,na,nc,wa,wc,va,vl,vc,fa,fl,fc⟩:=x
 simp only [CX.cells] at hbx
 obtain ⟨b0,b1,b2,b3,b4,b5,b6,b7,bf⟩:=box8 hbx
 have hbl:=Zab hbx
 obtain ⟨st,hst⟩:∃ z,z=m.status:=⟨_,rfl⟩
 rw [← hst] at b4 ⊢
 clear h hbx hst
 by_cases h2:st=2
 ·subst h2
  have Ht:Hid ((Zcy a 2 m.found m.tree).2.2=m.tree):=by show _=_; simp [Zcy]
  rw [Ht.out]
  go_enter Tryz.func58,Tryz.ntmps58
  go_wp2
  go_ret
  exact ⟨rfl,rfl⟩
 ·have Ht:Hid ((Zcy a st m.found m.tree).2.2=[]):=by
   show _=_
   unfold Zcy
   split
   ·rfl
   ·rfl
  rw [Ht.out]
  have hb:((st:Int) != 2)=true:=by rw [bne_iff_ne]; omega
  clear h2 Ht
  go_enter Tryz.func58,Tryz.ntmps58
  go_wp2
  go_ret
  exact ⟨rfl,rfl⟩
theorem Zma (w:World) (b:Nat) (x:CX) (cs:List Cls) (a:List (List Sym) × Names) (m:SN) (h:CSr w b x cs a m) (hI:InvN cs a m) (hcl:cs.length≤24) :
  Calls Tryz.prog 57 #[.pointer (some ⟨b,0,none⟩)] w fun e w'=>e = .returned (.string ⟨(Zcy a m.status m.found m.tree).2.1.toArray⟩)∧w'=w:=by
 have hbx:=h.box
 obtain ⟨ca,cc,na,nc,wa,wc,va,vl,vc,fa,fl,fc⟩:=x
 simp only [CX.cells] at hbx
 obtain ⟨b0,b1,b2,b3,b4,b5,b6,b7,bf⟩:=box8 hbx
 have hbl:=Zab hbx
 by_cases h1:m.status=1
 ·obtain ⟨⟨n,_,hOk,_,hS⟩,ho⟩:=h.found h1
  have hu:=(hI.found h1).2.2
  have hul:m.found.used.length≤1000:=by rw [← hS.used]; have:=hOk.ul; omega
  obtain ⟨g1,g2,he⟩:=Zae ho
  simp only [Value.slice.injEq] at he
  obtain ⟨rfl,hfl,rfl⟩:=he
  rw [hfl] at ho b6
  have HX:=Zac (Yis w fa fc m.found.used ho hul (fun k hk=>by have:=hu k hk; omega))
  have Ht:Hid ((Zcy a m.status m.found m.tree).2.1=Zcb [] m.found.used):=by show _=_; simp [Zcy,h1,Zdl]
  rw [Ht.out]
  rw [h1] at b4
  clear h hI hbx h1 ho hu hul hOk hS Ht
  go_enter Tryz.func57,Tryz.ntmps57
  go_wp2_with fail
  refine HX.out.mono ?_
  rintro e w1 ⟨rfl,rfl⟩
  go_wp2
  go_ret
  exact ⟨rfl,rfl⟩
 ·obtain ⟨st,hst⟩:∃ z,z=m.status:=⟨_,rfl⟩
  rw [← hst] at b4 h1 ⊢
  have Ht:Hid ((Zcy a st m.found m.tree).2.1=[]):=by
   show _=_
   unfold Zcy
   rw [if_neg h1]
   split <;> rfl
  rw [Ht.out]
  have hb:((st:Int) != 1)=true:=by rw [bne_iff_ne]; omega
  clear h hI hbx h1 Ht hst
  go_enter Tryz.func57,Tryz.ntmps57
  go_wp2
  go_ret
  exact ⟨rfl,rfl⟩
def OnePh (W:World) (A:Value):List Value→World→Prop
 | [],y=>y=W
 | [v],y=>v=A∧Ext W y
 | _,_=>False
theorem OnePh.at {W:World} {A:Value} {vs:List Value} {y:World} (h:OnePh W A vs y):vs.length≤0→y=W:=by
 match vs,h with
 | [],h=>exact fun _=>h
 | [v],h=>exact fun h=>by simp at h
theorem Znz (w:World) (b:Nat) (x:CX) (cs:List Cls) (q:ByteArray) (a:List (List Sym) × Names) (m:SN) (h:CSr w b x cs a m) (hI:InvN cs a m) (hask:Zep q=some a) :
  Calls Tryz.prog 56 #[.pointer (some ⟨b,0,none⟩)] w fun e w'=>e = .returned (.string ⟨(Zcy a m.status m.found m.tree).1.toArray⟩)∧Ext w w':=by
 have hbx:=h.box
 obtain ⟨ca,cc,na,nc,wa,wc,va,vl,vc,fa,fl,fc⟩:=x
 simp only [CX.cells] at hbx
 obtain ⟨b0,b1,b2,b3,b4,b5,b6,b7,bf⟩:=box8 hbx
 have hbl:=Zab hbx
 by_cases h1:m.status=1
 ·obtain ⟨⟨n,hv,hOk,hNm,hS⟩,ho⟩:=h.found h1
  obtain ⟨_,hvl,_⟩:=hI.found h1
  obtain ⟨_,_,_,_,_,_,_,_,ha8⟩:=Zdf hask
  have ha6:=Znu hask
  have hnl:n.vals.length=a.2.length:=by rw [hS.vl,hvl]
  have hnm:=h.names
  simp only at hnm hv
  have hans:Zbp a.2 n=Zbp a.2 m.found:=by unfold Zbp; rw [hS.valsC hOk]
  have HA:Hid (Calls Tryz.prog 70 #[.slice na a.2.length nc,.slice va vl vc] w.drew fun e w'=>Ext w.drew w'∧e = .returned (.string ⟨(Zbp a.2 n).toArray⟩)):=by
   have hE:Ext w w.drew:=⟨rfl,rfl,rfl,Qe _,fun _ _=>rfl⟩
   exact Zha _ _ _ a.2 n.vals (Zah hnm (fun j hj=>hE.block j (hnm.lt j hj).2)) (hv.ext hE) (Zwj hOk hNm (by omega)) hnl.symm (Zll hOk hNm (by omega) ha6 ha8)
  have Ht:Hid ((Zcy a m.status m.found m.tree).1=Zbp a.2 m.found):=by show _=_; simp [Zcy,h1]
  rw [Ht.out,← hans]
  obtain ⟨Y,hY⟩:∃ Y,Y=Zbp a.2 n:=⟨_,rfl⟩
  rw [← hY] at HA ⊢
  rw [h1] at b4
  clear h hI hbx h1 ho hOk hNm hS hv hvl ha8 ha6 hnl hnm hans Ht hY hask
  go_enter Tryz.func56,Tryz.ntmps56
  go_wp2_with fail
  refine Zgk (by kernel_rfl) [.rd 0 1 (fun _ => .pointer (some ⟨b,0,none⟩)),.rd 0 1 (fun _ => .pointer (some ⟨b,0,none⟩)),.rd 0 1 (fun _ => .pointer (some ⟨b,1,none⟩)),.rd 0 0 (fun _ => .slice na a.2.length nc),.rd 0 1 (fun _ => .pointer (some ⟨b,0,none⟩)),.rd 0 1 (fun _ => .pointer (some ⟨b,0,none⟩)),.rd 0 1 (fun _ => .pointer (some ⟨b,5,none⟩)),.rd 0 0 (fun _ => .slice va vl vc),.st 0,.rd 1 1 (fun _ => .string ⟨Y.toArray⟩)] 1 7 (by kernel_rfl) (OnePh w.drew (.string ⟨Y.toArray⟩)) rfl ?_ ?_
  ·refine ⟨⟨trivial,fun vs y _ hl hS => ?_⟩,⟨trivial,fun vs y _ hl hS => ?_⟩,⟨trivial,fun vs y _ hl hS => ?_⟩,⟨trivial,fun vs y _ hl hS => ?_⟩,⟨trivial,fun vs y _ hl hS => ?_⟩,⟨trivial,fun vs y _ hl hS => ?_⟩,⟨trivial,fun vs y _ hl hS => ?_⟩,⟨trivial,fun vs y _ hl hS => ?_⟩,⟨trivial,fun vs y hl hS => ?_⟩,⟨trivial,fun vs y hl0 hl hS => ?_⟩,trivial⟩
   ·simp [phAll,phA,pa,Ph.kd,Ph.val,Kd.val,go_sem]
   ·simp [phAll,phA,pa,Ph.kd,Ph.val,Kd.val,go_sem]
   ·simp [phAll,phA,pa,Ph.kd,Ph.val,Kd.val,go_sem]
   ·obtain rfl:=hS.at hl
    simp [phAll,phA,pa,Ph.kd,Ph.val,Kd.val,go_sem,b1]
   ·simp [phAll,phA,pa,Ph.kd,Ph.val,Kd.val,go_sem]
   ·simp [phAll,phA,pa,Ph.kd,Ph.val,Kd.val,go_sem]
   ·simp [phAll,phA,pa,Ph.kd,Ph.val,Kd.val,go_sem]
   ·obtain rfl:=hS.at hl
    simp [phAll,phA,pa,Ph.kd,Ph.val,Kd.val,go_sem,b5]
   ·obtain rfl:=List.length_eq_zero_iff.1 hl
    obtain rfl:y=w.drew:=hS
    refine .call 70 #[.slice na a.2.length nc,.slice va vl vc] _ (by simp [phAll,phA,pa,Ph.kd,Ph.val,Kd.val,go_sem]) (HA.out.mono ?_)
    rintro e u ⟨hE,rfl⟩
    exact ⟨_,rfl,rfl,hE⟩
   ·obtain ⟨v,rfl⟩:=List.length_eq_one_iff.1 (show vs.length=1 by omega)
    obtain ⟨rfl,_⟩:=hS
    simp [phAll,phA,pa,Ph.kd,Ph.val,Kd.val,go_sem]
  rintro vs y hl hS
  obtain ⟨v,rfl⟩:=List.length_eq_one_iff.1 hl
  obtain ⟨hv,hy⟩:=hS
  have Hy:=Zac hy
  simp only [phAll,phA,paAll,pa,Ph.kd,Ph.val,Kd.val,List.map_cons,List.map_nil,if_true,Act.put,List.setIfInBounds_toArray,List.set_cons_succ,List.set_cons_zero]
  clear hv hy b0 b1 b2 b3 b4 b5 b6 b7 bf
  go_wp2
  go_ret
  exact ⟨rfl,Hy.out.undrew⟩
 ·obtain ⟨st,hst⟩:∃ z,z=m.status:=⟨_,rfl⟩
  rw [← hst] at b4 h1 ⊢
  have Ht:Hid ((Zcy a st m.found m.tree).1=[]):=by
   show _=_
   unfold Zcy
   rw [if_neg h1]
   split <;> rfl
  rw [Ht.out]
  have hb:((st:Int) != 1)=true:=by rw [bne_iff_ne]; omega
  clear h hI hbx h1 Ht hst
  go_enter Tryz.func56,Tryz.ntmps56
  go_wp2
  go_ret
  exact ⟨rfl,Ext.of (Qx _ _)⟩
theorem Zui {S:Nat→Prop} {w w':World} (h:Ext w w'):Kept S w w':=⟨h.os,h.tape,h.output,h.size,fun k hk _=>h.block k hk⟩
theorem OfTy.terms {S:Nat→Prop} {w w':World} {v:Value} {ls:List (List Sym)} (hS:OfTy S w 9) (hk:Kept S w w') (h:TermsIn w v ls):TermsIn w' v ls:=by
 obtain ⟨vs,h⟩:=h
 exact ⟨vs,hS.row hk h.owns (by decide),fun i l hl=>by
  obtain ⟨x,h1,h2⟩:=h.all i l hl
  exact ⟨x,h1,hS.row hk h2 (by decide)⟩⟩
theorem OfTy.rowL {S:Nat→Prop} {w w':World} {v:Value} {ds:List (ND × Nat)} {xs:List Value} (hS:OfTy S w 9) (hk:Kept S w w') (h:RowL w v ds xs):RowL w' v ds xs :=
 ⟨hS.row hk h.owns (by decide),fun i d hd=>by
  obtain ⟨x0,x1,x2,x3,y0,y1,y2,y3,y4,n,h1,h2⟩:=h.all i d hd
  exact ⟨x0,x1,x2,x3,y0,y1,y2,y3,y4,n,⟨hS.terms hk h1.goals,hS.terms hk h1.vals,hS.terms hk h1.done⟩,h2⟩⟩
theorem CSr.texts {w0 w w':World} {b:Nat} {x0 x:CX} {cs:List Cls} {a:List (List Sym) × Names} {m0 m:SN} {S:Nat→Prop} (h0:CSr w0 b x0 cs a m0) (hK0:Kept (ownS b x0) w0 w) (h:CSr w b x cs a m) (hN:Zhj w0 x0 x) (hk:Kept S w w') (hS:OfTy S w 9) (hge:∀ k,S k→w0.heap.size≤k):CSr w' b x cs a m:=by
 have hK:Kept (ownS b x0) w0 w':=hK0.then hk (fun i hi hs=>absurd (hge i hs) (by omega))
 obtain ⟨xs,h1⟩:=h0.prog
 obtain ⟨ys,h2⟩:=h.way
 obtain ⟨_,e1,e2,e3,e4⟩:=hN
 refine ⟨hS.block hk h.box (by decide),⟨xs,by rw [e1,e2]; exact h0.offS.prog hK h1⟩,by rw [e3,e4]; exact h0.offS.own (by simp [Zcm]) hK h0.names,⟨ys,hS.rowL hk h2⟩,fun hs => ?_⟩
 obtain ⟨⟨n,g1,g2⟩,g3⟩:=h.found hs
 exact ⟨⟨n,hS.terms hk g1,g2⟩,hS.row hk g3 (by decide)⟩
theorem CSr.not {w:World} {b k:Nat} {x:CX} {cs:List Cls} {a:List (List Sym) × Names} {m:SN} {cl:Array Value} {t:TypeId} {fr:Nat × Nat} (h:CSr w b x cs a m) (hb:w.heap[k]?=some (.cells cl t fr)) (h1:t≠112) (h2:t≠135):¬ ownS b x k:=by
 rintro (rfl | hk)
 ·have:=h.box
  rw [hb] at this
  simp at this
  exact h1 this.2.1
 ·obtain ⟨ys,h3⟩:=h.way
  obtain ⟨cl',fr',h4⟩:=Zxp h3.owns k (Zlm.2 hk)
  rw [hb] at h4
  simp at h4
  exact h2 h4.2.1
structure AftAt (w0 w:World) (b bt:Nat) (x0 x:CX) (cs:List Cls) (a:List (List Sym) × Names) (m:SN) (c0 c1:Value) (tr st:Nat) (av:Value) (A:List (List UInt8)) (wv:Value) (W:List (List UInt8)):Prop where
 kept:Kept (ownS b x0) w0 w
 sr0:∃ m0,CSr w0 b x0 cs a m0
 sr:CSr w b x cs a m
 new:Zhj w0 x0 x
 inv:InvN cs a m
 fw:Zgf m
 bt0:w0.heap.size≤bt
 box:w.heap[bt]?=some (.cells #[c0,c1,.int .i64 tr,.int .i64 st,.string ⟨#[]⟩] 49 (0,0))
 ans:w.ownsRow w0.heap.size 9 1 av A.length (strs A)
 wts:w.ownsRow w0.heap.size 9 1 wv W.length (strs W)
 ap:∀ k,Zbo av k→¬ Zbo wv k
theorem AftAt.ext {w0 w w':World} {b bt:Nat} {x0 x:CX} {cs:List Cls} {a:List (List Sym) × Names} {m:SN} {c0 c1:Value} {tr st:Nat} {av:Value} {A:List (List UInt8)} {wv:Value} {W:List (List UInt8)} (h:AftAt w0 w b bt x0 x cs a m c0 c1 tr st av A wv W) (e:Ext w w'):AftAt w0 w' b bt x0 x cs a m c0 c1 tr st av A wv W :=
 ⟨h.kept.trans (Zui e),h.sr0,h.sr.ext e,h.new,h.inv,h.fw,h.bt0,(e.block _ (Zab h.box)).trans h.box,Zah h.ans (fun k hk=>e.block k (h.ans.lt k hk).2),Zah h.wts (fun k hk=>e.block k (h.wts.lt k hk).2),h.ap⟩
theorem AftAt.step {w0 w w':World} {b bt:Nat} {x0 x x':CX} {cs:List Cls} {a:List (List Sym) × Names} {m:SN} {c0 c1:Value} {tr st n:Nat} {av:Value} {A:List (List UInt8)} {wv:Value} {W:List (List UInt8)} (h:AftAt w0 w b bt x0 x cs a m c0 c1 tr st av A wv W) (hcl:cs.length≤24) (hK:Kept (ownS b x) w w') (hC:CSr w' b x' cs a (Zaz cs n m).1) (hN:Zhj w x x'):AftAt w0 w' b bt x0 x' cs a (Zaz cs n m).1 c0 c1 tr st av A wv W:=by
 refine ⟨h.kept.then hK (fun i hi ho=>Yfq h.new hi ho),h.sr0,hC,⟨fun k hk => ?_,hN.2.1.trans h.new.2.1,hN.2.2.1.trans h.new.2.2.1,hN.2.2.2.1.trans h.new.2.2.2.1,hN.2.2.2.2.trans h.new.2.2.2.2⟩,h.inv.step hcl,Zvm h.fw,h.bt0,?_,h.sr.offS.own (by simp [Zcm]) hK h.ans,h.sr.offS.own (by simp [Zcm]) hK h.wts,h.ap⟩
 ·rcases hN.1 k hk with h1 | h1
  ·exact h.new.1 k h1
  ·exact Or.inr (by have:=h.kept.size; omega)
 ·exact (hK.block bt (Zab h.box) (h.sr.not h.box (by decide) (by decide))).trans h.box
theorem AftAt.put {w0 w w':World} {b bt:Nat} {x0 x:CX} {cs:List Cls} {a:List (List Sym) × Names} {m:SN} {c0 c1 c0' c1':Value} {tr st tr' st':Nat} {av:Value} {A:List (List UInt8)} {wv:Value} {W:List (List UInt8)} (h:AftAt w0 w b bt x0 x cs a m c0 c1 tr st av A wv W) (hK:Kept (only bt) w w')
  (hb:w'.heap[bt]?=some (.cells #[c0',c1',.int .i64 tr',.int .i64 st',.string ⟨#[]⟩] 49 (0,0))):AftAt w0 w' b bt x0 x cs a m c0' c1' tr' st' av A wv W:=by
 have hS:OfTy (only bt) w 49:=fun k e=>by
  have e:k=bt:=e
  subst e
  exact ⟨_,_,h.box⟩
 have hO:OffCode (only bt) w:=fun k e=>by
  obtain ⟨cl,fr,h1⟩:=hS k e
  exact ⟨_,_,_,h1,by simp [Zcm]⟩
 refine ⟨h.kept.then hK (fun i hi e => ?_),h.sr0,h.sr.keep hK hO (fun k hk e => ?_),h.new,h.inv,h.fw,h.bt0,hb,hS.row hK h.ans (by decide),hS.row hK h.wts (by decide),h.ap⟩
 ·have e:i=bt:=e
  have:=h.bt0
  omega
 ·have e:k=bt:=e
  subst e
  exact h.sr.not h.box (by decide) (by decide) hk
theorem AftAt.app1 {w0 w w':World} {b bt:Nat} {x0 x:CX} {cs:List Cls} {a:List (List Sym) × Names} {m:SN} {c0 c1:Value} {tr st:Nat} {av av':Value} {A:List (List UInt8)} {X:List UInt8} {wv:Value} {W:List (List UInt8)} (h:AftAt w0 w b bt x0 x cs a m c0 c1 tr st av A wv W) (hA:Appended w w0.heap.size 9 1 av (A.length+1) (strs A++[.string ⟨X.toArray⟩]) av' w') :
  AftAt w0 w' b bt x0 x cs a m c0 c1 tr st av' (A++[X]) wv W:=by
 have hS:OfTy (Zbo av) w 9:=Zxp h.ans
 have hge:∀ k,Zbo av k→w0.heap.size≤k:=fun k hk=>(h.ans.lt k hk).1
 obtain ⟨m0,h0⟩:=h.sr0
 refine ⟨h.kept.then hA.kept (fun i hi e=>absurd (hge i e) (by omega)),h.sr0,h0.texts h.kept h.sr h.new hA.kept hS hge,h.new,h.inv,h.fw,h.bt0,hS.block hA.kept h.box (by decide),?_,?_,fun k hk hk2 => ?_⟩
 ·have:=hA.owns
  simpa [strs] using this
 ·exact Zah h.wts (fun k hk=>hA.kept.block k (h.wts.lt k hk).2 (fun e=>h.ap k e hk))
 ·rcases hA.where_ with e | ⟨g,e,hg⟩
  ·exact h.ap k (by unfold Zbo at hk ⊢; rw [← e]; exact hk) hk2
  ·unfold Zbo at hk
   rw [e] at hk
   simp at hk
   have:=(h.wts.lt k hk2).2
   omega
theorem AftAt.app2 {w0 w w':World} {b bt:Nat} {x0 x:CX} {cs:List Cls} {a:List (List Sym) × Names} {m:SN} {c0 c1:Value} {tr st:Nat} {av wv':Value} {A:List (List UInt8)} {X:List UInt8} {wv:Value} {W:List (List UInt8)} (h:AftAt w0 w b bt x0 x cs a m c0 c1 tr st av A wv W) (hA:Appended w w0.heap.size 9 1 wv (W.length+1) (strs W++[.string ⟨X.toArray⟩]) wv' w') :
  AftAt w0 w' b bt x0 x cs a m c0 c1 tr st av A wv' (W++[X]):=by
 have hS:OfTy (Zbo wv) w 9:=Zxp h.wts
 have hge:∀ k,Zbo wv k→w0.heap.size≤k:=fun k hk=>(h.wts.lt k hk).1
 obtain ⟨m0,h0⟩:=h.sr0
 refine ⟨h.kept.then hA.kept (fun i hi e=>absurd (hge i e) (by omega)),h.sr0,h0.texts h.kept h.sr h.new hA.kept hS hge,h.new,h.inv,h.fw,h.bt0,hS.block hA.kept h.box (by decide),?_,?_,fun k hk hk2 => ?_⟩
 ·exact Zah h.ans (fun k hk=>hA.kept.block k (h.ans.lt k hk).2 (fun e=>h.ap k hk e))
 ·have:=hA.owns
  simpa [strs] using this
 ·rcases hA.where_ with e | ⟨g,e,hg⟩
  ·exact h.ap k hk (by unfold Zbo at hk2 ⊢; rw [← e]; exact hk2)
  ·unfold Zbo at hk2
   rw [e] at hk2
   simp at hk2
   have:=(h.ans.lt k hk).2
   omega
end Go.Proofs.YtlmjilpjmgjjcaaGreatDoor
