/-
  PROVED HERE: what the program's 'node.Top' lays for a query (the conditions stand in the statement).
-/
import Derived.Test.YtlmjilpjmgjjcabGreatDoorT6
set_option linter.unusedSimpArgs false
set_option linter.unusedVariables false
set_option maxRecDepth 10000
set_option maxHeartbeats 4000000
namespace Go.Proofs.YtlmjilpjmgjjcabGreatDoor
open Go.RowKit
inductive Ph where
 | rd (lo hi:Nat) (g:List Value→Value)
 | st (p:Nat)
 | no
def Ph.val (vs:List Value):Ph→Value
 | .rd lo _ g=>g (vs.take lo)
 | .st p=>vs.getD p undef
 | .no=>undef
def Ph.due:Ph→Nat
 | .rd lo _ _=>lo
 | .st p=>p+1
 | .no=>0
def Ph.kd (vs:List Value) (q:Ph):Kd := .pur (q.val vs)
def Ph.isSt (p:Nat):Ph→Bool
 | .st r=>r == p
 | _=>false
abbrev phA (a0:Act) (vs:List Value) (lst:Nat→Bool) (ops:List Oper) (ph:List Ph):Act:=pa a0 undef noB lst 0 ops (ph.map (Ph.kd vs))
abbrev phAll (a0:Act) (ops:List Oper) (ph:List Ph) (vs:List Value):Act:=phA a0 vs (fun _=>true) ops ph
theorem Ztg {a0:Act} {lst:Nat→Bool} {f f':Ph→Kd}:∀ {ops:List Oper} {ph:List Ph} {k:Nat},(∀ j q,ph[j]?=some q→lst (k+j)=true→(f q).val undef noB (k+j)=(f' q).val undef noB (k+j)) →
  pa a0 undef noB lst k ops (ph.map f)=pa a0 undef noB lst k ops (ph.map f'):=by
 intro ops
 induction ops with
 | nil=>intro ph k _; simp [pa]
 | cons o os ih =>
  intro ph k h
  cases ph with
  | nil=>simp [pa]
  | cons q qs =>
   have h0:=h 0 q rfl
   simp only [Nat.add_zero] at h0
   have ih':=ih (ph:=qs) (k:=k+1) (fun j r hr=>by
    have:=h (j+1) r (by simpa using hr)
    have e:k+1+j=k+(j+1):=by omega
    rw [e]; exact this)
   simp only [List.map_cons]
   rw [pa,pa,ih']
   split
   ·rename_i hk; rw [h0 hk]
   ·rfl
def Zkn (ops:List Oper):Nat→Nat→Nat→Bool
 | 0,_,_=>false
 | n+1,i,j=>match ops[i]? with
  | some o=>Zdy o j || (List.range i).any fun k=>Zdy o k && Zkn ops n k j
  | none=>false
theorem Zlw {ops:List Oper} {L:Nat→Bool} (hcl:∀ (i:Nat) o,ops[i]?=some o→L i=true→∀ j,Zdy o j=true→L j=true):∀ (n i j:Nat),Zkn ops n i j=true→L i=true→L j=true:=by
 intro n
 induction n with
 | zero=>intro i j h; simp [Zkn] at h
 | succ n ih =>
  intro i j h hl
  unfold Zkn at h
  cases ho:ops[i]? with
  | none=>rw [ho] at h; simp at h
  | some o =>
   rw [ho] at h
   simp only [Bool.or_eq_true,List.any_eq_true,List.mem_range,Bool.and_eq_true] at h
   rcases h with h | ⟨k,_,h1,h2⟩
   ·exact hcl i o ho hl j h
   ·exact ih k j h2 (hcl i o ho hl k h1)
theorem Yag {ops:List Oper} {L:Nat→Bool} (hcl:∀ (i:Nat) o,ops[i]?=some o→L i=true→∀ j,Zdy o j=true→L j=true) {n i j:Nat} {o:Oper} (ho:ops[i]?=some o) (hw:∀ k,Zdy o k=true→L k=true) (h:Zkn ops n i j=true):L j=true:=by
 cases n with
 | zero=>simp [Zkn] at h
 | succ n =>
  unfold Zkn at h
  rw [ho] at h
  simp only [Bool.or_eq_true,List.any_eq_true,List.mem_range,Bool.and_eq_true] at h
  rcases h with h | ⟨k,_,h1,h2⟩
  ·exact hw j h
  ·exact Zlw hcl n k j h2 (hw k h1)
def Yah (ph:List Ph) (p:Nat) (f:Nat→Bool):Bool:=(List.range ph.length).any fun j=>(match ph[j]? with | some r=>r.isSt p | none=>false) && f j
theorem Zko {ph:List Ph} {p:Nat} {f:Nat→Bool} (h:Yah ph p f=true):∃ j,ph[j]?=some (.st p)∧f j=true:=by
 unfold Yah at h
 simp only [List.any_eq_true,List.mem_range,Bool.and_eq_true] at h
 obtain ⟨j,_,h1,h2⟩:=h
 cases hr:ph[j]? with
 | none=>rw [hr] at h1; simp at h1
 | some r =>
  rw [hr] at h1
  cases r with
  | st q =>
   simp only [Ph.isSt,beq_iff_eq] at h1
   subst h1
   exact ⟨j,hr,h2⟩
  | _=>simp [Ph.isSt] at h1
def Zxi (T:Nat) (ops:List Oper) (ph:List Ph) (m n:Nat):Bool :=
 (ops.length == ph.length && (List.range m).all fun p=>Yah ph p (fun _=>true)) &&
 (List.range ops.length).all fun i=>match ops[i]?,ph[i]? with
  | some o,some q =>
   (match o.guard with
    | none=>true
    | some (j,_)=>Zdy o j && (match ops[j]? with
     | some p=>match p.dst with | some d=>decide (d<T) | none=>false
     | _=>false)) && (match o.op with | .select .. => false | _=>true) &&
   (o.after.all fun e => !Region.binds .any e || e.on<i) &&
   ((List.range ops.length).all fun j=>match ops[j]? with
    | some p=>match p.dst with
     | some d=>((j == i) || (o.dst != some d)) && (!(o.looksAt ops.toArray).contains d || Zdy o j)
     | none=>true
    | none=>true) &&
   (match q with
    | .rd lo hi _=>(lo == 0 || Yah ph (lo - 1) (fun j=>Zkn ops n i j)) && (decide (m≤hi) || Yah ph hi (fun j=>Zkn ops n j i))
    | .st p=>decide (p<m) && (p == 0 || Yah ph (p - 1) (fun j=>Zkn ops n i j)) && ((List.range ops.length).all fun j=>j == i || (match ph[j]? with | some r => !r.isSt p | none=>true))
    | .no=>o.guard.isSome)
  | _,_=>false
structure PhAt (T:Nat) (ops:List Oper) (ph:List Ph) (m n i:Nat) (o:Oper) (q:Ph):Prop where
 gd:o.guard=none∨∃ j b p d,o.guard=some (j,b)∧Zdy o j=true∧ops[j]?=some p∧p.dst=some d∧d<T
 sel:∀ cs b,o.op ≠ .select cs b
 low:∀ e ∈ o.after,Region.binds .any e=true→e.on<i
 dst:∀ j p d,ops[j]?=some p→p.dst=some d→j=i∨o.dst≠some d
 look:∀ j p d,ops[j]?=some p→p.dst=some d→d ∈ o.looksAt ops.toArray→Zdy o j=true
 rdl:∀ lo hi g,q = .rd (lo+1) hi g→∃ j,ph[j]?=some (.st lo)∧Zkn ops n i j=true
 rdh:∀ lo hi g,q = .rd lo hi g→m≤hi∨∃ j,ph[j]?=some (.st hi)∧Zkn ops n j i=true
 stm:∀ p,q = .st p→p<m
 stl:∀ p,q = .st (p+1)→∃ j,ph[j]?=some (.st p)∧Zkn ops n i j=true
 stu:∀ p,q = .st p→∀ j,ph[j]?=some (.st p)→j=i
 ng:q = .no→o.guard≠none
theorem Yhe {T:Nat} {ops:List Oper} {ph:List Ph} {m n:Nat} (h:Zxi T ops ph m n=true) {i:Nat} {o:Oper} (ho:ops[i]?=some o):∃ q,ph[i]?=some q∧PhAt T ops ph m n i o q:=by
 unfold Zxi at h
 simp only [Bool.and_eq_true,List.all_eq_true,List.mem_range,beq_iff_eq] at h
 obtain ⟨⟨hl,_⟩,h⟩:=h
 have hi:=(Qa.1 ho).1
 have h:=h i hi
 rw [ho] at h
 cases hq:ph[i]? with
 | none=>rw [hq] at h; simp at h
 | some q =>
  rw [hq] at h
  simp only [Bool.and_eq_true,List.all_eq_true,List.mem_range] at h
  obtain ⟨⟨⟨⟨h1,h2⟩,h3⟩,h4⟩,h5⟩:=h
  refine ⟨q,rfl,?_,?_,?_,?_,?_,?_,?_,?_,?_,?_,?_⟩
  ·cases hgd:o.guard with
   | none=>exact Or.inl rfl
   | some jb =>
    obtain ⟨j,b⟩:=jb
    rw [hgd] at h1
    simp only [Bool.and_eq_true] at h1
    obtain ⟨h6,h7⟩:=h1
    cases hp:ops[j]? with
    | none=>rw [hp] at h7; simp at h7
    | some p =>
     rw [hp] at h7
     simp only at h7
     cases hd:p.dst with
     | none=>rw [hd] at h7; simp at h7
     | some d =>
      rw [hd] at h7
      exact Or.inr ⟨j,b,p,d,rfl,h6,hp,hd,by simpa using h7⟩
  ·intro cs b e; rw [e] at h2; simp at h2
  ·intro e he hb
   have:=Array.all_eq_true_iff_forall_mem.1 h3 e he
   simpa [hb] using this
  ·intro j p d hp hd
   have:=h4 j (Qa.1 hp).1
   rw [hp] at this
   simp only [hd,Bool.and_eq_true,Bool.or_eq_true,beq_iff_eq,bne_iff_ne] at this
   exact this.1
  ·intro j p d hp hd hm
   have:=h4 j (Qa.1 hp).1
   rw [hp] at this
   simp only [hd,Bool.and_eq_true,Bool.or_eq_true,beq_iff_eq,bne_iff_ne] at this
   rcases this.2 with h | h
   ·simp [hm] at h
   ·exact h
  ·intro lo hi g e
   subst e
   simp only [Bool.and_eq_true,Bool.or_eq_true] at h5
   rcases h5.1 with h | h
   ·simp at h
   ·exact Zko h
  ·intro lo hi g e
   subst e
   simp only [Bool.and_eq_true,Bool.or_eq_true,decide_eq_true_eq] at h5
   rcases h5.2 with h | h
   ·exact Or.inl h
   ·exact Or.inr (Zko h)
  ·intro p e
   subst e
   simp only [Bool.and_eq_true,decide_eq_true_eq] at h5
   exact h5.1.1
  ·intro p e
   subst e
   simp only [Bool.and_eq_true,Bool.or_eq_true] at h5
   rcases h5.1.2 with h | h
   ·simp at h
   ·exact Zko h
  ·intro p e j hj
   subst e
   simp only [Bool.and_eq_true,List.all_eq_true,List.mem_range,Bool.or_eq_true,beq_iff_eq] at h5
   rcases h5.2 j (by have:=(Qa.1 hj).1; omega) with h | h
   ·exact h
   ·rw [hj] at h; simp [Ph.isSt] at h
  ·intro e
   subst e
   intro hn
   rw [hn] at h5
   simp at h5
inductive StepOk (P:Program) (S:List Value→World→Prop) (vs:List Value) (u:World) (ev:Operand→Value) (o:Oper):Prop
 | value (v:Value) (w':World) (h:(execOp ev o).run P u = .ok (.value v) w') (hS:S (vs++[v]) w')
 | skip (w':World) (h:(execOp ev o).run P u = .ok .skip w') (hS:S (vs++[undef]) w')
 | call (f:FuncId) (args:Array Value) (u1:World) (h:(execOp ev o).run P u = .ok (.enter f args) u1) (hS:Calls P f args u1 (fun e u'=>∃ v,e = .returned v∧S (vs++[v]) u'))
 | row (f:String) (args:Array Value) (u1:World) (h:(execOp ev o).run P u = .ok (.row f args) u1) (hS:Rows P f args u1 (fun v u'=>S (vs++[v]) u'))
def ObP (P:Program) (S:List Value→World→Prop) (FA:List Value→Act) (ph:List Ph) (o:Oper) (q:Ph):Prop :=
 (match o.guard with
  | none=>True
  | some (j,b)=>match ph[j]? with
   | none=>False
   | some r=>∀ vs u,r.due≤vs.length→S vs u→(match q with | .no=>r.val vs ≠ .bool b | _=>r.val vs = .bool b)) ∧
 (match q with
  | .rd lo hi g=>∀ vs u,lo≤vs.length→vs.length≤hi→S vs u→(execOp (FA vs).eval o).run P u = .ok (.value (g (vs.take lo))) u
  | .st p=>∀ vs u,vs.length=p→S vs u→StepOk P S vs u (FA vs).eval o
  | .no=>True)
def AllObP (P:Program) (S:List Value→World→Prop) (FA:List Value→Act) (ph0:List Ph):List Oper→List Ph→Prop
 | o::os,q::qs=>ObP P S FA ph0 o q∧AllObP P S FA ph0 os qs
 | _,_=>True
theorem AllObP.at {P:Program} {S:List Value→World→Prop} {FA:List Value→Act} {ph0:List Ph}:∀ {ops:List Oper} {ks:List Ph},AllObP P S FA ph0 ops ks →
  ∀ {i:Nat} {o:Oper} {q:Ph},ops[i]?=some o→ks[i]?=some q→ObP P S FA ph0 o q:=by
 intro ops
 induction ops with
 | nil=>intro ks _ i o q h; simp at h
 | cons p os ih =>
  intro ks h i o q ho hq
  cases ks with
  | nil=>simp at hq
  | cons r qs =>
   cases i with
   | zero=>simp at ho hq; subst ho hq; exact h.1
   | succ i=>exact ih h.2 (i:=i) (by simpa using ho) (by simpa using hq)
structure PhPlan (ops:List Oper) (ph:List Ph) (m:Nat) (a0:Act) (S:List Value→World→Prop) (L:Array Bool) (a:Act) (w:World):Prop where
 size:L.size=ops.length
 closed:∀ (i:Nat) o,ops[i]?=some o→L.getD i false=true→∀ j,Zdy o j=true→L.getD j false=true
 st:∃ vs,a=phA a0 vs (fun j=>L.getD j false) ops ph∧S vs w∧vs.length≤m∧(∀ (i p:Nat),ph[i]?=some (Ph.st p)→(L.getD i false=true↔p<vs.length))∧(∀ (i:Nat) q,ph[i]?=some q→L.getD i false=true→q.due≤vs.length)
theorem Zgg {P:Program} {ops:List Oper} {id:Nat} {Q:Exit→Act→World→Prop} {a0:Act} {w:World} (hm:P.follows .mixedOrders=true) (ph:List Ph) (m n:Nat) (hfit:Zxi a0.tmps.size ops ph m n=true)
  (S:List Value→World→Prop) (hS0:S [] w.drew) (hob:AllObP P S (fun vs=>phAll a0 ops ph vs) ph ops ph)
  (hQ:∀ vs u,vs.length=m→S vs u→Q .normal (phAll a0 ops ph vs) u) :
  (Code.region id ops.toArray true).wp P Q a0 w:=by
 have hlen:ops.length=ph.length∧∀ p,p<m→∃ j:Nat,ph[j]?=some (Ph.st p):=by
  unfold Zxi at hfit
  simp only [Bool.and_eq_true,beq_iff_eq,List.all_eq_true,List.mem_range] at hfit
  exact ⟨hfit.1.1,fun p hp=>by obtain ⟨j,h,_⟩:=Zko (hfit.1.2 p hp); exact ⟨j,h⟩⟩
 obtain ⟨hlen,hall⟩:=hlen
 have hkat:∀ {i':Nat} {q':Ph},ph[i']?=some q'→∃ o',ops[i']?=some o'∧PhAt a0.tmps.size ops ph m n i' o' q':=fun {i' q'} h1=>by
  have ho:=Qb (l:=ops) (i:=i') (by have:=(Qa.1 h1).1; omega)
  obtain ⟨q2,hq2,hF2⟩:=Yhe hfit ho
  rw [h1] at hq2; simp at hq2; subst hq2
  exact ⟨_,ho,hF2⟩
 refine wp_region_any hm (Zmz (J:=PhPlan ops ph m a0 S) ?_ ?_ _ _ _ _ ?_ ?_)
 ·intro L a u i hr hJ
  obtain ⟨hsz,hcl,vs,rfl,hS,hvm,hst,hdue⟩:=hJ
  obtain ⟨h0,o,ho',_⟩:=mem_ready.1 hr
  have ho:ops[i]?=some o:=by simpa using ho'
  have hi:i<ops.length:=(Qa.1 ho).1
  have hil:i<L.size:=by omega
  have hun:L.getD i false=false:=by simp [hil] at h0 ⊢; exact h0
  obtain ⟨q,hq,hF⟩:=Yhe hfit ho
  have hOb:=hob.at ho hq
  have hw1:∀ k,Zdy o k=true→L.getD k false=true:=fun k hk=>Zcm hr ho hk
  have hexec:execOp (phA a0 vs (fun j=>L.getD j false) ops ph).eval o=execOp (phAll a0 ops ph vs).eval o:=by
   refine execOp_congr o hF.sel (fun x hx=>Zur (fun j p hp hl d hd e => ?_))
   subst e
   have hw:=hF.look j p d hp hd (List.mem_append_left _ (List.mem_filterMap.2 ⟨.tmp d,by simpa using hx,rfl⟩))
   have:=Zcm hr ho hw
   simp only [Nat.zero_add] at hl
   rw [hl] at this
   simp at this
  have hyield:∀ j b,o.guard=some (j,b)→∃ r,ph[j]?=some r∧r.due≤vs.length∧yielded ops.toArray (phA a0 vs (fun j=>L.getD j false) ops ph).tmps j=(match r.val vs with | .bool c=>some c | _=>none):=by
   intro j b hg
   rcases hF.gd with hg' | ⟨j',b',p,d,hg',h1,h3,h4,h5⟩
   ·rw [hg'] at hg; simp at hg
   ·rw [hg'] at hg
    simp only [Qo,Prod.mk.injEq] at hg
    obtain ⟨rfl,rfl⟩:=hg
    obtain ⟨r,hr',hF'⟩:=Yhe hfit h3
    have hk:(ph.map (Ph.kd vs))[j']?=some (r.kd vs):=by simp [hr']
    have ht:=Ylj (a0:=a0) (vc:=undef) (β:=noB) (lst:=fun j=>L.getD j false) (k:=0) h3 hk (by simpa using hw1 j' h1) h4 (fun j2 p' h6 h7=>by
     rcases hF'.dst j2 p' d h6 h7 with h | h
     ·exact h
     ·exact absurd h4 h) h5
    refine ⟨r,hr',hdue j' r hr' (hw1 j' h1),?_⟩
    unfold yielded
    simp only [List.getElem?_toArray,h3,Option.bind_some,h4,ht,Kd.val,Ph.kd]
    cases r.val vs <;> rfl
  have hL:=Zjl hil
  have hold:∀ j,L.getD j false=true→(L.setIfInBounds i true).getD j false=true:=fun j h=>by rw [hL,h]; rfl
  have hnew:∀ j,j≠i→(L.setIfInBounds i true).getD j false=L.getD j false:=fun j h=>by
   rw [hL]
   have:(j == i)=false:=by rw [Qu]; exact h
   simp [this]
  have hput:∀ vs',(∀ j r,ph[j]?=some r→L.getD j false=true→r.val vs=r.val vs') →
    (phA a0 vs (fun j=>L.getD j false) ops ph).put o.dst (q.val vs')=phA a0 vs' (fun j=>(L.setIfInBounds i true).getD j false) ops ph:=by
   intro vs' hv
   have e1:phA a0 vs (fun j=>L.getD j false) ops ph=phA a0 vs' (fun j=>L.getD j false) ops ph:=Ztg (fun j r hr' hl=>by
    simp only [Nat.zero_add] at hl
    exact hv j r hr' hl)
   rw [e1]
   have hk:(ph.map (Ph.kd vs'))[i]?=some (q.kd vs'):=by simp [hq]
   have e2:=Ydh (a0:=a0) (vc:=undef) (β:=noB) (lst:=fun j=>L.getD j false) (k:=0) ho hk (by simpa using hun) hF.dst
   simp only [Nat.zero_add] at e2
   have e3:(q.kd vs').val undef noB i=q.val vs':=rfl
   rw [e3] at e2
   show (pa a0 undef noB (fun j=>L.getD j false) 0 ops (ph.map (Ph.kd vs'))).put o.dst (q.val vs')=_
   rw [← e2]
   exact Zfs (fun j r hr'=>⟨by simp only [Nat.zero_add,hL],fun _=>rfl⟩)
  have hcl':∀ (i':Nat) o',ops[i']?=some o'→(L.setIfInBounds i true).getD i' false=true→∀ j,Zdy o' j=true→(L.setIfInBounds i true).getD j false=true:=by
   intro i' o' h1 h2 j hj
   by_cases e:i'=i
   ·subst e
    rw [ho] at h1; simp at h1; subst h1
    exact hold _ (Zcm hr ho hj)
   ·exact hold _ (hcl i' o' h1 ((hnew i' e).symm.trans h2) j hj)
  have hreach:∀ j,Zkn ops n i j=true→L.getD j false=true:=fun j h=>Yag (L:=fun j=>L.getD j false) hcl ho hw1 h
  -- the operation turns no memory
  have hkeep:(∀ p,q ≠ .st p)→q.due≤vs.length→PhPlan ops ph m a0 S (L.setIfInBounds i true) ((phA a0 vs (fun j=>L.getD j false) ops ph).put o.dst (q.val vs)) u:=fun hns hqd=>by
   refine ⟨by simpa using hsz,hcl',vs,hput vs (fun _ _ _ _=>rfl),hS,hvm,?_,?_⟩
   ·intro i' p h1
    have hne:i'≠i:=fun e=>by subst e; rw [hq] at h1; exact hns p (Option.some.inj h1)
    rw [hnew i' hne]
    exact hst i' p h1
   ·intro i' q' h1 h2
    by_cases e:i'=i
    ·subst e; rw [hq] at h1; simp at h1; subst h1; exact hqd
    ·exact hdue i' q' h1 ((hnew i' e).symm.trans h2)
  unfold wpOp
  simp only [ho']
  by_cases hqn:q = .no
  ·subst hqn
   cases hg:o.guard with
   | none=>exact absurd hg (hF.ng rfl)
   | some jb =>
    obtain ⟨j,b⟩:=jb
    obtain ⟨r,hr',hd,hy⟩:=hyield j b hg
    have hO:=hOb.1
    rw [hg] at hO
    simp only [hr'] at hO
    have hv:=hO vs u hd hS
    have hwant:Region.wanted o (yielded ops.toArray (phA a0 vs (fun j=>L.getD j false) ops ph).tmps)=false:=by
     unfold Region.wanted
     rw [hg]
     simp only
     rw [hy]
     cases hrv:r.val vs with
     | bool c =>
      rw [hrv] at hv
      have:c≠b:=fun e=>hv (by rw [e])
      simpa using this
     | _=>simp
    rw [if_neg (by rw [hwant]; simp)]
    exact hkeep (fun p=>by simp) (Qm _)
  ·have hwant:Region.wanted o (yielded ops.toArray (phA a0 vs (fun j=>L.getD j false) ops ph).tmps)=true:=by
    cases hg:o.guard with
    | none=>simp [Region.wanted,hg]
    | some jb =>
     obtain ⟨j,b⟩:=jb
     obtain ⟨r,hr',hd,hy⟩:=hyield j b hg
     have hO:=hOb.1
     rw [hg] at hO
     simp only [hr'] at hO
     have hv:=hO vs u hd hS
     have hv':r.val vs = .bool b:=by cases q <;> first | exact hv | exact absurd rfl hqn
     unfold Region.wanted
     rw [hg]
     simp only
     rw [hy,hv']
     simp
   rw [if_pos hwant]
   refine Or.inl ?_
   unfold Oper.wp
   rw [hexec]
   cases q with
   | no=>exact absurd rfl hqn
   | rd lo hi g =>
    have hlo:lo≤vs.length:=by
     cases lo with
     | zero=>exact Qm _
     | succ lo =>
      obtain ⟨j,h1,h2⟩:=hF.rdl lo hi g rfl
      exact (hst j lo h1).1 (hreach j h2)
    have hhi:vs.length≤hi:=by
     rcases hF.rdh lo hi g rfl with h | ⟨j,h1,h2⟩
     ·omega
     ·rcases Nat.lt_or_ge hi vs.length with h | h
      ·have hj:=(hst j hi h1).2 h
       have:=Zlw (L:=fun j=>L.getD j false) hcl n j i h2 hj
       rw [hun] at this; simp at this
      ·exact h
    have hO:(execOp (phAll a0 ops ph vs).eval o).run P u=_:=hOb.2 vs u hlo hhi hS
    rw [hO]
    exact hkeep (fun p=>by simp) hlo
   | st p =>
    have hpv:vs.length=p:=by
     have h1:¬ p<vs.length:=fun h=>by
      have:=(hst i p hq).2 h
      rw [hun] at this; simp at this
     cases p with
     | zero=>omega
     | succ p =>
      obtain ⟨j,h2,h3⟩:=hF.stl p rfl
      have:=(hst j p h2).1 (hreach j h3)
      omega
    have hpm:=hF.stm p rfl
    have hstep:∀ v u',S (vs++[v]) u'→PhPlan ops ph m a0 S (L.setIfInBounds i true) ((phA a0 vs (fun j=>L.getD j false) ops ph).put o.dst v) u':=by
     intro v u' hS'
     have hval:(Ph.st p).val (vs++[v])=v:=by
      subst hpv
      simp [Ph.val]
     refine ⟨by simpa using hsz,hcl',vs++[v],?_,hS',by simp; omega,?_,?_⟩
     ·rw [← hput (vs++[v]) ?_,hval]
      intro j r h1 h2
      have hd:=hdue j r h1 h2
      cases r with
      | rd lo hi g =>
       simp only [Ph.due] at hd
       simp only [Ph.val]
       rw [List.take_append_of_le_length hd]
      | st p' =>
       simp only [Ph.due] at hd
       simp only [Ph.val,List.getD_eq_getElem?_getD]
       rw [Qc (by omega)]
      | no=>rfl
     ·intro i' p' h1
      by_cases e:i'=i
      ·subst e
       rw [hq] at h1
       simp at h1
       subst h1
       rw [hL]
       simp
       omega
      ·rw [hnew i' e,hst i' p' h1]
       have hne:p'≠p:=fun e2=>by subst e2; exact e (hF.stu p' rfl i' h1)
       simp only [Qg,Qf,Jt]
       omega
     ·intro i' q' h1 h2
      simp only [Qg,Qf,Jt]
      by_cases e:i'=i
      ·subst e
       rw [hq] at h1; simp at h1; subst h1
       simp only [Ph.due]; omega
      ·have:=hdue i' q' h1 ((hnew i' e).symm.trans h2)
       omega
    have hO:StepOk P S vs u (phAll a0 ops ph vs).eval o:=hOb.2 vs u hpv hS
    cases hO with
    | value v w' h hS'=>rw [h]; exact hstep v w' hS'
    | skip w' h hS'=>rw [h]; exact hstep undef w' hS'
    | call f args u1 h hS' =>
     rw [h]
     refine hS'.mono ?_
     rintro e u' ⟨v,rfl,hr'⟩
     exact hstep v u' hr'
    | row f args u1 h hS' =>
     rw [h]
     exact hS'.mono (fun v u' hr'=>hstep v u' hr')
 ·intro L a u hr hJ
  obtain ⟨hsz,hcl,vs,rfl,hS,hvm,hst,hdue⟩:=hJ
  have hal:∀ i,i<ops.length→L.getD i false=true:=by
   intro i
   induction i using Nat.strongRecOn with
   | _ i ih =>
    intro hi
    cases hl:L.getD i false with
    | true=>rfl
    | false =>
     exfalso
     have ho:ops[i]?=some ops[i]:=Qb hi
     obtain ⟨q,hq,hF⟩:=Yhe hfit ho
     have:i ∈ Region.ready .any ops.toArray L:=by
      refine mem_ready.2 ⟨?_,ops[i],by simp,fun e he hb=>ih e.on (hF.low e he hb) (by have:=hF.low e he hb; omega)⟩
      have hi':i<L.size:=by omega
      simp [hi'] at hl ⊢
      exact hl
     rw [hr] at this
     simp at this
  have e:phA a0 vs (fun j=>L.getD j false) ops ph=phAll a0 ops ph vs:=Zfs (fun j r hr'=>⟨by
   simp only [Nat.zero_add]
   exact hal j (by have:=(Qa.1 hr').1; simp at this; omega),fun _=>rfl⟩)
  rw [e]
  refine hQ vs u ?_ hS
  rcases Nat.lt_or_ge vs.length m with h | h
  ·obtain ⟨j,hj⟩:=hall _ h
   have:=(hst j _ hj).1 (hal j (by have:=(Qa.1 hj).1; omega))
   omega
  ·omega
 ·have:(ops.toArray).size=ops.length:=by simp
  unfold unl
  exact Qq (List.length_filter_le _ _) (by simp)
 ·have hz:∀ j,(Array.replicate ops.toArray.size false).getD j false=false:=fun j=>by
   simp only [Array.getD_eq_getD_getElem?,Array.getElem?_replicate]
   split <;> rfl
  refine ⟨by simp,?_,[],?_,hS0,Qm _,?_,?_⟩
  ·intro i o _ h; rw [hz] at h; simp at h
  ·have:∀ (k:Nat) (os:List Oper) (qs:List Kd),pa a0 undef noB (fun j=>(Array.replicate ops.toArray.size false).getD j false) k os qs=a0:=by
    intro k os
    induction os generalizing k with
    | nil=>intro qs; simp [pa]
    | cons o os ih =>
     intro qs
     cases qs with
     | nil=>simp [pa]
     | cons q qs=>rw [pa,hz]; simp only [Bool.false_eq_true,if_false]; exact ih _ _
   exact (this _ _ _).symm
  ·intro i p _
   rw [hz]
   simp
  ·intro i q _ h; rw [hz] at h; simp at h
def SubAt (w:World) (l:List Sym) (ρ:Nat→Nat) (T:Nat→List Sym) (k:Nat) (tv:Value) (ts:List (List Sym)) (vs:List Value) (wr:World):Prop :=
 wr.heap[w.heap.size+1]?=some (.cells #[tv] 131 (0,0))∧TermsAt wr w.heap.size tv ts vs∧SubOk l ρ T k ts∧Ext w wr∧wr.heap[w.heap.size]?=some (.cells #[.slice none 0 0] 131 (0,0))∧ts.length≤200001
theorem SubAt.ext {w wr w1:World} {l:List Sym} {ρ:Nat→Nat} {T:Nat→List Sym} {k:Nat} {tv:Value} {ts:List (List Sym)} {vs:List Value} (h:SubAt w l ρ T k tv ts vs wr) (e:Ext wr w1):SubAt w l ρ T k tv ts vs w1:=by
 obtain ⟨h1,h2,h3,h4,h5,h6⟩:=h
 exact ⟨(e.block _ (Zab h1)).trans h1,h2.ext e,h3,h4.trans (e.mono h4.size),(e.block _ (Zab h5)).trans h5,h6⟩
theorem SubAt.to {w wr:World} {l:List Sym} {ρ:Nat→Nat} {T:Nat→List Sym} {k k':Nat} {tv:Value} {ts:List (List Sym)} {vs:List Value} (h:SubAt w l ρ T k tv ts vs wr) (g:SubOk l ρ T k' ts):SubAt w l ρ T k' tv ts vs wr:=⟨h.1,h.2.1,g,h.2.2.2⟩
def Ylm (l:List Sym) (ρ:Nat→Nat) (T:Nat→List Sym) (w:World) (e:Ending) (w':World):Prop:=∃ tv ts vs,e = .returned (.agg #[tv])∧TermsAt w' w.heap.size tv ts vs∧SubOk l ρ T l.length ts∧Ext w w'∧ts.length≤200001
def SubPh (w wr:World) (l:List Sym) (ρ:Nat→Nat) (T:Nat→List Sym) (k:Nat) (tv:Value) (ts:List (List Sym)):List Value→World→Prop
 | [],u=>u=wr.drew
 | [v],u=>Zjq (T (ρ k)) wr.drew (.returned v) u
 | [_,_],u=>∃ vs',SubAt w l ρ T (k+1) tv (ts.set (Zav l k).num (T (ρ k))) vs' u
 | _,_=>False
theorem SubPh.ext {w wr:World} {l:List Sym} {ρ:Nat→Nat} {T:Nat→List Sym} {k:Nat} {tv:Value} {ts:List (List Sym)}:∀ {vs:List Value} {u:World},SubPh w wr l ρ T k tv ts vs u→vs.length≤1→Ext wr.drew u
 | [],u,h,_=>by obtain rfl:u=wr.drew:=h; exact Ext.of (Qx _ _)
 | [v],u,h,_=>by obtain ⟨_,_,_,_,_,h⟩:=h; exact h
 | _::_::_,_,_,h=>by simp at h
theorem Zly (w:World) (gb:Nat) (v:Value) (gs:List GC) (l:List Sym) (ρ rk:Nat→Nat) (D:Nat→Prop) (T:Nat→List Sym) (h:GAt w gb v gs) (hc:CellsOf gs l) (hw:Wf 2 l) (hu:UpOk (gs.map GC.up) ρ rk) (hK:Known (grOf l) ρ D T) (hD:∀ i,i<gs.length→D (ρ i)) (hv:Vars (grOf l) ρ) (hl:gs.length≤4000) (hT:∀ i,i<gs.length→(Zav l i).name=[]→(T (ρ i)).length≤4000) (hn:∀ i,(Zav l i).num≤200000) :
  Calls Tryz.prog 74 #[.pointer (some ⟨gb,0,none⟩)] w (Ylm l ρ T w):=by
 have hpos:0<gs.length:=by have:=Zel hw; have:=hc.len; omega
 obtain ⟨cb,cap,rfl,hcb,hcap,hne,hfz⟩:=h.shape hpos
 have b0:w.cell? ⟨gb,0,none⟩=some (.slice (some ⟨cb,0,none⟩) gs.length cap):=Zaa h.box 0 _ rfl
 have hgb:=Zab h.box
 have H:=Zac h
 have Hc:=Zac hc
 have Hw:=Zac hw
 have Hu:=Zac hu
 have HK:=Zac hK
 have HD:=Zac hD
 have Hv:=Zac hv
 have HT:=Zac hT
 have Hn:=Zac hn
 clear h hc hw hu hK hD hv hT hn
 go_enter Tryz.func74,Tryz.ntmps74
 go_wp2
 go_loopg [12] (gs.length+1) (fun gk iv wr=>∃ (k:Nat) (tv:Value) (ts:List (List Sym)) (vs:List Value),iv = .int .i64 k∧k≤gs.length∧gs.length - k<gk∧SubAt w l ρ T k tv ts vs wr)
 case atStart=>exact ⟨0,.slice none 0 0,[],[],by go_num,Qm _,by omega,by have:=heap_alloc_new (w.alloc (.cells #[.slice none 0 0] 131)) (.cells #[.slice none 0 0] 131); simpa using this,TermsAt.nil _ _,SubOk.nil _ _ _,(Ext.of (by repeat' (first | with_reducible(first|exact Qx _ _|apply Kept.drew|apply Kept.drewN|apply Qz|refine Qy ?_ ?_ _)|exact fun h=>absurd h (by simp <;> omega)))),(Below.heap_alloc _ _ _ (by simp)).trans (heap_alloc_new w _),by simp⟩
 case round =>
  obtain ⟨k,tv,ts,vs,rfl,hk,hgk,hS⟩:=hrel
  have HS:=Zac hS
  have hext:=hS.2.2.2.1
  have hsr:=hext.size
  have hG:=H.out.ext hext
  have hgr:=Zab hG.box
  have hcr:cb<wr.heap.size:=by omega
  have hsb:=Zab hS.1
  have b0:wr.cell? ⟨gb,0,none⟩=some (.slice (some ⟨cb,0,none⟩) gs.length cap):=Zaa hG.box 0 _ rfl
  have t0:wr.cell? ⟨w.heap.size+1,0,none⟩=some tv:=Zaa hS.1 0 _ rfl
  have r0:wr.cell? ⟨w.heap.size,0,none⟩=some (.slice none 0 0):=Zaa hS.2.2.2.2.1 0 _ rfl
  have rf:=fun i=>Zae hS.2.2.2.2.1 i
  have tf:=fun i=>Zae hS.1 i
  have HG:=Zac hG
  clear hS hext hG
  by_cases hlt:k<gs.length
  ·obtain ⟨c,hc⟩:∃ c,gs[k]?=some c:=⟨_,Qb hlt⟩
   obtain ⟨c0,c1,c2,c3,c4,c5⟩:=HG.out.cell hc
   obtain ⟨hsy,_⟩:=Hc.out.all k c hc
   have hcn:c.sym.num≤200000:=by rw [hsy]; exact Hn.out k
   have Hsy:=Zac hsy
   clear hc hsy
   cases hnm:c.sym.name with
   | cons x xs =>
    have hnn:Hid ((Zav l k).name≠[]):=by show _≠_; rw [← Hsy.out,hnm]; simp
    rw [hnm] at c0
    clear hnm
    go_wp2
    go_roundg (gs.length - k)
    case measure=>omega
    case rel =>
     exact ⟨k+1,tv,ts,vs,by go_num,by omega,by omega,SubAt.to (HS.out.ext (Ext.of (by repeat' (first | with_reducible(first|exact Qx _ _|apply Kept.drew|apply Kept.drewN|apply Qz|refine Qy ?_ ?_ _)|exact fun h=>absurd h (by simp <;> omega))))) (HS.out.2.2.1.skip hnn.out)⟩
   | nil =>
    have hnn:Hid ((Zav l k).name=[]):=by show _=_; rw [← Hsy.out,hnm]
    rw [hnm] at c0
    clear hnm
    have hneg:¬ ((c.sym.num:Int)<0):=by omega
    go_wp2
    have HSa:Hid (∀ o,SubAt w l ρ T k tv ts vs (wr.alloc o)):=fun o=>HS.out.ext (Ext.of (by repeat' (first | with_reducible(first|exact Qx _ _|apply Kept.drew|apply Kept.drewN|apply Qz|refine Qy ?_ ?_ _)|exact fun h=>absurd h (by simp <;> omega))))
    obtain ⟨wo,hwo⟩:∃ x,x=wr:=⟨_,rfl⟩
    subst hwo
    clear b0 t0 r0 rf tf c0 c1 c2 c3 c4 c5 HG HS hgr hcr hsb hsr
    go_loopg [28] 200003 (fun gk nv wr=>∃ (tv:Value) (ts:List (List Sym)) (vs:List Value),200002 - ts.length<gk∧SubAt w l ρ T k tv ts vs wr)
    case atStart=>exact ⟨tv,ts,vs,by omega,HSa.out _⟩
    case round =>
     clear HSa
     obtain ⟨tv,ts,vs,hgk2,hS⟩:=hrel
     have HS:=Zac hS
     have hext:=hS.2.2.2.1
     have hsr:=hext.size
     have hG:=H.out.ext hext
     have hgr:=Zab hG.box
     have hsb:=Zab hS.1
     have ht4:=hS.2.2.2.2.2
     obtain ⟨ta,tcap,rfl⟩:=Zad hS.2.1.owns
     have b0:wr.cell? ⟨gb,0,none⟩=some (.slice (some ⟨cb,0,none⟩) gs.length cap):=Zaa hG.box 0 _ rfl
     have t0:wr.cell? ⟨w.heap.size+1,0,none⟩=some (.slice ta ts.length tcap):=Zaa hS.1 0 _ rfl
     have tf:=fun i=>Zae hS.1 i
     have HG:=Zac hG
     clear hS hext hG
     by_cases hle:ts.length≤c.sym.num
     ·have hle':((ts.length:Nat):Int)≤((c.sym.num:Nat):Int):=by omega
      have Hrow:Hid (wr.ownsRow w.heap.size 72 1 (.slice ta ts.length tcap) ts.length vs):=HS.out.2.1.owns
      go_wp2_with (at_builtin; go_loud (refine Zam _ rfl (.tmp 34) (.tmp 35) 63 rfl w.heap.size 72 Tryz.infoSyms Tryz.underlying63 rfl (by decide) (.slice ta ts.length tcap) ts.length vs rfl Hrow.out _ rfl rfl rfl (Zeb _ _ _) ?_ ?_ ?_))
      ·omega
      ·omega
      intro v1 w1 hap
      obtain ⟨a1,c1,rfl⟩:=Zad hap.owns
      have hS1:SubAt w l ρ T k (.slice a1 (ts.length+1) c1) (ts++[[]]) (vs++[.slice none 0 0]) (w1.setCell ⟨w.heap.size+1,0,none⟩ (.slice a1 (ts.length+1) c1)):=by
       obtain ⟨g1,g2,g3,g4,g5,g6⟩:=HS.out
       have hb1:=(hap.kept.block _ (Zab g1) (Zag Hrow.out (by decide) g1)).trans g1
       have hb0:=(hap.kept.block _ (Zab g5) (Zag Hrow.out (by decide) g5)).trans g5
       have hK:Kept (fun j=>j=w.heap.size+1) w1 (w1.setCell ⟨w.heap.size+1,0,none⟩ (.slice a1 (ts.length+1) c1)):=(Qx (only (w.heap.size+1)) w1).put 0 _
       have hsz:=hap.kept.size
       refine ⟨Zaf hb1 0 _,(g2.snoc hap (World.ownsRow_nil _ _ _ _)).box hb1 (by decide) (by decide) hK,g3.pad,(g4.trans (hap.kept.below (by omega) (fun j hj=>(Hrow.out.lt j hj).1))).trans (hK.below (by omega) (fun j hj=>by omega)),(hK.block _ (Zab hb0) (by omega)).trans hb0,by simp; omega⟩
      have hb1:=(hap.kept.block _ (Zab HS.out.1) (Zag Hrow.out (by decide) HS.out.1)).trans HS.out.1
      have t0:w1.cell? ⟨w.heap.size+1,0,none⟩=some (.slice ta ts.length tcap):=Zaa hb1 0 _ rfl
      have tf:=fun i=>Zae hb1 i
      have hsb1:=Zab hb1
      have HS1:=Zac hS1
      clear hap hS1 hb1
      go_wp2
      go_roundg (200002 - ts.length)
      case measure=>omega
      case rel=>exact ⟨_,_,_,by simp; omega,HS1.out⟩
     ·have hle':¬ (((ts.length:Nat):Int)≤((c.sym.num:Nat):Int)):=by omega
      have hnl:c.sym.num<ts.length:=by omega
      obtain ⟨t,ht⟩:∃ t,ts[c.sym.num]?=some t:=⟨_,Qb hnl⟩
      obtain ⟨xv,hxv,hxo⟩:=HS.out.2.1.all _ t ht
      obtain ⟨xa,xcap,rfl⟩:=Zad hxo
      obtain ⟨g,tcap',cur,he,_,hgb2,hgc⟩:=Zao HS.out.2.1.owns (by omega)
      simp only [Value.slice.injEq] at he
      obtain ⟨rfl,_,rfl⟩:=he
      have x0:wr.cell? ⟨g,c.sym.num,none⟩=some (.slice xa t.length xcap):=Zai HS.out.2.1.owns _ _ hxv
      have hgl:=Zab hgb2
      have gf:=fun i=>Zae hgb2 i
      have Ht:=Zac ht
      have Hgb2:=Zac hgb2
      have hkl:k<l.length:=by rw [← Hc.out.len]; exact hlt
      clear ht hxv hxo hgb2
      cases t with
      | cons a0 t =>
       go_wp2
       go_roundg (gs.length - k)
       case measure=>omega
       case rel=>exact ⟨k+1,_,ts,vs,by go_num,by omega,by omega,HS.out.to (HS.out.2.2.1.old Hv.out hkl hnn.out (by rw [← Hsy.out]; exact Ht.out) (by simp))⟩
      | nil =>
       have HI:=Zac (Yhd _ wr.drew gb (.slice (some ⟨cb,0,none⟩) gs.length cap) gs l ρ rk D T k (HG.out.on (fun _ _=>rfl)) Hc.out Hw.out Hu.out HK.out (HD.out k hlt) hlt hl (Qe _) (HT.out k hlt hnn.out))
       have Hne:Hid (∀ i,i<l.length→T (ρ i)≠[]):=fun i hi=>by rw [HK.out.tm _ (HD.out i (by rw [Hc.out.len]; exact hi))]; simp
       go_wp2_with fail
       refine Zgg (by kernel_rfl) [.rd 0 1 (fun _ => .pointer (some ⟨w.heap.size+1,0,none⟩)),.rd 0 1 (fun _ => .slice (some ⟨g,0,none⟩) ts.length tcap),.rd 0 1 (fun _ => .int .i64 c.sym.num),.rd 0 1 (fun _ => .pointer (some ⟨gb,0,none⟩)),.rd 0 1 (fun _ => .int .i64 k),.st 0,.rd 0 1 (fun _ => .pointer (some ⟨g,c.sym.num,none⟩)),.st 1] 2 4 (by kernel_rfl)
        (SubPh w wr l ρ T k (.slice (some ⟨g,0,none⟩) ts.length tcap) ts) rfl ?_ ?_
       ·have hcell:∀ u,Ext wr.drew u→u.cell? ⟨w.heap.size+1,0,none⟩=some (.slice (some ⟨g,0,none⟩) ts.length tcap):=fun u hE=>Zaa ((hE.block _ hsb).trans HS.out.1) 0 _ rfl
        refine ⟨⟨trivial,fun vs u _ hl hS => ?_⟩,⟨trivial,fun vs u _ hl hS => ?_⟩,⟨trivial,fun vs u _ hl hS => ?_⟩,⟨trivial,fun vs u _ hl hS => ?_⟩,⟨trivial,fun vs u _ hl hS => ?_⟩,⟨trivial,fun vs u hl hS => ?_⟩,⟨trivial,fun vs u _ hl hS => ?_⟩,⟨trivial,fun vs u hl hS => ?_⟩,trivial⟩
        ·simp [phAll,phA,pa,Ph.kd,Ph.val,Kd.val,go_sem]
        ·have t1:=hcell u (hS.ext hl)
         simp [phAll,phA,pa,Ph.kd,Ph.val,Kd.val,go_sem,t1]
        ·simp [phAll,phA,pa,Ph.kd,Ph.val,Kd.val,go_sem]
        ·simp [phAll,phA,pa,Ph.kd,Ph.val,Kd.val,go_sem]
        ·simp [phAll,phA,pa,Ph.kd,Ph.val,Kd.val,go_sem]
        ·obtain rfl:=List.length_eq_zero_iff.1 hl
         have hu:u=wr.drew:=hS
         subst hu
         refine .call 96 #[.pointer (some ⟨gb,0,none⟩),.int .i64 k] _ (by simp [phAll,phA,pa,Ph.kd,Ph.val,Kd.val,go_sem]) (HI.out.mono ?_)
         rintro e u ⟨v,B,rfl,h⟩
         exact ⟨v,rfl,v,B,rfl,h⟩
        ·simp [phAll,phA,pa,Ph.kd,Ph.val,Kd.val,go_sem,hnl]
        ·obtain ⟨v,rfl⟩:=List.length_eq_one_iff.1 hl
         have hE:=hS.ext (by simp)
         obtain ⟨v',B,he,hB,hr,_⟩:=hS
         simp only [Ending.returned.injEq] at he
         subst he
         have HSu:=HS.out.ext ((Ext.of (Qx _ _).drew:Ext wr wr.drew).trans hE)
         have hgu:=(hE.block _ hgl).trans Hgb2.out
         have gfu:=Zae hgu c.sym.num
         obtain ⟨va1,vc1,rfl⟩:=Zad hr
         have x1:u.cell? ⟨g,c.sym.num,none⟩=some (.slice xa 0 xcap):=(hE.cell (p:=⟨g,c.sym.num,none⟩) hgl).trans x0
         have hgs:g<u.heap.size:=Zab hgu
         have hK:Kept (only g) u (u.setCell ⟨g,c.sym.num,none⟩ (.slice va1 (T (ρ k)).length vc1)):=(Qx (only g) u).put c.sym.num _
         refine .skip (u.setCell ⟨g,c.sym.num,none⟩ (.slice va1 (T (ρ k)).length vc1)) ?_ ?_
         ·simp [phAll,phA,pa,Ph.kd,Ph.val,Kd.val,go_sem,x1,gfu]
         ·obtain ⟨g1,g2,g3,g4,g5,g6⟩:=HSu
          have hn1:w.heap.size+1≠g:=fun e=>Zag g2.owns (by decide) g1 (by rw [e]; rfl)
          have hn0:w.heap.size≠g:=fun e=>Zag g2.owns (by decide) g5 (by rw [e]; rfl)
          have hgw:=(g2.owns.lt g rfl).1
          rw [Hsy.out] at hnl hK ⊢
          have hp:=g2.put (l:=T (ρ k)) hnl (Zba hr (Qm _))
          exact ⟨_,(hK.block _ (Zab g1) hn1).trans g1,hp,g3.new (fun i hi _=>Hne.out i (by omega)) hnn.out (by rw [← Hsy.out]; exact Ht.out),g4.trans (hK.below g4.size (fun j hj=>by have:j=g:=hj; omega)),(hK.block _ (Zab g5) hn0).trans g5,by rw [List.length_set]; exact g6⟩
       ·rintro vs u hl hS
        match vs,hl,hS with
        | [v,v'],_,hS =>
        obtain ⟨vs',hS'⟩:=hS
        simp only [phAll,phA,paAll,pa,Ph.kd,Ph.val,Kd.val,List.map_cons,List.map_nil,if_true,Act.put,List.setIfInBounds_toArray,List.set_cons_succ,List.set_cons_zero]
        have HS':=Zac hS'
        clear hS'
        go_wp2
        go_roundg (gs.length - k)
        case measure=>omega
        case rel=>exact ⟨k+1,_,_,vs',by go_num,by omega,by omega,HS'.out⟩
  ·have hek:k=gs.length:=by omega
   subst hek
   obtain ⟨ta,tcap,rfl⟩:=Zad HS.out.2.1.owns
   go_wp2
   have hK:Kept (fun j=>j=w.heap.size) wr (wr.setCell ⟨w.heap.size,0,none⟩ (.slice ta ts.length tcap)):=(Qx (only w.heap.size) wr).put 0 _
   have h0:(wr.setCell ⟨w.heap.size,0,none⟩ (.slice ta ts.length tcap)).cell? ⟨w.heap.size,0,none⟩=some (.slice ta ts.length tcap):=Zaa (Zaf HS.out.2.2.2.2.1 0 _) 0 _ rfl
   obtain ⟨g1,g2,g3,g4,g5,g6⟩:=HS.out
   rw [Hc.out.len] at g3
   refine bodyPost_ret (v := .agg #[.slice ta ts.length tcap]) (by simp [results,Tryz.results74,go_sem,h0]) rfl ?_
   exact ⟨_,ts,vs,rfl,g2.box g5 (by decide) (by decide) hK,g3,g4.trans (hK.below (by omega) (fun k hk=>by omega)),g6⟩
def sbOf (ts:List (List Sym)) (n:Nat):List Sym:=match ts[n]? with
 | some (x::xs)=>x::xs
 | _=>vr n
theorem Ykb {l:List Sym} {ρ:Nat→Nat} {D:Nat→Prop} {T:Nat→List Sym} {ts:List (List Sym)} (hs:SubOk l ρ T l.length ts) (hK:Known (grOf l) ρ D T) (hv:Vars (grOf l) ρ) (hD:∀ i,i<l.length→D (ρ i)):sbOf ts=Zep (grOf l) ρ D T:=by
 funext n
 by_cases hex:∃ i,i<l.length∧(Zav l i).name=[]∧(Zav l i).num=n
 ·obtain ⟨i,hi,hn,rfl⟩:=hex
  have h1:Zep (grOf l) ρ D T (Zav l i).num=T (ρ i):=Zpj (G:=grOf l) hv hi hn (hD i hi)
  rw [h1]
  have h2:=hs.has i hi hn
  have h3:=hK.tm _ (hD i hi)
  unfold sbOf
  rw [h2]
  rw [h3]
 ·have h1:Zep (grOf l) ρ D T n=vr n:=by
   unfold Zep
   rw [dif_neg]
   rintro ⟨i,h1,h2,h3,_⟩
   exact hex ⟨i,h1,h2,h3⟩
  rw [h1]
  unfold sbOf
  cases ht:ts[n]? with
  | none=>rfl
  | some t =>
   rcases hs.only n t ht with rfl | ⟨i,h1,h2,h3,_⟩
   ·rfl
   ·exact absurd ⟨i,h1,h2,h3⟩ hex
theorem Ykc {gs:List GC} (h:∀ c ∈ gs,c.size=0):sz gs (fun _=>0)=gs:=by
 apply List.ext_getElem?
 intro i
 cases hc:gs[i]? with
 | none=>rw [List.getElem?_eq_none (by rw [Zet]; exact List.getElem?_eq_none_iff.1 hc)]
 | some c =>
  rw [Zte hc]
  have:=h c (Qh hc)
  cases c
  simp at this
  subst this
  rfl
theorem Yek {l:List Sym} {gs':List GC} (h:gs'.map (·.size)=(Zge l (Zdz l) 0).map (·.size)):sz gs' (fun _=>0)=gs':=by
 refine Ykc (fun c hc => ?_)
 have h1:c.size ∈ (Zge l (Zdz l) 0).map (·.size):=by rw [← h]; exact List.mem_map.2 ⟨c,hc,rfl⟩
 rw [← Yka l] at h1
 obtain ⟨d,hd,e⟩:=List.mem_map.1 h1
 obtain ⟨i,hi⟩:=List.mem_iff_getElem?.1 hd
 simp only [sz,List.getElem?_mapIdx,Option.map_eq_some_iff] at hi
 obtain ⟨d',_,rfl⟩:=hi
 exact e.symm
def Zvd (a b:List Sym) (w:World) (e:Ending) (w':World):Prop:=Ext w w'∧∃ x n c q,e = .returned (.tuple #[.agg #[.slice x n c],.int .i64 q]) ∧
 ((q=0∧NoFit a b)∨(q=2∧Vast a b)∨(q=1∧∃ ts vs,TermsAt w' 0 (.slice x n c) ts vs∧Mgu (sbOf ts) a b∧(ap (sbOf ts) a).length≤30∧ts.length≤200001∧∀ t ∈ ts,t.length≤30))
theorem Yel {l:List Sym} {i:Nat} (hi:i<l.length) (hn:(Zav l i).name=[]):Occ (Zav l i).num l:=by
 refine ⟨Zav l i,?_,hn,rfl⟩
 unfold Zav
 rw [List.getD_eq_getElem?_getD,Qb hi]
 simp
theorem Zov {a b:List Sym} {σ:Nat→List Sym} (h:Mgu σ a b) (hl:(ap σ a).length≤30) {n:Nat} (ho:Occ n (a++b)):(σ n).length≤30:=by
 rcases Zyl.1 ho with ho | ho
 ·have:=Zod h.ts ho
  have h1:0<a.length:=by obtain ⟨s,hs,_⟩:=ho; exact List.length_pos_of_mem hs
  omega
 ·have:=Zod h.ts ho
  have h1:0<b.length:=by obtain ⟨s,hs,_⟩:=ho; exact List.length_pos_of_mem hs
  rw [← h.unif] at this
  omega
theorem Yem {a b:List Sym} (ha:Wf 1 a) (hb:Wf 1 b) {ρ':Nat→Nat} (hj:Joined (grOf (a++b)) (Zbe (a++b)) ρ' [0] [a.length]) {D:Nat→Prop} {T:Nat→List Sym} (hK:Known (grOf (a++b)) ρ' D T) (hd:D (ρ' 0)) :
  Mgu (Zep (grOf (a++b)) ρ' D T) a b∧ap (Zep (grOf (a++b)) ρ' D T) a=T (ρ' 0)∧Vars (grOf (a++b)) ρ'∧∀ i,i<(a++b).length→D (ρ' i):=by
 have hl:=Ydz ha hb
 have hw:Wf 2 (a++b):=Zfx ha hb
 have h0:=Zkk (a++b) hw
 have hap:=Zel ha
 have hbp:=Zel hb
 have hx:(0:Nat)<(grOf (a++b)).n:=by show 0<(a++b).length; simp; omega
 have hy:a.length<(grOf (a++b)).n:=by show a.length<(a++b).length; simp; omega
 obtain ⟨h1,h2⟩:=Yfv hl h0 hx hy (Zli ha) (Zjp hb) hj hK hd
 have he:ρ' 0=ρ' a.length:=by simpa using hj.eq
 refine ⟨h1,h2,h0.vars' hj.grow,Yej ha hb (fun i hi=>hj.cg i hi (h0.cg i hi)) hK hd (he ▸ hd)⟩
def rn (v:Nat) (s:Sym):Sym:=if s.name=[] then ⟨[],s.num+v,s.args⟩ else s
theorem Zme {v k:Nat} {l:List Sym} (hw:Wf k l):ap (Zcx v) l=l.map (rn v):=by
 have h:∀ s ∈ l,ap1 (Zcx v) s=[rn v s]:=fun s hs=>by
  obtain ⟨i,hi⟩:=List.mem_iff_getElem?.1 hs
  have h1:=(Zjo hw hi).1
  unfold ap1 rn
  by_cases hn:s.name=[]
  ·rw [if_pos hn,if_pos hn,h1 hn]; rfl
  ·rw [if_neg hn,if_neg hn]
 clear hw
 induction l with
 | nil=>rfl
 | cons s l ih =>
  rw [Zbs,h s (by simp),ih (fun t ht=>h t (by simp [ht]))]
  rfl
abbrev WordAt (w:World) (v:Value) (l:List Sym):Prop:=w.ownsRow 0 102 3 v l.length (Zaj l)
theorem WordAt.ext {w w':World} {v:Value} {l:List Sym} (h:WordAt w v l) (e:Ext w w'):WordAt w' v l:=Zah h (fun j hj=>e.block j (h.lt j hj).2)
def TermsIn (w:World) (v:Value) (ls:List (List Sym)):Prop:=∃ vs,TermsAt w 0 v ls vs
theorem TermsIn.ext {w w':World} {v:Value} {ls:List (List Sym)} (h:TermsIn w v ls) (e:Ext w w'):TermsIn w' v ls:=by
 obtain ⟨vs,h⟩:=h
 exact ⟨vs,h.ext e⟩
theorem TermsAt.inn {w:World} {B:Nat} {v:Value} {ls:List (List Sym)} {vs:List Value} (h:TermsAt w B v ls vs):TermsIn w v ls:=⟨vs,Zba h.owns (Qm _),h.all⟩
def TermsNew (F:Nat) (w:World) (v:Value) (ls:List (List Sym)):Prop:=∃ vs,TermsAt w 0 v ls vs∧(∀ j,v.ownBlock=some j→F≤j)∧∀ x ∈ vs,∀ j,x.ownBlock=some j→F≤j
theorem TermsNew.inn {F:Nat} {w:World} {v:Value} {ls:List (List Sym)} (h:TermsNew F w v ls):TermsIn w v ls:=by
 obtain ⟨vs,h,_⟩:=h
 exact ⟨vs,h⟩
theorem TermsNew.ext {F:Nat} {w w':World} {v:Value} {ls:List (List Sym)} (h:TermsNew F w v ls) (e:Ext w w'):TermsNew F w' v ls:=by
 obtain ⟨vs,h,h1⟩:=h
 exact ⟨vs,h.ext e,h1⟩
theorem TermsNew.mono {F F':Nat} {w:World} {v:Value} {ls:List (List Sym)} (h:TermsNew F w v ls) (hF:F'≤F):TermsNew F' w v ls:=by
 obtain ⟨vs,h,h1,h2⟩:=h
 exact ⟨vs,h,fun j hj=>Qq hF (h1 j hj),fun x hx j hj=>Qq hF (h2 x hx j hj)⟩
theorem TermsNew.box {F:Nat} {w w':World} {M:Nat} {cs:Array Value} {t:TypeId} {fr:Nat × Nat} {v:Value} {ls:List (List Sym)} (h:TermsNew F w v ls) (hM:w.heap[M]?=some (.cells cs t fr)) (h1:72≠t) (h2:102≠t) (hk:Kept (fun k=>k=M) w w'):TermsNew F w' v ls:=by
 obtain ⟨vs,h,h3⟩:=h
 exact ⟨vs,h.box hM h1 h2 hk,h3⟩
structure ClsIn (w:World) (hv bv vv:Value) (c:Cls):Prop where
 head:WordAt w hv c.head
 body:TermsIn w bv c.body
 names:w.ownsRow 0 9 1 vv c.names.length (strs c.names)
theorem ClsIn.ext {w w':World} {hv bv vv:Value} {c:Cls} (h:ClsIn w hv bv vv c) (e:Ext w w'):ClsIn w' hv bv vv c :=
 ⟨h.head.ext e,h.body.ext e,Zah h.names (fun j hj=>e.block j (h.names.lt j hj).2)⟩
theorem BodyRow.terms {w:World} {B Sa:Nat} {v:Value} {ls:List (List Sym)} {vs:List Value} (h:BodyRow w B Sa v ls vs):TermsIn w v ls :=
 ⟨vs,Zba h.1 (Qm _),fun i l hl=>by
  obtain ⟨x,h1,h2⟩:=h.2 i l hl
  exact ⟨x,h1,Zba h2.1 (Qm _)⟩⟩
structure ProgIn (w:World) (v:Value) (cs:List Cls) (xs:List (List Value)):Prop where
 owns:w.ownsRow 0 74 3 v cs.length xs.flatten
 len:xs.length=cs.length
 three:∀ x ∈ xs,x.length=3
 all:∀ (i:Nat) (c:Cls),cs[i]?=some c→∃ hv bv vv,xs[i]?=some [hv,bv,vv]∧ClsIn w hv bv vv c
theorem ProgIn.ext {w w':World} {v:Value} {cs:List Cls} {xs:List (List Value)} (h:ProgIn w v cs xs) (e:Ext w w'):ProgIn w' v cs xs :=
 ⟨Zah h.owns (fun j hj=>e.block j (h.owns.lt j hj).2),h.len,h.three,fun i c hc=>by
  obtain ⟨hv,bv,vv,h1,h2⟩:=h.all i c hc
  exact ⟨hv,bv,vv,h1,h2.ext e⟩⟩
theorem CCRow.prog {w:World} {B Sa Sb:Nat} {v:Value} {cs:List Cls} {xs:List (List Value)} (h:CCRow w B Sa Sb v cs xs):ProgIn w v cs xs :=
 ⟨Zba h.1 (Qm _),h.2.1,h.2.2.1,fun i c hc=>by
  obtain ⟨hv,bv,vv,us,h1,h2,h3,h4,h5,h6⟩:=h.2.2.2 i c hc
  exact ⟨hv,bv,vv,h1,Zba h2.1 (Qm _),h3.terms,Zba h5 (Qm _)⟩⟩
structure NodeIn (w:World) (gv vv rv:Value) (n:ND):Prop where
 goals:TermsIn w gv (n.goals.map (·.1))
 vals:TermsIn w vv n.vals
 done:TermsIn w rv (n.done.map (·.1))
structure NodeNew (F:Nat) (w:World) (gv vv rv:Value) (n:ND):Prop where
 goals:TermsNew F w gv (n.goals.map (·.1))
 vals:TermsNew F w vv n.vals
 done:TermsNew F w rv (n.done.map (·.1))
theorem NodeIn.ext {w w':World} {gv vv rv:Value} {n:ND} (h:NodeIn w gv vv rv n) (e:Ext w w'):NodeIn w' gv vv rv n:=⟨h.goals.ext e,h.vals.ext e,h.done.ext e⟩
theorem CellsOf.sz {gs:List GC} {l:List Sym} (h:CellsOf gs l) (f:Nat→Int):CellsOf (YtlmjilpjmgjjcabGreatDoor.sz gs f) l :=
 ⟨by rw [Zet]; exact h.len,fun i c hc=>by
  simp only [YtlmjilpjmgjjcabGreatDoor.sz,List.getElem?_mapIdx,Option.map_eq_some_iff] at hc
  obtain ⟨d,hd,rfl⟩:=hc
  exact h.all i d hd⟩
theorem Yai (w:World) (v1 v2:Value) (a b:List Sym) (h1:WordAt w v1 a) (h2:WordAt w v2 b) (ha:Wf 1 a) (hb:Wf 1 b) (hal:a.length≤1000) (hbl:b.length≤1000) (hn:∀ s ∈ a++b,s.num≤200000) :
  Calls Tryz.prog 61 #[v1,v2] w (Zvd a b w):=by
 have hapos:=Zel ha
 have hbpos:=Zel hb
 obtain ⟨g1,cap1,cur1,rfl,_,hg1,hc1⟩:=Zao h1 (by omega)
 obtain ⟨g2,cap2,cur2,rfl,_,hg2,hc2⟩:=Zao h2 (by omega)
 have z1:((a.length:Int) == 0)=false:=by rw [Qu]; omega
 have z2:((b.length:Int) == 0)=false:=by rw [Qu]; omega
 obtain ⟨l,hl⟩:∃ l,l=a++b:=⟨_,rfl⟩
 have hw:Wf 2 l:=by rw [hl]; exact Zfx ha hb
 have hll:l.length=a.length+b.length:=by rw [hl]; simp
 have hE0:Ext w (w.alloc (.cells #[.slice none 0 0] 131)):=(Ext.of (by repeat' (first | with_reducible(first|exact Qx _ _|apply Kept.drew|apply Kept.drewN|apply Qz|refine Qy ?_ ?_ _)|exact fun h=>absurd h (by simp <;> omega))))
 have HL:=Zac (Yad (w.alloc (.cells #[.slice none 0 0] 131)) _ _ a b (WordAt.ext h1 hE0) (WordAt.ext h2 hE0) ha hb hal hbl)
 have Hw:=Zac hw
 have Ha:=Zac ha
 have Hb:=Zac hb
 have Hl:=Zac hl
 have Hn:Hid (∀ i,(Zav l i).num≤200000):=fun i=>by
  rw [hl]
  by_cases hi:i<(a++b).length
  ·have:Zav (a++b) i ∈ a++b:=by
    unfold Zav
    rw [List.getD_eq_getElem?_getD,Qb hi]
    simp
   exact hn _ this
  ·unfold Zav
   rw [List.getD_eq_getElem?_getD,List.getElem?_eq_none (by omega)]
   simp
 rw [← hl] at HL
 clear h1 h2 hw ha hb hl hn hg1 hg2 hc1 hc2
 go_enter Tryz.func61,Tryz.ntmps61
 go_wp2_with fail
 refine HL.out.mono ?_
 rintro e w1 ⟨v,rfl,hrow,hext,hown⟩
 have hc:=Yaf l
 have hup:=Yjz Hw.out
 have hgl:(Zge l (Zdz l) 0).length=l.length:=hc.len
 have hsz1:=hext.size
 have hsz1:w.heap.size+1≤w1.heap.size:=by simpa using hsz1
 obtain ⟨gs,hgs⟩:∃ gs,gs=Zge l (Zdz l) 0:=⟨_,rfl⟩
 have hzs:∀ gs',gs'.map (·.size)=gs.map (·.size)→sz gs' (fun _=>0)=gs':=fun gs' h=>Yek (by rw [h,hgs])
 rw [← hgs] at hc hup hgl hrow
 clear hgs
 have hG:GAt (w1.alloc (.cells #[v] 148)) w1.heap.size v gs:=⟨heap_alloc_new w1 _,by rw [hgl]; exact Zah hrow (fun j hj=>Below.heap_alloc _ _ _ (hrow.lt j hj).2)⟩
 obtain ⟨va,vcap,rfl⟩:=Zad hrow
 have hblk1:w1.heap[w.heap.size]?=some (.cells #[.slice none 0 0] 131 (0,0)):=(hext.block _ (by simp)).trans (heap_alloc_new w _)
 have hE1:Ext w (w1.alloc (.cells #[.slice va l.length vcap] 148)):=(hE0.trans (hext.mono (by simp))).alloc (by omega) _
 have HJ:=Zac (Yha _ (w1.alloc (.cells #[.slice va l.length vcap] 148)) w1.heap.size _ gs l _ _ 0 a.length hG hc Hw.out hup (Qe _) (by omega) (by omega) (by omega))
 have Hgl:=Zac hgl
 have Hll:=Zac hll
 have hl2:l.length≤2000:=by omega
 have Hc:=Zac hc
 have Hup:=Zac hup
 have Hzs:=Zac hzs
 have Hown:=Zac hown
 have Hblk1:=Zac hblk1
 have HE1:=Zac hE1
 clear hc hup hG hzs hown hblk1 hE1 hext hrow hgl hll hE0 HL z1 z2
 go_wp2_with fail
 refine HJ.out.mono ?_
 rintro e w2 ⟨gs',hJ,ρ',rk',hup',hout⟩
 have hgl:=Hgl.out
 have hll:=Hll.out
 have hsz2:=hJ.kept.size
 have hsz2:w1.heap.size+1≤w2.heap.size:=by simpa using hsz2
 have hlen':=hJ.len
 have hbel2:Below (w.heap.size+1) (w1.alloc (.cells #[.slice va l.length vcap] 148)) w2:=hJ.kept.below (by simp; omega) (fun j hj=>by have:=Hown.out j hj; simpa using this)
 have hE2:Ext w w2:=HE1.out.trans (hbel2.mono (by omega))
 have hblk2:w2.heap[w.heap.size]?=some (.cells #[.slice none 0 0] 131 (0,0)):=(hbel2.block _ (by omega)).trans ((Below.heap_alloc _ _ _ (by omega)).trans Hblk1.out)
 have hr0:=Zaa hblk2 0 _ rfl
 have hrf:=fun i=>Zae hblk2 i
 have hrl:=Zab hblk2
 have hlay:Lay (grOf l) (tmAt l) a b:=by rw [Hl.out]; exact Ydz Ha.out Hb.out
 have hx:(0:Nat)<(grOf l).n:=by show 0<l.length; omega
 have hy:a.length<(grOf l).n:=by show a.length<l.length; omega
 have ht0:tmAt l 0=a:=by rw [Hl.out]; exact Zli Ha.out
 have ht1:tmAt l a.length=b:=by rw [Hl.out]; exact Zjp Hb.out
 have HE2:=Zac hE2
 have Hblk2:=Zac hblk2
 clear hbel2 hE2 hblk2
 rcases hout with ⟨rfl,hj⟩ | ⟨rfl,hcl⟩
 ·have hG2:GAt w2 w1.heap.size (.slice va l.length vcap) (sz gs' (fun _=>0)):=by rw [Hzs.out gs' hJ.sizes]; exact hJ.at'
  have HM:=Zac (Yhc _ w2 w1.heap.size (.slice va l.length vcap) gs' l ρ' rk' (fun _=>0) (fun _=>[]) 0 hG2 hJ.cells Hw.out hup' (fun j _=>Or.inl rfl) (Qe _) (by omega) (by omega) ⟨fun r h=>absurd h.2 (Int.lt_irrefl _),fun r h=>absurd h.2 (Int.lt_irrefl _),fun r h=>absurd h.2 (Int.lt_irrefl _)⟩)
  have Hj:=Zac hj
  have Hup':=Zac hup'
  have HJc:=Zac hJ.cells
  have Hlay:=Zac hlay
  have hgl':gs'.length=(a++b).length:=by rw [hlen',hgl,Hl.out]
  have Hgl':=Zac hgl'
  clear hj hup' hJ hlay hG2 hgl' hlen' hgl hll ht0 ht1 HJ
  go_wp2_with fail
  refine HM.out.mono ?_
  rintro e w3 ⟨f',hG3,hk3,hout⟩
  have hsz3:=hk3.size
  have hbel3:Below (w.heap.size+1) w2 w3:=hk3.below (by omega) (fun j hj=>by have:=Hown.out j hj; simpa using this)
  have hE3:Ext w w3:=HE2.out.trans (hbel3.mono (by omega))
  have hblk3:w3.heap[w.heap.size]?=some (.cells #[.slice none 0 0] 131 (0,0)):=(hbel3.block _ (by omega)).trans Hblk2.out
  have hr0:=Zaa hblk3 0 _ rfl
  have hrf:=fun i=>Zae hblk3 i
  have hrl:=Zab hblk3
  have HE3:=Zac hE3
  have Hblk3:=Zac hblk3
  have HG3:=Zac hG3
  clear hbel3 hE3 hblk3 hk3 hG3
  have ht0:tmAt l 0=a:=by rw [Hl.out]; exact Zli Ha.out
  have ht1:tmAt l a.length=b:=by rw [Hl.out]; exact Zjp Hb.out
  rcases hout with ⟨T,rfl,hso,_,hK,hD,_,_⟩ | ⟨rfl,hst⟩
  ·have hj:=Hj.out
   clear ht0 ht1
   have hl:=Hl.out
   subst hl
   have hgl':=Hgl'.out
   obtain ⟨hmg,hap,hvs,hall⟩:=Yem Ha.out Hb.out hj hK hD
   have hap':(ap (Zep (grOf (a++b)) ρ' (dnF gs'.length f') T) a).length=(T (ρ' 0)).length:=by rw [hap]
   obtain ⟨L,hL⟩:∃ L,L=(T (ρ' 0)).length:=⟨_,rfl⟩
   rw [← hL] at hap' ⊢
   by_cases hbig:30<L
   ·have hva:Vast a b:=hmg.small (by omega)
    have Hva:=Zac hva
    have m1:min 31 L=31:=by omega
    rw [m1]
    clear hva hmg hap hvs hall hK hD hso hj hL hap' Hj hgl' HM
    go_wp2
    refine bodyPost_ret (v := .tuple #[.agg #[.slice none 0 0],.int .i64 2]) (by simp [results,Tryz.results61,go_sem,hr0,hrf,hrl]) rfl ?_
    exact ⟨HE3.out.setCell (p:=⟨w.heap.size,0,none⟩) (Qe _) _,none,0,0,2,rfl,Or.inr (Or.inl ⟨rfl,Hva.out⟩)⟩
   ·have hsmall:∀ i,i<(sz gs' f').length→(Zav (a++b) i).name=[]→(T (ρ' i)).length≤4000:=fun i hi hn=>by
     have hi:i<(a++b).length:=by rw [Zet] at hi; omega
     have h1:=Zov hmg (by omega) (Yel hi hn)
     rw [show Zep (grOf (a++b)) ρ' (dnF gs'.length f') T (Zav (a++b) i).num=T (ρ' i) from Zpj (G:=grOf (a++b)) hvs hi hn (hall i hi)] at h1
     omega
    have HS:=Zac (Zly w3 w1.heap.size (.slice va (a++b).length vcap) (sz gs' f') (a++b) ρ' rk' (dnF gs'.length f') T HG3.out (HJc.out.sz f') Hw.out (by rw [Ylk]; exact Hup'.out) hK (fun i hi=>hall i (by rw [Zet] at hi; omega)) hvs (by rw [Zet]; omega) hsmall Hn.out)
    have Hmg:=Zac hmg
    have HK:=Zac hK
    have Hvs:=Zac hvs
    have Hall:=Zac hall
    have Hap':=Zac hap'
    have m1:min 31 L=L:=by omega
    have m2:¬ ((L:Int) = -1):=by omega
    have m3:¬ ((30:Int)<L):=by omega
    have m4:((L:Int) == -1)=false:=by rw [Qu]; omega
    rw [m1]
    clear hmg hap hvs hall hK hD hso hj hL hap' Hj hsmall hgl' HM
    go_wp2_with fail
    refine HS.out.mono ?_
    rintro e w4 ⟨tv,ts,vs,rfl,hts,hok,hE4,htl⟩
    obtain ⟨ta,tcap,rfl⟩:=Zad hts.owns
    have hblk4:=(hE4.block _ hrl).trans Hblk3.out
    have hr0:=Zaa hblk4 0 _ rfl
    have hrf:=fun i=>Zae hblk4 i
    have hrl4:=Zab hblk4
    have hsb:=Ykb hok HK.out Hvs.out Hall.out
    have hK4:Kept (fun j=>j=w.heap.size) w4 (w4.setCell ⟨w.heap.size,0,none⟩ (.slice ta ts.length tcap)):=(Qx (only w.heap.size) w4).put 0 _
    have hTI:=(hts.box hblk4 (by decide) (by decide) hK4).inn
    have hout:Zvd a b w (.returned (.tuple #[.agg #[.slice ta ts.length tcap],.int .i64 1])) (w4.setCell ⟨w.heap.size,0,none⟩ (.slice ta ts.length tcap)):=by
     obtain ⟨vs',hTI⟩:=hTI
     refine ⟨(HE3.out.trans (hE4.mono HE3.out.size)).setCell (p:=⟨w.heap.size,0,none⟩) (Qe _) _,ta,ts.length,tcap,1,rfl,Or.inr (Or.inr ⟨rfl,ts,vs',hTI,by rw [hsb]; exact Hmg.out,by rw [hsb,Hap'.out]; omega,htl,fun t ht => ?_⟩)⟩
     obtain ⟨n,hn⟩:=List.mem_iff_getElem?.1 ht
     rcases hok.only n t hn with rfl | ⟨i,hi,hni,_,rfl⟩
     ·simp
     ·have h1:=Zov Hmg.out (by rw [Hap'.out]; omega) (Yel hi hni)
      rw [show Zep (grOf (a++b)) ρ' (dnF gs'.length f') T (Zav (a++b) i).num=T (ρ' i) from Zpj (G:=grOf (a++b)) Hvs.out hi hni (Hall.out i hi)] at h1
      exact h1
    have Hout:=Zac hout
    clear hout hTI hK4 hsb hok hts hE4 hblk4
    go_wp2
    refine bodyPost_ret (v := .tuple #[.agg #[.slice ta ts.length tcap],.int .i64 1]) (by simp [results,Tryz.results61,go_sem,hr0,hrf,hrl4]) rfl ?_
    exact Hout.out
  ·have hno:NoFit a b:=Yfu Hlay.out (Zkk l Hw.out) hx hy ht0 ht1 Hj.out (i:=0) (fun val hv hc=>by
    obtain ⟨r,hr,_⟩:=hst val hv hc
    simp at hr)
   have Hno:=Zac hno
   clear hno hst ht0 ht1 HM
   go_wp2
   refine bodyPost_ret (v := .tuple #[.agg #[.slice none 0 0],.int .i64 0]) (by simp [results,Tryz.results61,go_sem,hr0,hrf,hrl]) rfl ?_
   exact ⟨HE3.out.setCell (p:=⟨w.heap.size,0,none⟩) (Qe _) _,none,0,0,0,rfl,Or.inl ⟨rfl,Hno.out⟩⟩
 ·have hno:=Yft hlay (Zkk l Hw.out) hx hy ht0 ht1 hcl
  have Hno:=Zac hno
  clear hno hcl hJ hup' hlay ht0 ht1 hlen' hgl hll HJ
  go_wp2
  refine bodyPost_ret (v := .tuple #[.agg #[.slice none 0 0],.int .i64 0]) (by simp [results,Tryz.results61,go_sem,hr0,hrf,hrl]) rfl ?_
  exact ⟨HE2.out.setCell (p:=⟨w.heap.size,0,none⟩) (Qe _) _,none,0,0,0,rfl,Or.inl ⟨rfl,Hno.out⟩⟩
theorem Zik (w:World) (v:Value) (a:List Sym) (m:Nat) (h:WordAt w v a) (hl:a.length≤1000) (hn:∀ s ∈ a,s.num≤200000) (hm:m≤200000) :
  Calls Tryz.prog 42 #[v,.int .i64 m] w (Zjq (a.map (rn m)) w):=by
 obtain ⟨va,vcap,rfl⟩:=Zad h
 have H:=Zac h
 have Hn:=Zac hn
 clear h hn
 go_enter Tryz.func42,Tryz.ntmps42
 go_wp2
 go_loopg [5,10] (a.length+1) (fun gk tv iv wr=>∃ (k:Nat),iv = .int .i64 k∧k≤a.length∧a.length - k<gk∧Ext w wr∧wr.ownsRow w.heap.size 102 3 tv k (Zaj ((a.take k).map (rn m))))
 case atStart=>exact ⟨0,by go_num,Qm _,by omega,Below.refl _ _,World.ownsRow_nil _ _ _ _⟩
 case round =>
  obtain ⟨k,rfl,hk,hgk,hext,hown⟩:=hrel
  obtain ⟨ta,tcap,rfl⟩:=Zad hown
  have hsr:=hext.size
  have Hext:=Zac hext
  have Hown:=Zac hown
  clear hext hown
  by_cases hlt:k<a.length
  ·obtain ⟨s,hs⟩:∃ s,a[k]?=some s:=⟨_,Qb hlt⟩
   obtain ⟨g,cap',cur,he,_,hgb,_⟩:=Zao H.out (by omega)
   simp only [Value.slice.injEq] at he
   obtain ⟨rfl,_,rfl⟩:=he
   have ho:=Zah H.out (fun j hj=>Hext.out.block j (H.out.lt j hj).2)
   have hgw:=Zab hgb
   have hgr:g<wr.heap.size:=by omega
   have e0:wr.cell? ⟨g,k * 3,none⟩=some (.string ⟨s.name.toArray⟩):=Zai ho _ _ (by have:=Zaz a k s hs 0 (by omega); rw [Nat.add_zero] at this; rw [this]; rfl)
   have e1:wr.cell? ⟨g,k * 3+1,none⟩=some (.int .i64 s.num):=Zai ho _ _ (by rw [Zaz a k s hs 1 (by omega)]; rfl)
   have e2:wr.cell? ⟨g,k * 3+2,none⟩=some (.int .i64 s.args):=Zai ho _ _ (by rw [Zaz a k s hs 2 (by omega)]; rfl)
   have hnx:a.take (k+1)=a.take k++[s]:=by rw [List.take_add_one,hs]; rfl
   have hsn:=Hn.out s (Qh hs)
   have Hnx:=Zac hnx
   clear hs ho hnx hgb
   cases hnm:s.name with
   | nil =>
    rw [hnm] at e0
    have hrs:rn m s=⟨[],s.num+m,s.args⟩:=by unfold rn; rw [if_pos hnm]
    have Hrs:=Zac hrs
    clear hnm hrs
    have hE:Ext wr (wr.alloc (.cells #[.string ⟨#[]⟩,.int .i64 ((s.num:Int)+m),.int .i64 s.args] 102)):=(Ext.of (by repeat' (first | with_reducible(first|exact Qx _ _|apply Kept.drew|apply Kept.drewN|apply Qz|refine Qy ?_ ?_ _)|exact fun h=>absurd h (by simp <;> omega))))
    have Hown1:Hid ((wr.alloc (.cells #[.string ⟨#[]⟩,.int .i64 ((s.num:Int)+m),.int .i64 s.args] 102)).ownsRow w.heap.size 102 3 (.slice ta k tcap) k (Zaj ((a.take k).map (rn m)))):=Zah Hown.out (fun j hj=>hE.block j (Hown.out.lt j hj).2)
    have HE:=Zac hE
    clear hE
    go_wp2_with (at_builtin; go_loud (refine Zam (wr.alloc (.cells #[.string ⟨#[]⟩,.int .i64 ((s.num:Int)+m),.int .i64 s.args] 102)) rfl (.tmp 22) (.tmp 24) 72 rfl w.heap.size 102 Tryz.infoSym Tryz.underlying72 rfl (by decide) (.slice ta k tcap) k (Zaj ((a.take k).map (rn m))) rfl Hown1.out #[.string ⟨#[]⟩,.int .i64 ((s.num:Int)+m),.int .i64 s.args] (N:=wr.heap.size+1) rfl (by simp) rfl (Zhk _ _ _) ?_ ?_ ?_))
    ·omega
    ·simp; omega
    intro v1 w1 hap
    obtain ⟨a1,c1,rfl⟩:=Zad hap.owns
    have Hap:=Zac hap
    clear hap
    go_wp2
    go_roundg (a.length - k)
    case measure=>omega
    case rel =>
     refine ⟨k+1,by go_num,by omega,by omega,?_,?_⟩
     ·exact Hext.out.trans ((HE.out.mono hsr).trans (Hap.out.kept.below (by simp; omega) (fun j hj=>(Hown1.out.lt j hj).1)))
     ·have:=Hap.out.owns
      rw [Hnx.out,Qr,Zdj]
      simpa [Zaj,Zbw,Hrs.out] using this
   | cons x xs =>
    have hrs:rn m s=s:=by unfold rn; rw [if_neg (by rw [hnm]; simp)]
    have hE:Ext wr (wr.alloc (.cells #[.string ⟨(x::xs).toArray⟩,.int .i64 s.num,.int .i64 s.args] 102)):=(Ext.of (by repeat' (first | with_reducible(first|exact Qx _ _|apply Kept.drew|apply Kept.drewN|apply Qz|refine Qy ?_ ?_ _)|exact fun h=>absurd h (by simp <;> omega))))
    have Hown1:Hid ((wr.alloc (.cells #[.string ⟨(x::xs).toArray⟩,.int .i64 s.num,.int .i64 s.args] 102)).ownsRow w.heap.size 102 3 (.slice ta k tcap) k (Zaj ((a.take k).map (rn m)))):=Zah Hown.out (fun j hj=>hE.block j (Hown.out.lt j hj).2)
    have HE:=Zac hE
    have hrs':rn m s=⟨x::xs,s.num,s.args⟩:=by rw [hrs,← hnm]
    have Hrs:=Zac hrs'
    rw [hnm] at e0
    clear hnm hrs hE hrs'
    go_wp2_with (at_builtin; go_loud (refine Zam (wr.alloc (.cells #[.string ⟨(x::xs).toArray⟩,.int .i64 s.num,.int .i64 s.args] 102)) rfl (.tmp 22) (.tmp 24) 72 rfl w.heap.size 102 Tryz.infoSym Tryz.underlying72 rfl (by decide) (.slice ta k tcap) k (Zaj ((a.take k).map (rn m))) rfl Hown1.out #[.string ⟨(x::xs).toArray⟩,.int .i64 s.num,.int .i64 s.args] (N:=wr.heap.size+1) rfl (by simp) rfl (Zhk _ _ _) ?_ ?_ ?_))
    ·omega
    ·simp; omega
    intro v1 w1 hap
    obtain ⟨a1,c1,rfl⟩:=Zad hap.owns
    have Hap:=Zac hap
    clear hap
    go_wp2
    go_roundg (a.length - k)
    case measure=>omega
    case rel =>
     refine ⟨k+1,by go_num,by omega,by omega,?_,?_⟩
     ·exact Hext.out.trans ((HE.out.mono hsr).trans (Hap.out.kept.below (by simp; omega) (fun j hj=>(Hown1.out.lt j hj).1)))
     ·have:=Hap.out.owns
      rw [Hnx.out,Qr,Zdj]
      simpa [Zaj,Zbw,Hrs.out] using this
  ·have hek:k=a.length:=by omega
   subst hek
   go_wp2
   go_ret
   refine ⟨_,w.heap.size,rfl,Qe _,?_,Hext.out⟩
   have:=Hown.out
   rw [List.take_length] at this
   simpa using this
def tOf (ts:List (List Sym)) (s:Sym):List Sym:=if s.name=[] then (ts[s.num]?).getD [] else []
theorem Ykd {ts:List (List Sym)} {s:Sym} (h:tOf ts s=[]) (ha:s.name=[]→s.args=0):ap1 (sbOf ts) s=[s]:=by
 unfold ap1
 by_cases hn:s.name=[]
 ·rw [if_pos hn]
  unfold tOf at h
  rw [if_pos hn] at h
  unfold sbOf
  have hs:vr s.num=[s]:=by
   have:=ha hn
   cases s
   simp at hn this
   subst hn this
   rfl
  cases ht:ts[s.num]? with
  | none=>exact hs
  | some t=>rw [ht] at h; simp at h; subst h; exact hs
 ·rw [if_neg hn]
theorem Yhf {ts:List (List Sym)} {s t0:Sym} {t:List Sym} (h:tOf ts s=t0::t):ap1 (sbOf ts) s=t0::t:=by
 unfold tOf at h
 by_cases hn:s.name=[]
 ·rw [if_pos hn] at h
  unfold ap1
  rw [if_pos hn]
  unfold sbOf
  cases ht:ts[s.num]? with
  | none=>rw [ht] at h; simp at h
  | some u=>rw [ht] at h; simp at h; subst h; rfl
 ·rw [if_neg hn] at h; simp at h
def Yen (ts:List (List Sym)) (s:Sym) (w:World) (e:Ending) (w':World):Prop:=Ext w w'∧∃ x,e = .returned x∧WordAt w' x (tOf ts s)
theorem Yaj (w:World) (tv:Value) (ts:List (List Sym)) (vs:List Value) (s:Sym) (h:TermsAt w 0 tv ts vs) (hl:ts.length≤200001) (hn:s.num≤200000) :
  Calls Tryz.prog 111 #[.agg #[tv],.agg #[.string ⟨s.name.toArray⟩,.int .i64 s.num,.int .i64 s.args]] w (Yen ts s w):=by
 obtain ⟨ta,tcap,rfl⟩:=Zad h.owns
 have HE:Hid (∀ o o',Ext w ((w.alloc o).alloc o')):=fun o o'=>(Ext.of (by repeat' (first | with_reducible(first|exact Qx _ _|apply Kept.drew|apply Kept.drewN|apply Qz|refine Qy ?_ ?_ _)|exact fun h=>absurd h (by simp <;> omega))))
 cases hnm:s.name with
 | cons x xs =>
  have Ht:Hid (tOf ts s=[]):=by show _=_; unfold tOf; rw [if_neg (by rw [hnm]; simp)]
  clear h hnm
  go_enter Tryz.func111,Tryz.ntmps111
  go_wp2
  go_ret
  exact ⟨HE.out _ _,_,rfl,by rw [Ht.out]; exact World.ownsRow_nil _ _ _ _⟩
 | nil =>
  have h0:(0:Int)≤(s.num:Int):=by omega
  by_cases hlt:s.num<ts.length
  ·have hlt':(s.num:Int)<(ts.length:Int):=by omega
   obtain ⟨t,ht⟩:∃ t,ts[s.num]?=some t:=⟨_,Qb hlt⟩
   obtain ⟨x,hx,hxo⟩:=h.all _ t ht
   obtain ⟨xa,xcap,rfl⟩:=Zad hxo
   obtain ⟨g,tcap',cur,he,_,hgb,hgc⟩:=Zao h.owns (by omega)
   simp only [Value.slice.injEq] at he
   obtain ⟨rfl,_,rfl⟩:=he
   have x0:w.cell? ⟨g,s.num,none⟩=some (.slice xa t.length xcap):=Zai h.owns _ _ hx
   have hgl:=Zab hgb
   have Ht:Hid (tOf ts s=t):=by show _=_; unfold tOf; rw [if_pos hnm,ht]; rfl
   have Hxo:Hid (WordAt w (.slice xa t.length xcap) t):=hxo
   clear h hnm ht hx hxo hgb hgc
   go_enter Tryz.func111,Tryz.ntmps111
   go_wp2
   go_ret
   exact ⟨HE.out _ _,_,rfl,by rw [Ht.out]; exact Hxo.out.ext (HE.out _ _)⟩
  ·have hlt':¬ (s.num:Int)<(ts.length:Int):=by omega
   have Ht:Hid (tOf ts s=[]):=by show _=_; unfold tOf; rw [if_pos hnm,List.getElem?_eq_none (by omega)]; rfl
   clear h hnm
   go_enter Tryz.func111,Tryz.ntmps111
   go_wp2
   go_ret
   exact ⟨HE.out _ _,_,rfl,by rw [Ht.out]; exact World.ownsRow_nil _ _ _ _⟩
def Yhg (ts:List (List Sym)) (a:List Sym) (w:World) (e:Ending) (w':World):Prop:=Ext w w' ∧
 (((ap (sbOf ts) a).length≤30∧∃ x n c,e = .returned (.tuple #[.slice x n c,.bool true])∧w'.ownsRow w.heap.size 102 3 (.slice x n c) (ap (sbOf ts) a).length (Zaj (ap (sbOf ts) a)))∨(30<(ap (sbOf ts) a).length∧e = .returned (.tuple #[.slice none 0 0,.bool false])))
theorem Zow (σ:Nat→List Sym) (a:List Sym) (k:Nat):(ap σ (a.take k)).length≤(ap σ a).length:=by
 have h:ap σ a=ap σ (a.take k)++ap σ (a.drop k):=by rw [← Zgx,List.take_append_drop]
 rw [h]; simp
def ApplyAt (w:World) (tv:Value) (ts:List (List Sym)) (a:List Sym) (k:Nat) (rv:Value) (wr:World):Prop :=
 Ext w wr∧wr.heap[w.heap.size]?=some (.cells #[tv] 131 (0,0))∧wr.ownsRow w.heap.size 102 3 rv (ap (sbOf ts) (a.take k)).length (Zaj (ap (sbOf ts) (a.take k)))
theorem ApplyAt.app {w wr w1 w2:World} {tv rv rv2:Value} {ts:List (List Sym)} {a:List Sym} {k:Nat} {s:Sym} {m:List Sym} (h:ApplyAt w tv ts a k rv wr) (he:Ext wr w1) (hs:a[k]?=some s) (hm:ap1 (sbOf ts) s=m) (hap:Appended w1 w.heap.size 102 3 rv ((ap (sbOf ts) (a.take k)).length+m.length) (Zaj (ap (sbOf ts) (a.take k))++Zaj m) rv2 w2):ApplyAt w tv ts a (k+1) rv2 w2:=by
 obtain ⟨h1,h2,h3⟩:=h
 have hr:=Zah h3 (fun j hj=>he.block j (h3.lt j hj).2)
 have hb:=(he.block _ (Zab h2)).trans h2
 have hsz:=he.size
 have hnx:ap (sbOf ts) (a.take (k+1))=ap (sbOf ts) (a.take k)++m:=by
  rw [List.take_add_one,hs,Zgx,← hm]
  simp [ap]
 refine ⟨h1.trans ((he.mono h1.size).trans (hap.kept.below (Qq h1.size hsz) (fun j hj=>(hr.lt j hj).1))),(hap.kept.block _ (Zab hb) (Zag hr (by decide) hb)).trans hb,?_⟩
 rw [hnx,Zdj,Qg]
 exact hap.owns
theorem Yeo (w:World) (tv av:Value) (ts:List (List Sym)) (vs:List Value) (a:List Sym) (h:TermsAt w 0 tv ts vs) (hav:WordAt w av a) (hw:∃ k,Wf k a) (hl:ts.length≤200001) (ht:∀ t ∈ ts,t.length≤30) (hal:a.length≤1000) (hn:∀ s ∈ a,s.num≤200000) :
  Calls Tryz.prog 97 #[.agg #[tv],av] w (Yhg ts a w):=by
 obtain ⟨ta,tcap,rfl⟩:=Zad h.owns
 obtain ⟨va,vcap,rfl⟩:=Zad hav
 have H:=Zac h
 have Hav:=Zac hav
 have Hn:=Zac hn
 have Ht:=Zac ht
 have Hw:=Zac hw
 clear h hav hn ht hw
 go_enter Tryz.func97,Tryz.ntmps97
 go_wp2
 go_loopg [6,12] (a.length+1) (fun gk rv iv wr=>∃ (k:Nat),iv = .int .i64 k∧k≤a.length∧a.length - k<gk∧(ap (sbOf ts) (a.take k)).length≤30∧ApplyAt w (.slice ta ts.length tcap) ts a k rv wr)
 case atStart=>exact ⟨0,by go_num,Qm _,by omega,by simp [ap],(Ext.of (by repeat' (first | with_reducible(first|exact Qx _ _|apply Kept.drew|apply Kept.drewN|apply Qz|refine Qy ?_ ?_ _)|exact fun h=>absurd h (by simp <;> omega)))),heap_alloc_new w _,World.ownsRow_nil _ _ _ _⟩
 case round =>
  obtain ⟨k,rfl,hk,hgk,h30,hA⟩:=hrel
  obtain ⟨ra,rcap,rfl⟩:=Zad hA.2.2
  have hsr:=hA.1.size
  have hb0:=Zab hA.2.1
  have s0:wr.cell? ⟨w.heap.size,0,none⟩=some (.slice ta ts.length tcap):=Zaa hA.2.1 0 _ rfl
  have HA:=Zac hA
  clear hA
  by_cases hlt:k<a.length
  ·obtain ⟨s,hs⟩:∃ s,a[k]?=some s:=⟨_,Qb hlt⟩
   obtain ⟨g,cap',cur,he,_,hgb,_⟩:=Zao Hav.out (by omega)
   simp only [Value.slice.injEq] at he
   obtain ⟨rfl,_,rfl⟩:=he
   have ho:=Zah Hav.out (fun j hj=>HA.out.1.block j (Hav.out.lt j hj).2)
   have hgw:=Zab hgb
   have hgr:g<wr.heap.size:=by omega
   have e0:wr.cell? ⟨g,k * 3,none⟩=some (.string ⟨s.name.toArray⟩):=Zai ho _ _ (by have:=Zaz a k s hs 0 (by omega); rw [Nat.add_zero] at this; rw [this]; rfl)
   have e1:wr.cell? ⟨g,k * 3+1,none⟩=some (.int .i64 s.num):=Zai ho _ _ (by rw [Zaz a k s hs 1 (by omega)]; rfl)
   have e2:wr.cell? ⟨g,k * 3+2,none⟩=some (.int .i64 s.args):=Zai ho _ _ (by rw [Zaz a k s hs 2 (by omega)]; rfl)
   have hsa:s.name=[]→s.args=0:=by obtain ⟨j,hj⟩:=Hw.out; exact (Zjo hj hs).1
   have hE:Ext wr (wr.alloc (.cells #[.string ⟨s.name.toArray⟩,.int .i64 s.num,.int .i64 s.args] 102)):=(Ext.of (by repeat' (first | with_reducible(first|exact Qx _ _|apply Kept.drew|apply Kept.drewN|apply Qz|refine Qy ?_ ?_ _)|exact fun h=>absurd h (by simp <;> omega))))
   have HT:=Zac (Yaj (wr.alloc (.cells #[.string ⟨s.name.toArray⟩,.int .i64 s.num,.int .i64 s.args] 102)) _ ts vs s (H.out.ext (HA.out.1.trans (hE.mono hsr))) hl (Hn.out s (Qh hs)))
   have htl:(tOf ts s).length≤30:=by
    unfold tOf
    split
    ·cases hq:ts[s.num]? with
     | none=>simp
     | some t=>exact Ht.out t (Qh hq)
    ·simp
   have Hs:=Zac hs
   have HE:=Zac hE
   have Hsa:=Zac hsa
   clear hs ho hgb hE hsa
   go_wp2_with fail
   refine HT.out.mono ?_
   rintro e w1 ⟨hE1,x,rfl,hx⟩
   obtain ⟨xa,xcap,rfl⟩:=Zad hx
   obtain ⟨t,hte⟩:∃ t,t=tOf ts s:=⟨_,rfl⟩
   have hE2:Ext wr w1:=HE.out.trans (hE1.mono (by simp))
   have hA1:ApplyAt w (.slice ta ts.length tcap) ts a k (.slice ra (ap (sbOf ts) (a.take k)).length rcap) w1:=by
    obtain ⟨q1,q2,q3⟩:=HA.out
    exact ⟨q1.trans (hE2.mono q1.size),(hE2.block _ (Zab q2)).trans q2,Zah q3 (fun j hj=>hE2.block j (q3.lt j hj).2)⟩
   have hbx:w1.heap[wr.heap.size]?=some (.cells #[.string ⟨s.name.toArray⟩,.int .i64 s.num,.int .i64 s.args] 102 (0,0)):=(hE1.block _ (by simp)).trans (heap_alloc_new wr _)
   have y0:=Zaa hbx 0 _ rfl
   have y1:=Zaa hbx 1 _ rfl
   have y2:=Zaa hbx 2 _ rfl
   have hby:=Zab hbx
   have hs1:=hE1.size
   have hs1:wr.heap.size+1≤w1.heap.size:=by simpa using hs1
   have s0:w1.cell? ⟨w.heap.size,0,none⟩=some (.slice ta ts.length tcap):=Zaa hA1.2.1 0 _ rfl
   obtain ⟨n0,hn0⟩:∃ n,n=(ap (sbOf ts) (a.take k)).length:=⟨_,rfl⟩
   obtain ⟨cs0,hcs0⟩:∃ c,c=Zaj (ap (sbOf ts) (a.take k)):=⟨_,rfl⟩
   have Hrow:Hid (w1.ownsRow w.heap.size 102 3 (.slice ra n0 rcap) n0 cs0):=by rw [hn0,hcs0]; exact hA1.2.2
   rw [← hte] at hx htl ⊢
   rw [← hn0] at h30 ⊢
   have HA1:=Zac hA1
   have Hte:=Zac hte
   have Hn0:=Zac hn0
   have Hcs0:=Zac hcs0
   have Hx:=Zac hx
   clear hE1 hE2 hA1 hbx hte hn0 hcs0 hx e0 e1 e2 HT
   cases t with
   | nil =>
    have Hm:Hid (ap1 (sbOf ts) s=[s]):=Ykd Hte.out.symm Hsa.out
    go_wp2_with (at_builtin; go_loud (refine Zam w1 rfl (.tmp 22) (.tmp 24) 72 rfl w.heap.size 102 Tryz.infoSym Tryz.underlying72 rfl (by decide) (.slice ra n0 rcap) n0 cs0 rfl Hrow.out #[.string ⟨s.name.toArray⟩,.int .i64 s.num,.int .i64 s.args] (N:=w1.heap.size) rfl (by simp) rfl (Zhk _ _ _) ?_ ?_ ?_))
    ·omega
    ·omega
    intro v2 w2 hap
    obtain ⟨a2,c2,rfl⟩:=Zad hap.owns
    have hA2:ApplyAt w (.slice ta ts.length tcap) ts a (k+1) (.slice a2 (n0+1) c2) w2:=by
     have hA1:=HA1.out
     rw [← Hn0.out] at hA1
     refine hA1.app (w1:=w1) (m:=[s]) (Below.refl _ _) Hs.out Hm.out ?_
     rw [← Hn0.out,← Hcs0.out]
     simpa [Zaj,Zbw] using hap
    have hl2:(ap (sbOf ts) (a.take (k+1))).length=n0+1:=by
     obtain ⟨qa,qc,qe⟩:=Zad hA2.2.2
     simp only [Value.slice.injEq] at qe
     exact qe.2.1.symm
    have HA2:=Zac hA2
    have Hl2:=Zac hl2
    clear hap hA2 hl2
    by_cases h31:n0+1≤30
    ·have h31':¬ ((30:Int)<((n0+1:Nat):Int)):=by omega
     go_wp2
     go_roundg (a.length - k)
     case measure=>omega
     case rel=>exact ⟨k+1,by go_num,by omega,by omega,by rw [Hl2.out]; exact h31,HA2.out⟩
    ·have h31':(30:Int)<((n0+1:Nat):Int):=by omega
     go_wp2
     go_ret2
     exact ⟨HA2.out.1,Or.inr ⟨by have:=Zow (sbOf ts) a (k+1); rw [Hl2.out] at this; omega,rfl⟩⟩
   | cons t0 t =>
    have Hm:Hid (ap1 (sbOf ts) s=t0::t):=Yhf Hte.out.symm
    have HR:Hid (Zzj w1 3 (.slice xa (t0::t).length xcap) (t0::t).length (Zaj (t0::t))):=Zrz Hx.out (Ztf _)
    obtain ⟨tl,htl'⟩:∃ n,n=(t0::t).length:=⟨_,rfl⟩
    have hpos:0<tl:=by rw [htl']; simp
    have hz:((tl:Int) == 0)=false:=by rw [Qu]; omega
    rw [← htl'] at HR htl ⊢
    have Htl:=Zac htl'
    clear htl'
    go_wp2_with (at_builtin; go_loud (refine Zjd w1 rfl (.tmp 26) (.tmp 27) 72 rfl w.heap.size 102 Tryz.infoSym Tryz.underlying72 rfl (by decide) (.slice ra n0 rcap) n0 cs0 rfl Hrow.out (.slice xa tl xcap) tl (Zaj (t0::t)) rfl HR.out ?_ ?_ ?_))
    ·omega
    ·omega
    intro v2 w2 hap
    obtain ⟨a2,c2,rfl⟩:=Zad hap.owns
    have hA2:ApplyAt w (.slice ta ts.length tcap) ts a (k+1) (.slice a2 (n0+tl) c2) w2:=by
     have hA1:=HA1.out
     rw [← Hn0.out] at hA1
     refine hA1.app (w1:=w1) (m:=t0::t) (Below.refl _ _) Hs.out Hm.out ?_
     rw [← Hn0.out,← Hcs0.out,← Htl.out]
     exact hap
    have hl2:(ap (sbOf ts) (a.take (k+1))).length=n0+tl:=by
     obtain ⟨qa,qc,qe⟩:=Zad hA2.2.2
     simp only [Value.slice.injEq] at qe
     exact qe.2.1.symm
    have HA2:=Zac hA2
    have Hl2:=Zac hl2
    clear hap hA2 hl2
    by_cases h31:n0+tl≤30
    ·have h31':¬ ((30:Int)<((n0+tl:Nat):Int)):=by omega
     go_wp2
     go_roundg (a.length - k)
     case measure=>omega
     case rel=>exact ⟨k+1,by go_num,by omega,by omega,by rw [Hl2.out]; exact h31,HA2.out⟩
    ·have h31':(30:Int)<((n0+tl:Nat):Int):=by omega
     go_wp2
     go_ret2
     exact ⟨HA2.out.1,Or.inr ⟨by have:=Zow (sbOf ts) a (k+1); rw [Hl2.out] at this; omega,rfl⟩⟩
  ·have hek:k=a.length:=by omega
   subst hek
   obtain ⟨n0,hn0⟩:∃ n,n=(ap (sbOf ts) (a.take a.length)).length:=⟨_,rfl⟩
   rw [← hn0] at h30 ⊢
   have Hn0:=Zac hn0
   clear hn0
   go_wp2
   go_ret2
   have hn0:=Hn0.out
   have hA:=HA.out
   rw [List.take_length] at hn0
   obtain ⟨q1,q2,q3⟩:=hA
   rw [List.take_length] at q3
   refine ⟨q1,Or.inl ⟨by omega,ra,n0,rcap,rfl,?_⟩⟩
   rw [hn0]
   exact q3
structure TmOk (a:List Sym):Prop where
 wf:∃ k,Wf k a
 len:a.length≤1000
 num:∀ s ∈ a,s.num≤200000
def AppliedOut (ts ls:List (List Sym)) (w:World) (e:Ending) (w':World):Prop:=Ext w w' ∧
 (((∀ l ∈ ls,(ap (sbOf ts) l).length≤30)∧∃ x c,e = .returned (.tuple #[.slice x ls.length c,.bool true])∧TermsNew w.heap.size w' (.slice x ls.length c) (ls.map (ap (sbOf ts))))∨((∃ l ∈ ls,30<(ap (sbOf ts) l).length)∧e = .returned (.tuple #[.slice none 0 0,.bool false])))
def AppliedAt (w:World) (tv:Value) (ts ls:List (List Sym)) (k:Nat) (rv:Value) (xs:List Value) (wr:World):Prop :=
 Ext w wr∧wr.heap[w.heap.size]?=some (.cells #[tv] 131 (0,0))∧TermsAt wr w.heap.size rv ((ls.take k).map (ap (sbOf ts))) xs∧∀ x ∈ xs,∀ j,x.ownBlock=some j→w.heap.size≤j
theorem AppliedAt.app {w wr w1 w2:World} {tv rv rv2 x:Value} {ts ls:List (List Sym)} {k:Nat} {l:List Sym} {xs:List Value} (h:AppliedAt w tv ts ls k rv xs wr) (he:Ext wr w1) (hl:ls[k]?=some l) (hx:w1.ownsRow w.heap.size 102 3 x (ap (sbOf ts) l).length (Zaj (ap (sbOf ts) l))) (hap:Appended w1 w.heap.size 72 1 rv (k+1) (xs++[x]) rv2 w2):AppliedAt w tv ts ls (k+1) rv2 (xs++[x]) w2:=by
 obtain ⟨h1,h2,h3,hf⟩:=h
 have h3':=h3.ext he
 have hb:=(he.block _ (Zab h2)).trans h2
 have hsz:=he.size
 have hkl:=(Qa.1 hl).1
 have hlen:((ls.take k).map (ap (sbOf ts))).length=k:=by simp; omega
 refine ⟨h1.trans ((he.mono h1.size).trans (hap.kept.below (Qq h1.size hsz) (fun j hj=>(h3'.owns.lt j hj).1))),(hap.kept.block _ (Zab hb) (Zag h3'.owns (by decide) hb)).trans hb,?_,fun y hy j hj => ?_⟩
 rotate_left
 ·rcases Qk.1 hy with hy | hy
  ·exact hf y hy j hj
  ·simp at hy
   subst hy
   exact (hx.lt j hj).1
 rw [List.take_add_one,hl]
 simp only [Option.toList,Qr,List.map_cons,List.map_nil]
 exact h3'.snoc (by rw [hlen]; exact hap) (Zba hx (Qm _))
theorem Zjr (w:World) (tv av:Value) (ts ls:List (List Sym)) (vs:List Value) (h:TermsAt w 0 tv ts vs) (hav:TermsIn w av ls) (hl:ts.length≤200001) (ht:∀ t ∈ ts,t.length≤30) (hal:ls.length≤4000) (hls:∀ l ∈ ls,TmOk l) :
  Calls Tryz.prog 75 #[.agg #[tv],av] w (AppliedOut ts ls w):=by
 obtain ⟨us,hav⟩:=hav
 obtain ⟨ta,tcap,rfl⟩:=Zad h.owns
 obtain ⟨va,vcap,rfl⟩:=Zad hav.owns
 have H:=Zac h
 have Hav:=Zac hav
 have Ht:=Zac ht
 have Hls:=Zac hls
 clear h hav ht hls
 go_enter Tryz.func75,Tryz.ntmps75
 go_wp2
 go_loopg [6,13] (ls.length+1) (fun gk rv iv wr=>∃ (k:Nat) (xs:List Value),iv = .int .i64 k∧k≤ls.length∧ls.length - k<gk∧(∀ l ∈ ls.take k,(ap (sbOf ts) l).length≤30)∧AppliedAt w (.slice ta ts.length tcap) ts ls k rv xs wr)
 case atStart=>exact ⟨0,[],by go_num,Qm _,by omega,by simp,(Ext.of (by repeat' (first | with_reducible(first|exact Qx _ _|apply Kept.drew|apply Kept.drewN|apply Qz|refine Qy ?_ ?_ _)|exact fun h=>absurd h (by simp <;> omega)))),heap_alloc_new w _,TermsAt.nil _ _,by simp⟩
 case round =>
  obtain ⟨k,xs,rfl,hk,hgk,h30,hA⟩:=hrel
  have hlk:((ls.take k).map (ap (sbOf ts))).length=k:=by simp; omega
  have hrow:=hA.2.2.1.owns
  rw [hlk] at hrow
  obtain ⟨ra,rcap,rfl⟩:=Zad hrow
  have hsr:=hA.1.size
  have hb0:=Zab hA.2.1
  have s0:wr.cell? ⟨w.heap.size,0,none⟩=some (.slice ta ts.length tcap):=Zaa hA.2.1 0 _ rfl
  have HA:=Zac hA
  have H30:=Zac h30
  clear hA h30 hrow hlk
  by_cases hlt:k<ls.length
  ·obtain ⟨l,hs⟩:∃ l,ls[k]?=some l:=⟨_,Qb hlt⟩
   obtain ⟨x,hx,hxo⟩:=Hav.out.all _ l hs
   obtain ⟨xa,xcap,rfl⟩:=Zad hxo
   obtain ⟨g,cap',cur,he,_,hgb,_⟩:=Zao Hav.out.owns (by omega)
   simp only [Value.slice.injEq] at he
   obtain ⟨rfl,_,rfl⟩:=he
   have hgw:=Zab hgb
   have hgr:g<wr.heap.size:=by omega
   have x0:wr.cell? ⟨g,k,none⟩=some (.slice xa l.length xcap):=(HA.out.1.cell (p:=⟨g,k,none⟩) hgw).trans (Zai Hav.out.owns _ _ hx)
   obtain ⟨o1,o2,o3⟩:=Hls.out l (Qh hs)
   have HT:=Zac (Yeo wr (.slice ta ts.length tcap) (.slice xa l.length xcap) ts vs l (H.out.ext HA.out.1) (WordAt.ext hxo HA.out.1) o1 hl Ht.out o2 o3)
   have Hs:=Zac hs
   clear hs hx hxo hgb o1 o3
   go_wp2_with fail
   refine HT.out.mono ?_
   rintro e w1 ⟨hE1,hout⟩
   have hs1:=hE1.size
   rcases hout with ⟨hsm,ya,yn,yc,rfl,hy⟩ | ⟨hbig,rfl⟩
   ·have Hrow:Hid (w1.ownsRow w.heap.size 72 1 (.slice ra k rcap) k xs):=by
     have:=(HA.out.2.2.1.ext hE1).owns
     rw [show ((ls.take k).map (ap (sbOf ts))).length=k by simp; omega] at this
     exact this
    have HE1:=Zac hE1
    have Hsm:=Zac hsm
    have Hy:=Zac hy
    clear hE1 hsm hy HT
    go_wp2_with (at_builtin; go_loud (refine Zam w1 rfl (.tmp 25) (.tmp 27) 63 rfl w.heap.size 72 Tryz.infoSyms Tryz.underlying63 rfl (by decide) (.slice ra k rcap) k xs rfl Hrow.out #[.slice ya yn yc] (N:=w1.heap.size) rfl (by simp) rfl (Zeb _ _ _) ?_ ?_ ?_))
    ·omega
    ·omega
    intro v2 w2 hap
    obtain ⟨a2,c2,rfl⟩:=Zad hap.owns
    have hA2:=HA.out.app HE1.out Hs.out (Zba Hy.out hsr) hap
    have HA2:=Zac hA2
    clear hap hA2
    go_wp2
    go_roundg (ls.length - k)
    case measure=>omega
    case rel =>
     refine ⟨k+1,_,by go_num,by omega,by omega,fun m hm => ?_,HA2.out⟩
     rw [List.take_add_one,Hs.out] at hm
     rcases Qk.1 hm with hm | hm
     ·exact H30.out m hm
     ·simp at hm; subst hm; exact Hsm.out
   ·have HE:Hid (Ext w w1):=HA.out.1.trans (hE1.mono hsr)
    have Hbig:Hid (∃ l ∈ ls,30<(ap (sbOf ts) l).length):=⟨l,Qh Hs.out,hbig⟩
    clear hE1 hbig
    go_wp2
    go_ret2
    exact ⟨HE.out,Or.inr ⟨Hbig.out,rfl⟩⟩
  ·have hek:k=ls.length:=by omega
   subst hek
   go_wp2
   go_ret2
   have h30:=H30.out
   obtain ⟨q1,q2,q3,q4⟩:=HA.out
   rw [List.take_length] at q3 h30
   exact ⟨q1,Or.inl ⟨h30,ra,rcap,rfl,xs,⟨Zba q3.owns (Qm _),q3.all⟩,fun j hj=>(q3.owns.lt j hj).1,q4⟩⟩
theorem AppliedOut.form {ts ls:List (List Sym)} {w w':World} {e:Ending} (h:AppliedOut ts ls w e w'):Ext w w'∧∃ x n c b,e = .returned (.tuple #[.slice x n c,.bool b])∧(b=true→(∀ l ∈ ls,(ap (sbOf ts) l).length≤30)∧TermsNew w.heap.size w' (.slice x n c) (ls.map (ap (sbOf ts))))∧(b=false→∃ l ∈ ls,30<(ap (sbOf ts) l).length):=by
 obtain ⟨h1,⟨h2,x,c,rfl,h3⟩ | ⟨h2,rfl⟩⟩:=h
 ·exact ⟨h1,x,_,c,true,rfl,fun _=>⟨h2,h3⟩,fun h=>by simp at h⟩
 ·exact ⟨h1,none,0,0,false,rfl,fun h=>(by simp at h),fun _=>h2⟩
def Yep (ts gs vs ds:List (List Sym)) (u:Nat) (w:World) (e:Ending) (w':World):Prop:=Ext w w' ∧
 (((∀ l ∈ gs++(vs++ds),(ap (sbOf ts) l).length≤30)∧∃ g1 g2 g3 v1 v2 v3 r1 r2 r3,e = .returned (.tuple #[.agg #[.slice g1 g2 g3,.slice v1 v2 v3,.slice r1 r2 r3,.int .i64 u],.int .i64 1])∧TermsNew w.heap.size w' (.slice g1 g2 g3) (gs.map (ap (sbOf ts)))∧TermsNew w.heap.size w' (.slice v1 v2 v3) (vs.map (ap (sbOf ts)))∧TermsNew w.heap.size w' (.slice r1 r2 r3) (ds.map (ap (sbOf ts)))) ∨
  ((∃ l ∈ gs++(vs++ds),30<(ap (sbOf ts) l).length)∧e = .returned (.tuple #[.agg #[.slice none 0 0,.slice none 0 0,.slice none 0 0,.int .i64 0],.int .i64 2])))
theorem Zqo (w:World) (tv gv vv rv:Value) (ts gs vs ds:List (List Sym)) (us:List Value) (u:Nat) (h:TermsAt w 0 tv ts us) (h1:TermsIn w gv gs) (h2:TermsIn w vv vs) (h3:TermsIn w rv ds) (hl:ts.length≤200001) (ht:∀ t ∈ ts,t.length≤30)
  (hg:gs.length≤4000) (hv:vs.length≤4000) (hd:ds.length≤4000) (ho:∀ l ∈ gs++(vs++ds),TmOk l) (hu:u≤1000000) :
  Calls Tryz.prog 63 #[.agg #[gv,vv,rv,.int .i64 u],.agg #[tv]] w (Yep ts gs vs ds u w):=by
 obtain ⟨ta,tcap,rfl⟩:=Zad h.owns
 obtain ⟨ga,gcap,rfl⟩:∃ a c,gv = .slice a gs.length c:=by obtain ⟨_,q⟩:=h1; exact Zad q.owns
 obtain ⟨va,vcap,rfl⟩:∃ a c,vv = .slice a vs.length c:=by obtain ⟨_,q⟩:=h2; exact Zad q.owns
 obtain ⟨ra,rcap,rfl⟩:∃ a c,rv = .slice a ds.length c:=by obtain ⟨_,q⟩:=h3; exact Zad q.owns
 obtain ⟨W,hW⟩:∃ W,W=((w.alloc (.cells #[.slice ga gs.length gcap,.slice va vs.length vcap,.slice ra ds.length rcap,.int .i64 u] 65)).alloc (.cells #[.slice ta ts.length tcap] 131)).alloc (.cells #[.slice none 0 0,.slice none 0 0,.slice none 0 0,.int .i64 0] 65):=⟨_,rfl⟩
 have hE0:Ext w W:=by rw [hW]; exact (Ext.of (by repeat' (first | with_reducible(first|exact Qx _ _|apply Kept.drew|apply Kept.drewN|apply Qz|refine Qy ?_ ?_ _)|exact fun h=>absurd h (by simp <;> omega))))
 have hWs:W.heap.size=w.heap.size+3:=by rw [hW]; simp
 have hb0:W.heap[w.heap.size]?=some (.cells #[.slice ga gs.length gcap,.slice va vs.length vcap,.slice ra ds.length rcap,.int .i64 u] 65 (0,0)):=by rw [hW]; exact Zar (Zar (heap_alloc_new w _) _) _
 have hb1:W.heap[w.heap.size+1]?=some (.cells #[.slice ta ts.length tcap] 131 (0,0)):=by
  rw [hW]; refine Zar ?_ _
  have:=heap_alloc_new (w.alloc (.cells #[.slice ga gs.length gcap,.slice va vs.length vcap,.slice ra ds.length rcap,.int .i64 u] 65)) (.cells #[.slice ta ts.length tcap] 131)
  simpa using this
 have hb2:W.heap[w.heap.size+2]?=some (.cells #[.slice none 0 0,.slice none 0 0,.slice none 0 0,.int .i64 0] 65 (0,0)):=by
  rw [hW]
  have:=heap_alloc_new ((w.alloc (.cells #[.slice ga gs.length gcap,.slice va vs.length vcap,.slice ra ds.length rcap,.int .i64 u] 65)).alloc (.cells #[.slice ta ts.length tcap] 131)) (.cells #[.slice none 0 0,.slice none 0 0,.slice none 0 0,.int .i64 0] 65)
  simpa using this
 have HC1:=Zac (Zjr W (.slice ta ts.length tcap) (.slice ga gs.length gcap) ts gs us (h.ext hE0) (h1.ext hE0) hl ht hg (fun l hl=>ho l (by simp [hl])))
 have HC2:Hid (∀ u,Ext W u→Calls Tryz.prog 75 #[.agg #[.slice ta ts.length tcap],.slice va vs.length vcap] u (AppliedOut ts vs u)):=fun u hE=>Zjr u _ _ ts vs us ((h.ext hE0).ext hE) ((h2.ext hE0).ext hE) hl ht hv (fun l hl=>ho l (by simp [hl]))
 have HC3:Hid (∀ u,Ext W u→Calls Tryz.prog 75 #[.agg #[.slice ta ts.length tcap],.slice ra ds.length rcap] u (AppliedOut ts ds u)):=fun u hE=>Zjr u _ _ ts ds us ((h.ext hE0).ext hE) ((h3.ext hE0).ext hE) hl ht hd (fun l hl=>ho l (by simp [hl]))
 have HB:Hid (∀ y,Ext W y→y.cell? ⟨w.heap.size,0,none⟩=some (.slice ga gs.length gcap)∧y.cell? ⟨w.heap.size,1,none⟩=some (.slice va vs.length vcap)∧y.cell? ⟨w.heap.size,2,none⟩=some (.slice ra ds.length rcap)∧y.cell? ⟨w.heap.size,3,none⟩=some (.int .i64 u)∧y.cell? ⟨w.heap.size+1,0,none⟩=some (.slice ta ts.length tcap) ∧
   y.heap[w.heap.size+2]?=some (.cells #[.slice none 0 0,.slice none 0 0,.slice none 0 0,.int .i64 0] 65 (0,0))∧w.heap.size+2<y.heap.size):=fun y hE=>by
  have e0:=(hE.block _ (Zab hb0)).trans hb0
  have e1:=(hE.block _ (Zab hb1)).trans hb1
  have e2:=(hE.block _ (Zab hb2)).trans hb2
  exact ⟨Zaa e0 0 _ rfl,Zaa e0 1 _ rfl,Zaa e0 2 _ rfl,Zaa e0 3 _ rfl,Zaa e1 0 _ rfl,e2,Zab e2⟩
 have HE0:=Zac hE0
 clear h h1 h2 h3 ht ho hE0 hb0 hb1 hb2
 go_enter Tryz.func63,Tryz.ntmps63
 go_wp2_with fail
 rw [← hW]
 refine HC1.out.mono ?_
 rintro e w1 hout1
 obtain ⟨hE1,ga1,gn1,gc1,b1,rfl,hT1,hF1⟩:=hout1.form
 obtain ⟨c0,c1,c2,c3,c4,c5,c6⟩:=HB.out w1 hE1
 have hz1:=hE1.size
 have HT1:=Zac hT1
 have HF1:=Zac hF1
 have HE1:=Zac hE1
 have HW:=Zac hW
 clear hout1 hT1 hF1 hE1 HC1 hW
 go_wp2_with fail
 refine (HC2.out w1 HE1.out).mono ?_
 rintro e w2 hout2
 obtain ⟨hE2,ga2,gn2,gc2,b2,rfl,hT2,hF2⟩:=hout2.form
 have hE2':=HE1.out.trans (hE2.mono hz1)
 obtain ⟨c0,c1,c2,c3,c4,c5,c6⟩:=HB.out w2 hE2'
 have hz2:=hE2.size
 have HT2:=Zac hT2
 have HF2:=Zac hF2
 have HE2:=Zac hE2
 have HE2':=Zac hE2'
 clear hout2 hT2 hF2 hE2 hE2'
 go_wp2_with fail
 refine (HC3.out w2 HE2'.out).mono ?_
 rintro e w3 hout3
 obtain ⟨hE3,ga3,gn3,gc3,b3,rfl,hT3,hF3⟩:=hout3.form
 have hE3':=HE2'.out.trans (hE3.mono (Qq hz1 hz2))
 obtain ⟨c0,c1,c2,c3,c4,c5,c6⟩:=HB.out w3 hE3'
 have r0:=Zaa c5 0 _ rfl
 have r1:=Zaa c5 1 _ rfl
 have r2:=Zaa c5 2 _ rfl
 have r3:=Zaa c5 3 _ rfl
 have rf:=fun i=>Zae c5 i
 have hz3:=hE3.size
 have hEw:Ext w w3:=HE0.out.trans (hE3'.mono (by omega))
 have HT3:=Zac hT3
 have HF3:=Zac hF3
 have HE3:=Zac hE3
 have HEw:=Zac hEw
 have Hc5:=Zac c5
 clear hout3 hT3 hF3 hE3 hE3' hEw c5
 have hbig:Hid (b1=false∨b2=false∨b3=false→∃ l ∈ gs++(vs++ds),30<(ap (sbOf ts) l).length):=by
  show _→_
  rintro (h | h | h)
  ·obtain ⟨l,h1,h2⟩:=HF1.out h; exact ⟨l,by simp [h1],h2⟩
  ·obtain ⟨l,h1,h2⟩:=HF2.out h; exact ⟨l,by simp [h1],h2⟩
  ·obtain ⟨l,h1,h2⟩:=HF3.out h; exact ⟨l,by simp [h1],h2⟩
 have hset:Hid (∀ x0 x1 x2 x3,Ext w ((((w3.setCell ⟨w.heap.size+2,0,none⟩ x0).setCell ⟨w.heap.size+2,1,none⟩ x1).setCell ⟨w.heap.size+2,2,none⟩ x2).setCell ⟨w.heap.size+2,3,none⟩ x3)):=fun x0 x1 x2 x3 =>
  (((HEw.out.setCell (p:=⟨w.heap.size+2,0,none⟩) (by simp) _).setCell (p:=⟨w.heap.size+2,1,none⟩) (by simp) _).setCell (p:=⟨w.heap.size+2,2,none⟩) (by simp) _).setCell (p:=⟨w.heap.size+2,3,none⟩) (by simp) _
 cases b1 with
 | false =>
  go_wp2
  refine bodyPost_ret (v := .tuple #[.agg #[.slice none 0 0,.slice none 0 0,.slice none 0 0,.int .i64 0],.int .i64 2]) (by simp [results,Tryz.results63,go_sem,r0,r1,r2,r3,rf,c6]) rfl ?_
  exact ⟨hset.out _ _ _ _,Or.inr ⟨hbig.out (by simp),rfl⟩⟩
 | true =>
  cases b2 with
  | false =>
   go_wp2
   refine bodyPost_ret (v := .tuple #[.agg #[.slice none 0 0,.slice none 0 0,.slice none 0 0,.int .i64 0],.int .i64 2]) (by simp [results,Tryz.results63,go_sem,r0,r1,r2,r3,rf,c6]) rfl ?_
   exact ⟨hset.out _ _ _ _,Or.inr ⟨hbig.out (by simp),rfl⟩⟩
  | true =>
   cases b3 with
   | false =>
    go_wp2
    refine bodyPost_ret (v := .tuple #[.agg #[.slice none 0 0,.slice none 0 0,.slice none 0 0,.int .i64 0],.int .i64 2]) (by simp [results,Tryz.results63,go_sem,r0,r1,r2,r3,rf,c6]) rfl ?_
    exact ⟨hset.out _ _ _ _,Or.inr ⟨hbig.out (by simp),rfl⟩⟩
   | true =>
    go_wp2
    refine bodyPost_ret (v := .tuple #[.agg #[.slice ga1 gn1 gc1,.slice ga2 gn2 gc2,.slice ga3 gn3 gc3,.int .i64 u],.int .i64 1]) (by simp [results,Tryz.results63,go_sem,r0,r1,r2,r3,rf,c6]) rfl ?_
    have hK:∀ x0 x1 x2 x3,Kept (fun j=>j=w.heap.size+2) w3 ((((w3.setCell ⟨w.heap.size+2,0,none⟩ x0).setCell ⟨w.heap.size+2,1,none⟩ x1).setCell ⟨w.heap.size+2,2,none⟩ x2).setCell ⟨w.heap.size+2,3,none⟩ x3):=fun x0 x1 x2 x3=>((((Qx (only (w.heap.size+2)) w3).put 0 _).put 1 _).put 2 _).put 3 _
    obtain ⟨s1,t1⟩:=HT1.out (by simp)
    obtain ⟨s2,t2⟩:=HT2.out (by simp)
    obtain ⟨s3,t3⟩:=HT3.out (by simp)
    refine ⟨hset.out _ _ _ _,Or.inl ⟨fun l hl => ?_,_,_,_,_,_,_,_,_,_,rfl,?_,?_,?_⟩⟩
    ·rcases Qk.1 hl with hl | hl
     ·exact s1 l hl
     ·rcases Qk.1 hl with hl | hl
      ·exact s2 l hl
      ·exact s3 l hl
    ·exact (((t1.ext HE2.out).ext HE3.out).box Hc5.out (by decide) (by decide) (hK _ _ _ _)).mono (by omega)
    ·exact ((t2.ext HE3.out).box Hc5.out (by decide) (by decide) (hK _ _ _ _)).mono (by omega)
    ·exact (t3.box Hc5.out (by decide) (by decide) (hK _ _ _ _)).mono (by omega)
theorem Yke (a:List Sym):a.map (rn 0)=a:=by
 have:∀ s:Sym,rn 0 s=s:=fun s=>by
  unfold rn
  split
  ·rename_i h; cases s; simp at h; subst h; rfl
  ·rfl
 induction a with
 | nil=>rfl
 | cons s a ih=>rw [List.map_cons,this,ih]
theorem Zve (w:World) (n:Nat):WordAt (w.alloc (.cells #[.string ⟨#[]⟩,.int .i64 n,.int .i64 0] 102)) (.slice (some ⟨w.heap.size,0,none⟩) 1 1) (vr n) :=
 ⟨rfl,Or.inr ⟨_,1,#[.string ⟨#[]⟩,.int .i64 n,.int .i64 0],rfl,Qm _,heap_alloc_new w _,Qe _,by unfold maxLen; omega,rfl,rfl⟩⟩
theorem TermsAt.aside {w w':World} {B B2 n:Nat} {v vv:Value} {ls:List (List Sym)} {vs ys:List Value} (h:TermsAt w B v ls vs) (hl:∀ j,v.ownBlock=some j→j<B2) (hv:w.ownsRow B2 72 1 vv n ys) (hk:Kept (Zbl vv) w w'):TermsAt w' B v ls vs :=
 ⟨hk.owns h.owns (fun j hj hS=>by have:=(hv.lt j hS).1; have:=hl j hj; omega),fun i l hi=>by
  obtain ⟨x,h1,h2⟩:=h.all i l hi
  refine ⟨x,h1,hk.owns h2 (fun j hj hS => ?_)⟩
  obtain ⟨cur,hc⟩:=Zbk hv j hS
  exact Zag h2 (by decide) hc hj⟩
theorem TermsIn.aside {w w':World} {B2 n:Nat} {v vv:Value} {ls:List (List Sym)} {ys:List Value} (h:TermsIn w v ls) (hl:∀ j,v.ownBlock=some j→j<B2) (hv:w.ownsRow B2 72 1 vv n ys) (hk:Kept (Zbl vv) w w'):TermsIn w' v ls:=by
 obtain ⟨vs,h⟩:=h
 exact ⟨vs,h.aside hl hv hk⟩
theorem TermsIn.box {w w':World} {M:Nat} {cs:Array Value} {t:TypeId} {fr:Nat × Nat} {v:Value} {ls:List (List Sym)} (h:TermsIn w v ls) (hM:w.heap[M]?=some (.cells cs t fr)) (h1:72≠t) (h2:102≠t) (hk:Kept (fun k=>k=M) w w'):TermsIn w' v ls:=by
 obtain ⟨vs,h⟩:=h
 exact ⟨vs,h.box hM h1 h2 hk⟩
theorem TermsIn.shape {w:World} {v:Value} {ls:List (List Sym)} (h:TermsIn w v ls):∃ a c,v = .slice a ls.length c:=by
 obtain ⟨vs,h⟩:=h
 exact Zad h.owns
abbrev NB (w:World) (b:Nat) (gv vv rv:Value) (u:Nat):Prop:=w.heap[b]?=some (.cells #[gv,vv,rv,.int .i64 u] 65 (0,0))
def CallApp (w0:World) (B:Nat) (l:List Sym) (gv:Value) (n:Nat) (xs:List Value) (F:Value→World→Prop):List Value→World→Prop
 | [],u=>u=w0
 | [x],u=>Zjq l w0 (.returned x) u
 | [x,y],u=>∃ u1,Zjq l w0 (.returned x) u1∧y = .slice (some ⟨u1.heap.size,0,none⟩) 1 1∧u=u1.alloc (.cells #[x] 72)
 | [x,_,z],u=>∃ u1,Zjq l w0 (.returned x) u1∧Appended u1 B 72 1 gv (n+1) (xs++[x]) z u
 | [_,_,z,_],u=>F z u
 | _,_=>False
theorem CallApp.ext {w0:World} {B:Nat} {l:List Sym} {gv:Value} {n:Nat} {xs:List Value} {F:Value→World→Prop}:∀ {vs:List Value} {u:World},CallApp w0 B l gv n xs F vs u→vs.length≤2→Ext w0 u
 | [],u,h,_=>by obtain rfl:u=w0:=h; exact Below.refl _ _
 | [x],u,h,_=>by obtain ⟨_,_,_,_,_,h⟩:=h; exact h
 | [x,y],u,h,_=>by
  obtain ⟨u1,⟨_,_,_,_,_,h⟩,_,rfl⟩:=h
  exact h.alloc h.size _
 | _::_::_::_,_,_,h=>by simp at h
theorem Zdn {w:World} {n:Nat} (h:w.heap.size=n) (o:Obj):(w.alloc o).heap[n]?=some o:=by subst h; exact heap_alloc_new w o
structure TopB (w:World) (B2:Nat) (hv bv vv:Value) (ls:List (List Sym)) (j:Nat) (gv v2:Value) (ys:List Value) (wr:World):Prop where
 ext:Ext w wr
 cls:wr.heap[w.heap.size]?=some (.cells #[hv,bv,vv] 74 (0,0))
 res:NB wr (w.heap.size+1) (.slice none 0 0) (.slice none 0 0) (.slice none 0 0) 0
 box:NB wr (w.heap.size+2) gv v2 (.slice none 0 0) 0
 goals:TermsIn wr gv ls
 low:∀ j,gv.ownBlock=some j→j<B2
 b1:w.heap.size≤B2
 b2:B2≤wr.heap.size
 vals:TermsAt wr B2 v2 ((List.range j).map vr) ys
theorem TopB.app {w wr w2:World} {B2:Nat} {hv bv vv gv v2 v3:Value} {ls:List (List Sym)} {j:Nat} {ys:List Value} (h:TopB w B2 hv bv vv ls j gv v2 ys wr)
  (hap:Appended (wr.alloc (.cells #[.string ⟨#[]⟩,.int .i64 j,.int .i64 0] 102)) B2 72 1 v2 (j+1) (ys++[.slice (some ⟨wr.heap.size,0,none⟩) 1 1]) v3 w2):TopB w B2 hv bv vv ls (j+1) gv v3 (ys++[.slice (some ⟨wr.heap.size,0,none⟩) 1 1]) (w2.setCell ⟨w.heap.size+2,1,none⟩ v3):=by
 obtain ⟨h1,h2,h3,h4,h5,h6,h7,h8,h9⟩:=h
 have hE:Ext wr (wr.alloc (.cells #[.string ⟨#[]⟩,.int .i64 j,.int .i64 0] 102)):=(Ext.of (by repeat' (first | with_reducible(first|exact Qx _ _|apply Kept.drew|apply Kept.drewN|apply Qz|refine Qy ?_ ?_ _)|exact fun h=>absurd h (by simp <;> omega))))
 have c2:=Zar h2 (.cells #[.string ⟨#[]⟩,.int .i64 j,.int .i64 0] 102)
 have c3:=Zar h3 (.cells #[.string ⟨#[]⟩,.int .i64 j,.int .i64 0] 102)
 have c4:=Zar h4 (.cells #[.string ⟨#[]⟩,.int .i64 j,.int .i64 0] 102)
 have c9:=h9.ext hE
 have b2:=(hap.kept.block _ (Zab c2) (Zag c9.owns (by decide) c2)).trans c2
 have b3:=(hap.kept.block _ (Zab c3) (Zag c9.owns (by decide) c3)).trans c3
 have b4:=(hap.kept.block _ (Zab c4) (Zag c9.owns (by decide) c4)).trans c4
 have hK:Kept (fun j=>j=w.heap.size+2) w2 (w2.setCell ⟨w.heap.size+2,1,none⟩ v3):=(Qx (only (w.heap.size+2)) w2).put 1 _
 have hlen:((List.range j).map vr).length=j:=by simp
 have ht:TermsAt w2 B2 v3 ((List.range (j+1)).map vr) (ys++[.slice (some ⟨wr.heap.size,0,none⟩) 1 1]):=by
  rw [List.range_succ,Qr]
  exact c9.snoc (by rw [hlen]; exact hap) (Zve wr j)
 have hsz:=hap.kept.size
 have hbel:=hap.kept.below (B:=B2) (by simp; omega) (fun j hj=>(c9.owns.lt j hj).1)
 exact ⟨(h1.trans ((hE.mono h1.size).trans (hbel.mono h7))).setCell (p:=⟨w.heap.size+2,1,none⟩) (by simp) _,(hK.block _ (Zab b2) (by simp)).trans b2,(hK.block _ (Zab b3) (by simp)).trans b3,Zaf b4 1 _,
  ((h5.ext hE).aside h6 c9.owns hap.kept).box b4 (by decide) (by decide) hK,h6,h7,by simp at hsz ⊢; omega,ht.box b4 (by decide) (by decide) hK⟩
def TopA (w:World) (hv bv vv:Value) (ls:List (List Sym)) (k:Nat) (gv:Value) (xs:List Value) (wr:World):Prop :=
 Ext w wr∧wr.heap[w.heap.size]?=some (.cells #[hv,bv,vv] 74 (0,0))∧NB wr (w.heap.size+1) (.slice none 0 0) (.slice none 0 0) (.slice none 0 0) 0∧NB wr (w.heap.size+2) gv (.slice none 0 0) (.slice none 0 0) 0∧TermsAt wr w.heap.size gv (ls.take k) xs
theorem TopA.ext {w wr w1:World} {hv bv vv gv:Value} {ls:List (List Sym)} {k:Nat} {xs:List Value} (h:TopA w hv bv vv ls k gv xs wr) (e:Ext wr w1):TopA w hv bv vv ls k gv xs w1:=by
 obtain ⟨h1,h2,h3,h4,h5⟩:=h
 exact ⟨h1.trans (e.mono h1.size),(e.block _ (Zab h2)).trans h2,(e.block _ (Zab h3)).trans h3,(e.block _ (Zab h4)).trans h4,h5.ext e⟩
theorem TopA.app {w w1 w2:World} {hv bv vv gv gv2 x:Value} {ls:List (List Sym)} {k:Nat} {l:List Sym} {xs:List Value} (h:TopA w hv bv vv ls k gv xs w1) (hl:ls[k]?=some l) (hx:WordAt w1 x l) (hap:Appended w1 w.heap.size 72 1 gv (k+1) (xs++[x]) gv2 w2):TopA w hv bv vv ls (k+1) gv2 (xs++[x]) (w2.setCell ⟨w.heap.size+2,0,none⟩ gv2):=by
 obtain ⟨h1,h2,h3,h4,h5⟩:=h
 have hkl:=(Qa.1 hl).1
 have hlen:(ls.take k).length=k:=by simp; omega
 have b2:=(hap.kept.block _ (Zab h2) (Zag h5.owns (by decide) h2)).trans h2
 have b3:=(hap.kept.block _ (Zab h3) (Zag h5.owns (by decide) h3)).trans h3
 have b4:=(hap.kept.block _ (Zab h4) (Zag h5.owns (by decide) h4)).trans h4
 have hK:Kept (fun j=>j=w.heap.size+2) w2 (w2.setCell ⟨w.heap.size+2,0,none⟩ gv2):=(Qx (only (w.heap.size+2)) w2).put 0 _
 have ht:TermsAt w2 w.heap.size gv2 (ls.take (k+1)) (xs++[x]):=by
  rw [List.take_add_one,hl]
  exact h5.snoc (by rw [hlen]; exact hap) hx
 refine ⟨(h1.trans (hap.kept.below h1.size (fun j hj=>(h5.owns.lt j hj).1))).setCell (p:=⟨w.heap.size+2,0,none⟩) (by simp) _,(hK.block _ (Zab b2) (by simp)).trans b2,(hK.block _ (Zab b3) (by simp)).trans b3,Zaf b4 0 _,ht.box b4 (by decide) (by decide) hK⟩
def Yln (ls:List (List Sym)) (n:Nat) (w:World) (e:Ending) (w':World):Prop:=Ext w w'∧∃ g1 gc v1 vc,e = .returned (.agg #[.slice g1 ls.length gc,.slice v1 n vc,.slice none 0 0,.int .i64 n])∧TermsIn w' (.slice g1 ls.length gc) ls∧TermsIn w' (.slice v1 n vc) ((List.range n).map vr)
theorem Zqp (w:World) (hv bv vv:Value) (ls:List (List Sym)) (ns:Names) (hh:∃ a n x,hv = .slice a n x) (hb:TermsIn w bv ls) (hns:w.ownsRow 0 9 1 vv ns.length (strs ns)) (hl:ls.length≤4000) (hn:ns.length≤4000) (hls:∀ l ∈ ls,TmOk l) :
  Calls Tryz.prog 26 #[.agg #[hv,bv,vv]] w (Yln ls ns.length w):=by
 obtain ⟨ha,hn1,hc1,rfl⟩:=hh
 obtain ⟨us,hb⟩:=hb
 obtain ⟨ba,bcap,rfl⟩:=Zad hb.owns
 obtain ⟨na,ncap,rfl⟩:=Zad hns
 have Hb:=Zac hb
 have Hls:=Zac hls
 clear hb hns hls
 go_enter Tryz.func26,Tryz.ntmps26
 go_wp2
 go_loopg [10] (ls.length+1) (fun gk iv wr=>∃ (k:Nat) (gv:Value) (xs:List Value),iv = .int .i64 k∧k≤ls.length∧ls.length - k<gk∧TopA w (.slice ha hn1 hc1) (.slice ba ls.length bcap) (.slice na ns.length ncap) ls k gv xs wr)
 case atStart =>
  refine ⟨0,.slice none 0 0,[],by go_num,Qm _,by omega,(Ext.of (by repeat' (first | with_reducible(first|exact Qx _ _|apply Kept.drew|apply Kept.drewN|apply Qz|refine Qy ?_ ?_ _)|exact fun h=>absurd h (by simp <;> omega)))),Zar (Zar (heap_alloc_new w _) _) _,Zar ?_ _,?_,TermsAt.nil _ _⟩
  ·exact Zdn (by simp) _
  ·exact Zdn (by simp) _
 case round =>
  obtain ⟨k,gv,xs,rfl,hk,hgk,hA⟩:=hrel
  have hlk:(ls.take k).length=k:=by simp; omega
  have hrow:=hA.2.2.2.2.owns
  rw [hlk] at hrow
  obtain ⟨ra,rcap,rfl⟩:=Zad hrow
  have hsr:=hA.1.size
  have q2:=Zaa hA.2.1 2 _ rfl
  have q3:=Zab hA.2.1
  have n0:wr.cell? ⟨w.heap.size+2,0,none⟩=some (.slice ra k rcap):=Zaa hA.2.2.2.1 0 _ rfl
  have n1:=Zaa hA.2.2.2.1 1 _ rfl
  have n2:=Zaa hA.2.2.2.1 2 _ rfl
  have n3:=Zaa hA.2.2.2.1 3 _ rfl
  have nf:=fun i=>Zae hA.2.2.2.1 i
  have nl:=Zab hA.2.2.2.1
  have HA:=Zac hA
  clear hA hrow hlk
  by_cases hlt:k<ls.length
  ·obtain ⟨l,hs⟩:∃ l,ls[k]?=some l:=⟨_,Qb hlt⟩
   obtain ⟨x,hx,hxo⟩:=Hb.out.all _ l hs
   obtain ⟨xa,xcap,rfl⟩:=Zad hxo
   obtain ⟨g,cap',cur,he,_,hgb,_⟩:=Zao Hb.out.owns (by omega)
   simp only [Value.slice.injEq] at he
   obtain ⟨rfl,_,rfl⟩:=he
   have hgw:=Zab hgb
   have hgr:g<wr.heap.size:=by omega
   have x0:wr.cell? ⟨g,k,none⟩=some (.slice xa l.length xcap):=(HA.out.1.cell (p:=⟨g,k,none⟩) hgw).trans (Zai Hb.out.owns _ _ hx)
   obtain ⟨_,o2,o3⟩:=Hls.out l (Qh hs)
   have HR:=Zik wr.drew (.slice xa l.length xcap) l 0 (WordAt.ext hxo (HA.out.1.trans ⟨rfl,rfl,rfl,Qe _,fun _ _=>rfl⟩)) o2 o3 (by omega)
   rw [Yke] at HR
   have HR:=Zac HR
   have Hs:=Zac hs
   clear hs hx hxo hgb o2 o3
   go_wp2_with fail
   have HA':TopA w (.slice ha hn1 hc1) (.slice (some ⟨g,0,none⟩) ls.length bcap) (.slice na ns.length ncap) ls k (.slice ra k rcap) xs wr.drew:=HA.out.ext ⟨rfl,rfl,rfl,Qe _,fun _ _=>rfl⟩
   refine Zgg (by kernel_rfl) [.rd 0 3 (fun _ => .pointer (some ⟨w.heap.size+2,0,none⟩)),.rd 0 2 (fun _ => .slice ra k rcap),.rd 0 3 (fun _ => .slice xa l.length xcap),.st 0,.st 1,.st 2,.rd 0 3 (fun _ => .pointer (some ⟨w.heap.size+2,0,none⟩)),.st 3] 4 6 (by kernel_rfl)
    (CallApp wr.drew w.heap.size l (.slice ra k rcap) k xs (fun z u=>∃ xs',TopA w (.slice ha hn1 hc1) (.slice (some ⟨g,0,none⟩) ls.length bcap) (.slice na ns.length ncap) ls (k+1) z xs' u)) rfl ?_ ?_
   ·refine ⟨⟨trivial,fun vs u _ hl hS => ?_⟩,⟨trivial,fun vs u _ hl hS => ?_⟩,⟨trivial,fun vs u _ hl hS => ?_⟩,⟨trivial,fun vs u hl hS => ?_⟩,⟨trivial,fun vs u hl hS => ?_⟩,⟨trivial,fun vs u hl hS => ?_⟩,⟨trivial,fun vs u _ hl hS => ?_⟩,⟨trivial,fun vs u hl hS => ?_⟩,trivial⟩
    ·simp [phAll,phA,pa,Ph.kd,Ph.val,Kd.val,go_sem]
    ·have t1:u.cell? ⟨w.heap.size+2,0,none⟩=some (.slice ra k rcap):=((hS.ext hl).cell (p:=⟨w.heap.size+2,0,none⟩) nl).trans n0
     simp [phAll,phA,pa,Ph.kd,Ph.val,Kd.val,go_sem,t1]
    ·simp [phAll,phA,pa,Ph.kd,Ph.val,Kd.val,go_sem]
    ·obtain rfl:=List.length_eq_zero_iff.1 hl
     have hu:u=wr.drew:=hS
     subst hu
     refine .call 42 #[.slice xa l.length xcap,.int .i64 0] _ (by simp [phAll,phA,pa,Ph.kd,Ph.val,Kd.val,go_sem]) (HR.out.mono ?_)
     rintro e u ⟨v,B,rfl,h⟩
     exact ⟨v,rfl,v,B,rfl,h⟩
    ·obtain ⟨x,rfl⟩:=List.length_eq_one_iff.1 hl
     have hS1:=hS
     obtain ⟨x',B',he,hB,hr,hE⟩:=hS1
     simp only [Ending.returned.injEq] at he
     subst he
     obtain ⟨xa1,xc1,rfl⟩:=Zad hr
     exact .value (.slice (some ⟨u.heap.size,0,none⟩) 1 1) (u.alloc (.cells #[.slice xa1 l.length xc1] 72)) (by simp [phAll,phA,pa,Ph.kd,Ph.val,Kd.val,go_sem]) ⟨u,hS,rfl,rfl⟩
    ·obtain ⟨x,y,rfl⟩:∃ x y,vs=[x,y]:=by
      match vs,hl with
      | [x,y],_=>exact ⟨x,y,rfl⟩
     obtain ⟨u1,hW,rfl,rfl⟩:=hS
     have hW1:=hW
     obtain ⟨x',B',he,hB,hr,hE⟩:=hW1
     simp only [Ending.returned.injEq] at he
     subst he
     obtain ⟨xa1,xc1,rfl⟩:=Zad hr
     have hrow:u1.ownsRow w.heap.size 72 1 (.slice ra k rcap) k xs:=by
      have:=(HA'.ext hE).2.2.2.2.owns
      rw [show (ls.take k).length=k by simp; omega] at this
      exact this
     have hsz:=hE.size
     obtain ⟨z,w',hrun,hap⟩:=Zhf (P:=Tryz.prog) u1 63 63 w.heap.size 72 Tryz.infoSyms Tryz.underlying63 rfl (by decide) (.slice ra k rcap) k xs hrow #[.slice xa1 l.length xc1] rfl (Zeb _ _ _) (by omega) (Qq hsr hsz)
     refine .value z w' (Zij (.tmp 15) (.tmp 18) 63 rfl (by simp [phAll,phA,pa,Ph.kd,Ph.val,Kd.val,go_sem]) (by simp [phAll,phA,pa,Ph.kd,Ph.val,Kd.val,go_sem]) hrun) ⟨u1,hW,by simpa using hap⟩
    ·simp [phAll,phA,pa,Ph.kd,Ph.val,Kd.val,go_sem]
    ·obtain ⟨x,y,z,rfl⟩:∃ x y z,vs=[x,y,z]:=by
      match vs,hl with
      | [x,y,z],_=>exact ⟨x,y,z,rfl⟩
     obtain ⟨u1,hW,hap⟩:=hS
     obtain ⟨x',B',he,hB,hr,hE⟩:=hW
     simp only [Ending.returned.injEq] at he
     subst he
     obtain ⟨za,zc,rfl⟩:=Zad hap.owns
     have hA2:=(HA'.ext hE).app Hs.out (Zba hr (Qm _)) hap
     have h4:=(HA'.ext hE).2.2.2.1
     have b4:=(hap.kept.block _ (Zab h4) (Zag (HA'.ext hE).2.2.2.2.owns (by decide) h4)).trans h4
     have c4:=Zaa b4 0 _ rfl
     have f4:=Zae b4 0
     exact .skip _ (by simp [phAll,phA,pa,Ph.kd,Ph.val,Kd.val,go_sem,c4,f4]) ⟨_,hA2⟩
   ·rintro vs u hl hS
    obtain ⟨x,y,z,y',rfl⟩:∃ x y z y',vs=[x,y,z,y']:=by
     match vs,hl with
     | [x,y,z,y'],_=>exact ⟨x,y,z,y',rfl⟩
    obtain ⟨xs',hA2⟩:=hS
    simp only [phAll,phA,paAll,pa,Ph.kd,Ph.val,Kd.val,List.map_cons,List.map_nil,if_true,Act.put,List.setIfInBounds_toArray,List.set_cons_succ,List.set_cons_zero]
    have HA2:=Zac hA2
    clear hA2
    go_wp2
    go_roundg (ls.length - k)
    case measure=>omega
    case rel=>exact ⟨k+1,_,xs',by go_num,by omega,by omega,HA2.out⟩
  ·have hek:k=ls.length:=by omega
   subst hek
   have hB:TopB w wr.heap.size (.slice ha hn1 hc1) (.slice ba ls.length bcap) (.slice na ns.length ncap) ls 0 (.slice ra ls.length rcap) (.slice none 0 0) [] wr:=by
    obtain ⟨h1,h2,h3,h4,h5⟩:=HA.out
    rw [List.take_length] at h5
    exact ⟨h1,h2,h3,h4,h5.inn,fun j hj=>(h5.owns.lt j hj).2,h1.size,Qe _,TermsAt.nil _ _⟩
   have HB:=Zac hB
   obtain ⟨wo,hwo⟩:∃ x,x=wr:=⟨_,rfl⟩
   subst hwo
   clear HA hB
   go_wp2
   go_loopg [25] (ns.length+1) (fun gk iv wr=>∃ (j:Nat) (v2:Value) (ys:List Value),iv = .int .i64 j∧j≤ns.length∧ns.length - j<gk∧TopB w wo.heap.size (.slice ha hn1 hc1) (.slice ba ls.length bcap) (.slice na ns.length ncap) ls j (.slice ra ls.length rcap) v2 ys wr)
   case atStart=>exact ⟨0,.slice none 0 0,[],by go_num,Qm _,by omega,HB.out⟩
   case round =>
    clear q2 q3 n0 n1 n2 n3 nf nl HB
    obtain ⟨j,v2,ys,rfl,hj,hgj,hB⟩:=hrel
    have hrow:=hB.vals.owns
    rw [show ((List.range j).map vr).length=j by simp] at hrow
    obtain ⟨va,vcap,rfl⟩:=Zad hrow
    have hsr:=hB.ext.size
    have hb2:=hB.b2
    have q2:=Zaa hB.cls 2 _ rfl
    have q3:=Zab hB.cls
    have n0:=Zaa hB.box 0 _ rfl
    have n1:wr.cell? ⟨w.heap.size+2,1,none⟩=some (.slice va j vcap):=Zaa hB.box 1 _ rfl
    have n2:=Zaa hB.box 2 _ rfl
    have n3:=Zaa hB.box 3 _ rfl
    have nf:=fun i=>Zae hB.box i
    have nl:=Zab hB.box
    have HB:=Zac hB
    have Hrow:Hid ((wr.alloc (.cells #[.string ⟨#[]⟩,.int .i64 j,.int .i64 0] 102)).ownsRow wo.heap.size 72 1 (.slice va j vcap) j ys):=Zah hrow (fun i hi=>Below.heap_alloc _ _ _ (hrow.lt i hi).2)
    clear hB hrow
    by_cases hlt:j<ns.length
    ·go_wp2_with (at_builtin; go_loud (refine Zam (wr.alloc (.cells #[.string ⟨#[]⟩,.int .i64 j,.int .i64 0] 102)) rfl (.tmp 29) (.tmp 33) 63 rfl wo.heap.size 72 Tryz.infoSyms Tryz.underlying63 rfl (by decide) (.slice va j vcap) j ys rfl Hrow.out #[.slice (some ⟨wr.heap.size,0,none⟩) 1 1] (N:=wr.heap.size+1) rfl (by simp) rfl (Zeb _ _ _) ?_ ?_ ?_))
     ·omega
     ·simp; omega
     intro v3 w2 hap
     obtain ⟨a3,c3,rfl⟩:=Zad hap.owns
     have hB2:=HB.out.app hap
     have b4:w2.heap[w.heap.size+2]?=some (.cells #[.slice ra ls.length rcap,.slice va j vcap,.slice none 0 0,.int .i64 0] 65 (0,0)):=by
      have h4:=Zar HB.out.box (.cells #[.string ⟨#[]⟩,.int .i64 j,.int .i64 0] 102)
      exact (hap.kept.block _ (Zab h4) (Zag Hrow.out (by decide) h4)).trans h4
     have m1:=Zaa b4 1 _ rfl
     have mf:=fun i=>Zae b4 i
     have ml:=Zab b4
     have HB2:=Zac hB2
     clear hap hB2 b4
     go_wp2
     go_roundg (ns.length - j)
     case measure=>omega
     case rel=>exact ⟨j+1,_,_,by go_num,by omega,by omega,HB2.out⟩
    ·have hej:j=ns.length:=by omega
     subst hej
     have r0:=Zaa HB.out.res 0 _ rfl
     have r1:=Zaa HB.out.res 1 _ rfl
     have r2:=Zaa HB.out.res 2 _ rfl
     have r3:=Zaa HB.out.res 3 _ rfl
     have rf:=fun i=>Zae HB.out.res i
     have rl:=Zab HB.out.res
     go_wp2
     refine bodyPost_ret (v := .agg #[.slice ra ls.length rcap,.slice va ns.length vcap,.slice none 0 0,.int .i64 ns.length]) (by simp [results,Tryz.results26,go_sem,r0,r1,r2,r3,rf,rl]) rfl ?_
     have hE:∀ x0 x1 x2 x3 x,Ext w (((((wr.setCell ⟨w.heap.size+2,3,none⟩ x).setCell ⟨w.heap.size+1,0,none⟩ x0).setCell ⟨w.heap.size+1,1,none⟩ x1).setCell ⟨w.heap.size+1,2,none⟩ x2).setCell ⟨w.heap.size+1,3,none⟩ x3):=fun x0 x1 x2 x3 x =>
      ((((HB.out.ext.setCell (p:=⟨w.heap.size+2,3,none⟩) (by simp) _).setCell (p:=⟨w.heap.size+1,0,none⟩) (by simp) _).setCell (p:=⟨w.heap.size+1,1,none⟩) (by simp) _).setCell (p:=⟨w.heap.size+1,2,none⟩) (by simp) _).setCell (p:=⟨w.heap.size+1,3,none⟩) (by simp) _
     have hK1:∀ x,Kept (fun j=>j=w.heap.size+2) wr (wr.setCell ⟨w.heap.size+2,3,none⟩ x):=fun x=>(Qx (only (w.heap.size+2)) wr).put 3 _
     have hK2:∀ (y:World) x0 x1 x2 x3,Kept (fun j=>j=w.heap.size+1) y ((((y.setCell ⟨w.heap.size+1,0,none⟩ x0).setCell ⟨w.heap.size+1,1,none⟩ x1).setCell ⟨w.heap.size+1,2,none⟩ x2).setCell ⟨w.heap.size+1,3,none⟩ x3):=fun y x0 x1 x2 x3=>((((Qx (only (w.heap.size+1)) y).put 0 _).put 1 _).put 2 _).put 3 _
     have hr1:∀ x,(wr.setCell ⟨w.heap.size+2,3,none⟩ x).heap[w.heap.size+1]?=some (.cells #[.slice none 0 0,.slice none 0 0,.slice none 0 0,.int .i64 0] 65 (0,0)):=fun x=>((hK1 x).block _ rl (by simp)).trans HB.out.res
     have hv:=HB.out.vals.inn
     exact ⟨hE _ _ _ _ _,_,_,_,_,rfl,(HB.out.goals.box HB.out.box (by decide) (by decide) (hK1 _)).box (hr1 _) (by decide) (by decide) (hK2 _ _ _ _ _),(hv.box HB.out.box (by decide) (by decide) (hK1 _)).box (hr1 _) (by decide) (by decide) (hK2 _ _ _ _ _)⟩
end Go.Proofs.YtlmjilpjmgjjcabGreatDoor
