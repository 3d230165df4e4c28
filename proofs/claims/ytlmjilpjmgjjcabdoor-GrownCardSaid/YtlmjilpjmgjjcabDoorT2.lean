/-
  PROVED HERE: plain laws on what a step of the program's reader leaves in memory (the conditions stand in each statement).
-/
import Derived.Test.YtlmjilpjmgjjcabDoorT1
import Derived.Orders
import Derived.Deep.LoopGhost
import Derived.BigQuiet
import Derived.Deep.QuietTactic
import Derived.Deep.RegionWith
import Derived.Deep.RegionLawGrows
import Derived.Laws.OwnMore
set_option linter.unusedSimpArgs false
set_option linter.unusedVariables false
set_option maxRecDepth 10000
set_option maxHeartbeats 4000000
namespace Go.Proofs.YtlmjilpjmgjjcabDoor
open Go.RowKit
abbrev Ext (w w':World):Prop:=Below w.heap.size w w'
section inv
variable {P:Program} {ops:Array Oper} {Q:Exit→Act→World→Prop} {md:Region.Mode}
def unl (ops:Array Oper) (L:Array Bool):Nat:=((List.range ops.size).filter (fun i => !L.getD i true)).length
theorem Znt {α:Type} {p q:α→Bool} {l:List α} (h:∀ x ∈ l,q x=true→p x=true) {x:α} (hx:x ∈ l) (hp:p x=true) (hq:q x=false):(l.filter q).length<(l.filter p).length:=by
 induction l with
 | nil=>simp at hx
 | cons y l ih =>
  have hle:(l.filter q).length≤(l.filter p).length:=by
   clear ih hx
   induction l with
   | nil=>simp
   | cons z l ih =>
    have h1:=h z (by simp)
    have h2:=ih (fun u hu=>h u (by
     rcases Qp.1 hu with rfl | hu
     ·simp
     ·simp [hu]))
    simp only [List.filter_cons]
    split
    ·rename_i hz
     rw [if_pos (h1 hz)]; simp; omega
    ·split <;> simp <;> omega
  simp only [List.filter_cons]
  rcases Qp.1 hx with rfl | hx
  ·rw [hp,hq]; simp; omega
  ·have:=ih (fun u hu=>h u (by simp [hu])) hx
   split
   ·rename_i hy
    rw [if_pos (h y (by simp) hy)]; simp; omega
   ·split <;> simp <;> omega
theorem Zwb {L:Array Bool} {i:Nat} (hi:i<ops.size) (hl:L.getD i true=false):unl ops (L.setIfInBounds i true)<unl ops L:=by
 have hil:i<L.size:=by
  rcases Nat.lt_or_ge i L.size with h | h
  ·exact h
  ·simp [Array.getElem?_eq_none h] at hl
 refine Znt (x:=i) (fun j _ hj => ?_) (List.mem_range.2 hi) (by simp at hl ⊢; exact hl) (by simp [hil])
 by_cases e:i=j
 ·subst e; simp [hil] at hj
 ·rw [getD_set_ne true e] at hj; exact hj
theorem Zkc {J:Array Bool→Act→World→Prop} (hs:∀ L a w i,i ∈ Region.ready md ops L→J L a w→wpOp P ops Q i (J (L.setIfInBounds i true)) a w)
  (hf:∀ L a w,Region.ready md ops L=[]→J L a w→Q .normal a w):∀ (fuel:Nat) (L:Array Bool) (a:Act) (w:World),unl ops L≤fuel→J L a w→wpAny P md ops Q fuel L a w:=by
 intro fuel
 induction fuel with
 | zero =>
  intro L a w hu hJ
  have hr:Region.ready md ops L=[]:=by
   cases h:Region.ready md ops L with
   | nil=>rfl
   | cons i r =>
    have hi:i ∈ Region.ready md ops L:=by rw [h]; simp
    obtain ⟨h0,o,ho,_⟩:=mem_ready.1 hi
    have:=Zwb (ops:=ops) (Array.getElem?_eq_some_iff.1 ho).1 h0
    omega
  exact ⟨hr,hf L a w hr hJ⟩
 | succ fuel ih =>
  intro L a w hu hJ
  refine ⟨fun hr=>hf L a w hr hJ,fun i hi=>wpOp_mono (fun a' w' h=>ih _ a' w' ?_ h) (hs L a w i hi hJ)⟩
  obtain ⟨h0,o,ho,_⟩:=mem_ready.1 hi
  have:=Zwb (ops:=ops) (Array.getElem?_eq_some_iff.1 ho).1 h0
  omega
end inv
inductive Kd where
 | pur (c:Value)
 | post (g:Value→Value)
 | cal
 | alo (t:TypeId) (z:Array Value) (s:Nat) (cs:Value→Array Value)
 | sto (i:Nat)
def Kd.val (vc:Value) (β:Nat→Nat) (i:Nat):Kd→Value
 | .pur c=>c
 | .post g=>g vc
 | .cal=>vc
 | .alo .. => .pointer (some ⟨β i,0,none⟩)
 | .sto _=>undef
def pa (a0:Act) (vc:Value) (β:Nat→Nat) (lst:Nat→Bool):Nat→List Oper→List Kd→Act
 | _,[],_=>a0
 | _,_,[]=>a0
 | k,o::os,q::qs=>if lst k then (pa a0 vc β lst (k+1) os qs).put o.dst (q.val vc β k) else pa a0 vc β lst (k+1) os qs
abbrev paAll (a0:Act) (ops:List Oper) (kd:List Kd) (vc:Value) (β:Nat→Nat):Act:=pa a0 vc β (fun _=>true) 0 ops kd
def Zdb:Kd→Bool
 | .post _=>true
 | .sto _=>true
 | _=>false
def Zea:Kd→Bool
 | .post _=>true
 | .cal=>true
 | _=>false
def Zdf (o:Oper) (j:Nat):Bool:=o.after.any fun e=>Region.binds .any e && e.on == j
def Zgo (ops:List Oper) (kd:List Kd) (ic:Nat):Bool :=
 ops.length == kd.length &&
 (List.range ops.length).all fun i=>match ops[i]?,kd[i]? with
  | some o,some q =>
   o.guard.isNone && (match o.op with | .select .. => false | _=>true) &&
   (o.after.all fun e => !Region.binds .any e || e.on<i) &&
   ((List.range ops.length).all fun j=>match ops[j]? with
    | some p=>match p.dst with
     | some d=>((j == i) || (o.dst != some d)) && (!(o.looksAt ops.toArray).contains d || Zdf o j)
     | none=>true
    | none=>true) &&
   (match q with
    | .pur _=>true
    | .cal=>i == ic
    | .post _=>(List.range i).any fun j=>Zdf o j && (match kd[j]? with | some r=>Zea r | none=>false)
    | .alo _ _ s _=>match kd[s]? with | some (.sto k)=>k == i | _=>false
    | .sto k=>o.dst.isNone && Zdf o k && ((List.range i).any fun j=>Zdf o j && (match kd[j]? with | some r=>Zea r | none=>false)) && (match kd[k]? with | some (.alo _ _ s _)=>s == i | _=>false))
  | _,_=>false
theorem Zen {a0:Act} {vc vc':Value} {β β':Nat→Nat} {lst lst':Nat→Bool}:∀ {ops:List Oper} {kd:List Kd} {k:Nat},(∀ j q,kd[j]?=some q→lst (k+j)=lst' (k+j)∧(lst (k+j)=true→q.val vc β (k+j)=q.val vc' β' (k+j))) →
  pa a0 vc β lst k ops kd=pa a0 vc' β' lst' k ops kd:=by
 intro ops
 induction ops with
 | nil=>intro kd k _; simp [pa]
 | cons o os ih =>
  intro kd k h
  cases kd with
  | nil=>simp [pa]
  | cons q qs =>
   have h0:=h 0 q rfl
   simp only [Nat.add_zero] at h0
   have ih':=ih (kd:=qs) (k:=k+1) (fun j r hr=>by
    have:=h (j+1) r (by simpa using hr)
    have e:k+1+j=k+(j+1):=by omega
    rw [e]; exact this)
   rw [pa,pa,ih',← h0.1]
   split
   ·rename_i hk; rw [h0.2 hk]
   ·rfl
theorem Zpt {a0:Act} {vc:Value} {β:Nat→Nat} {lst:Nat→Bool} {x:Operand}:∀ {ops:List Oper} {kd:List Kd} {k:Nat},(∀ j o,ops[j]?=some o→lst (k+j)=false→∀ d,o.dst=some d→x ≠ .tmp d) →
  (pa a0 vc β lst k ops kd).eval x=(pa a0 vc β (fun _=>true) k ops kd).eval x:=by
 intro ops
 induction ops with
 | nil=>intro kd k _; simp [pa]
 | cons o os ih =>
  intro kd k h
  cases kd with
  | nil=>simp [pa]
  | cons q qs =>
   have ih':=ih (kd:=qs) (k:=k+1) (fun j r hr hl=>by
    have e:k+1+j=k+(j+1):=by omega
    rw [e] at hl
    exact h (j+1) r (by simpa using hr) hl)
   rw [pa,pa]
   simp only [if_true]
   by_cases hx:∃ d,o.dst=some d∧x = .tmp d
   ·obtain ⟨d,hd,rfl⟩:=hx
    cases hk:lst k
    ·exact absurd rfl (h 0 o rfl hk d hd)
    ·simp only [if_true]
     rw [hd]
     have hsz:∀ (lst':Nat→Bool) (k':Nat) (os':List Oper) (qs':List Kd),(pa a0 vc β lst' k' os' qs').tmps.size=a0.tmps.size:=by
      intro lst' k' os'
      induction os' generalizing k' with
      | nil=>intro qs'; simp [pa]
      | cons o' os' ih2 =>
       intro qs'
       cases qs' with
       | nil=>simp [pa]
       | cons q' qs' =>
        rw [pa]
        split
        ·cases o'.dst <;> simp [Act.put,ih2]
        ·exact ih2 _ _
     simp only [Act.eval,Act.put,Array.getD_eq_getD_getElem?]
     rcases Nat.lt_or_ge d a0.tmps.size with hd' | hd'
     ·rw [Array.getElem?_setIfInBounds_self_of_lt (by rw [hsz]; exact hd'),Array.getElem?_setIfInBounds_self_of_lt (by rw [hsz]; exact hd')]
     ·rw [Array.getElem?_eq_none (by simp [hsz]; omega),Array.getElem?_eq_none (by simp [hsz]; omega)]
   ·have hne:∀ d,o.dst=some d→x ≠ .tmp d:=fun d hd e=>hx ⟨d,hd,e⟩
    rw [Act.eval_put hne]
    split
    ·rw [Act.eval_put hne]; exact ih'
    ·exact ih'
theorem Zwc {a0:Act} {vc:Value} {β:Nat→Nat} {lst:Nat→Bool}:∀ {ops:List Oper} {kd:List Kd} {k i:Nat} {o:Oper} {q:Kd},ops[i]?=some o→kd[i]?=some q→lst (k+i)=false →
  (∀ j p d,ops[j]?=some p→p.dst=some d→j=i∨o.dst≠some d)→pa a0 vc β (fun j=>lst j || j == k+i) k ops kd=(pa a0 vc β lst k ops kd).put o.dst (q.val vc β (k+i)):=by
 intro ops
 induction ops with
 | nil=>intro kd k i o q h; simp at h
 | cons p os ih =>
  intro kd k i o q ho hq hl hd
  cases kd with
  | nil=>simp at hq
  | cons r qs =>
   cases i with
   | zero =>
    simp at ho hq
    subst ho hq
    simp only [Nat.add_zero] at hl ⊢
    rw [pa,pa]
    simp only [hl,Bool.false_or,BEq.rfl,if_true,Bool.false_eq_true,if_false]
    congr 1
    refine Zen (fun j s hs=>⟨?_,fun _=>rfl⟩)
    have:(k+1+j == k)=false:=by rw [Qu]; omega
    simp [this]
   | succ i =>
    have e:k+(i+1)=k+1+i:=by omega
    have ih':=ih (kd:=qs) (k:=k+1) (i:=i) (o:=o) (q:=q) (by simpa using ho) (by simpa using hq) (by rw [← e]; exact hl) (fun j p' d hp hd'=>by
     rcases hd (j+1) p' d (by simpa using hp) hd' with h | h
     ·exact Or.inl (by omega)
     ·exact Or.inr h)
    rw [e]
    rw [pa,pa,ih']
    have hk:(k == k+1+i)=false:=by rw [Qu]; omega
    simp only [hk,Bool.or_false]
    split
    ·refine Act.put_comm _ _ _ (fun d hd' e' => ?_)
     rcases hd 0 p d rfl e' with h | h
     ·omega
     ·exact h hd'
    ·rfl
def Ob (P:Program) (kd:List Kd) (w0:World) (FA:Value→(Nat→Nat)→Act) (R:(Nat→Prop)→Value→World→Prop) (f:FuncId) (args:Array Value) (o:Oper):Kd→Prop
 | .pur c=>∀ vc β w,Ext w0 w→(execOp (FA vc β).eval o).run P w = .ok (.value c) w
 | .post g=>∀ vc β X w,R X vc w→(execOp (FA vc β).eval o).run P w = .ok (.value (g vc)) w
 | .cal=>∀ vc β w,(execOp (FA vc β).eval o).run P w = .ok (.enter f args) w
 | .alo t z _ _=>∀ vc β w,(execOp (FA vc β).eval o).run P w = .ok (.value (.pointer (some ⟨w.heap.size,0,none⟩))) (w.alloc (.cells z t))
 | .sto i=>∀ vc β X w t z s cs,kd[i]?=some (.alo t z s cs)→R X vc w→w.heap[β i]?=some (.cells z t (0,0)) →
   ∃ w',(execOp (FA vc β).eval o).run P w = .ok .skip w'∧w'.heap[β i]?=some (.cells (cs vc) t (0,0))∧Kept (fun k=>k=β i) w w'
def AllOb (P:Program) (kd:List Kd) (w0:World) (FA:Value→(Nat→Nat)→Act) (R:(Nat→Prop)→Value→World→Prop) (f:FuncId) (args:Array Value):List Oper→List Kd→Prop
 | o::os,q::qs=>Ob P kd w0 FA R f args o q∧AllOb P kd w0 FA R f args os qs
 | _,_=>True
theorem AllOb.at {P:Program} {kd:List Kd} {w0:World} {FA:Value→(Nat→Nat)→Act} {R:(Nat→Prop)→Value→World→Prop} {f:FuncId} {args:Array Value}:∀ {ops:List Oper} {ks:List Kd},AllOb P kd w0 FA R f args ops ks →
  ∀ {i:Nat} {o:Oper} {q:Kd},ops[i]?=some o→ks[i]?=some q→Ob P kd w0 FA R f args o q:=by
 intro ops
 induction ops with
 | nil=>intro ks _ i o q h; simp at h
 | cons p os ih =>
  intro ks h i o q ho hq
  cases ks with
  | nil=>simp at hq
  | cons r qs =>
   cases i with
   | zero=>simp at ho hq; subst ho hq; exact h.1
   | succ i=>exact ih h.2 (by simpa using ho) (by simpa using hq)
def Zgp (kd:List Kd) (β:Nat→Nat) (lst:Nat→Bool):Nat→Prop:=fun k=>∃ i t z s cs,kd[i]?=some (.alo t z s cs)∧lst i=true∧k=β i
structure Plan (P:Program) (ops:List Oper) (kd:List Kd) (ic:Nat) (a0:Act) (w0:World) (R:(Nat→Prop)→Value→World→Prop) (L:Array Bool) (a:Act) (w:World):Prop where
 size:L.size=ops.length
 ext:Ext w0 w
 st:∃ vc β,a=pa a0 vc β (fun j=>L.getD j false) 0 ops kd∧(L.getD ic false=true→R (Zgp kd β (fun j=>L.getD j false)) vc w) ∧
  (∀ (i:Nat) q,kd[i]?=some q→L.getD i false=true→Zdb q=true→L.getD ic false=true) ∧
  (∀ (i:Nat) t z s cs,kd[i]?=some (.alo t z s cs)→L.getD i false=true→w0.heap.size≤β i∧w.heap[β i]?=some (.cells (if L.getD s false then cs vc else z) t (0,0))) ∧
  (∀ (i j:Nat) t z s cs t' z' s' cs',kd[i]?=some (.alo t z s cs)→kd[j]?=some (.alo t' z' s' cs')→L.getD i false=true→L.getD j false=true→i≠j→β i≠β j) ∧
  (∀ (i k:Nat),kd[i]?=some (.sto k)→L.getD i false=true→L.getD k false=true)
theorem Zhj {L:Array Bool} {i:Nat} (hi:i<L.size) (j:Nat):(L.setIfInBounds i true).getD j false=(L.getD j false || j == i):=by
 by_cases e:i=j
 ·subst e; simp [hi]
 ·rw [getD_set_ne false e]
  have:(j == i)=false:=by rw [Qu]; omega
  simp [this]
structure FitsAt (ops:List Oper) (kd:List Kd) (ic i:Nat) (o:Oper) (q:Kd):Prop where
 gd:o.guard=none
 sel:∀ cs b,o.op ≠ .select cs b
 low:∀ e ∈ o.after,Region.binds .any e=true→e.on<i
 dst:∀ j p d,ops[j]?=some p→p.dst=some d→j=i∨o.dst≠some d
 look:∀ j p d,ops[j]?=some p→p.dst=some d→d ∈ o.looksAt ops.toArray→Zdf o j=true
 cal:q = .cal→i=ic
 post:Zdb q=true→∃ j r,Zdf o j=true∧kd[j]?=some r∧Zea r=true
 alo:∀ t z s cs,q = .alo t z s cs→kd[s]?=some (.sto i)
 sto:∀ k,q = .sto k→o.dst=none∧Zdf o k=true∧∃ t z cs,kd[k]?=some (.alo t z i cs)
theorem Zmp {ops:List Oper} {kd:List Kd} {ic:Nat} (h:Zgo ops kd ic=true) {i:Nat} {o:Oper} (ho:ops[i]?=some o):∃ q,kd[i]?=some q∧FitsAt ops kd ic i o q:=by
 unfold Zgo at h
 simp only [Bool.and_eq_true,List.all_eq_true,List.mem_range,beq_iff_eq] at h
 obtain ⟨hl,h⟩:=h
 have hi:=(Qa.1 ho).1
 have h:=h i hi
 rw [ho] at h
 cases hq:kd[i]? with
 | none=>rw [hq] at h; simp at h
 | some q =>
  rw [hq] at h
  simp only [Bool.and_eq_true,List.all_eq_true,List.mem_range] at h
  obtain ⟨⟨⟨⟨h1,h2⟩,h3⟩,h4⟩,h5⟩:=h
  refine ⟨q,rfl,?_,?_,?_,?_,?_,?_,?_,?_,?_⟩
  ·simpa using h1
  ·intro cs b e; rw [e] at h2; simp at h2
  ·intro e he hb
   have:=Array.all_eq_true_iff_forall_mem.1 h3 e he
   simpa [hb] using this
  ·intro j p d hp hd
   have:=h4 j (Qa.1 hp).1
   rw [hp] at this
   simp only [hd,Bool.and_eq_true,Bool.or_eq_true,beq_iff_eq,bne_iff_ne] at this
   exact this.1
  ·intro j p d hp hd hm
   have:=h4 j (Qa.1 hp).1
   rw [hp] at this
   simp only [hd,Bool.and_eq_true,Bool.or_eq_true,beq_iff_eq,bne_iff_ne] at this
   rcases this.2 with h | h
   ·simp [hm] at h
   ·exact h
  ·intro e; subst e; simpa using h5
  ·intro hp
   cases q with
   | post g =>
    simp only [List.any_eq_true,List.mem_range,Bool.and_eq_true] at h5
    obtain ⟨j,_,h6,h7⟩:=h5
    cases hr:kd[j]? with
    | none=>rw [hr] at h7; simp at h7
    | some r=>rw [hr] at h7; exact ⟨j,r,h6,hr,h7⟩
   | sto k =>
    simp only [List.any_eq_true,List.mem_range,Bool.and_eq_true] at h5
    obtain ⟨⟨_,j,_,h6,h7⟩,_⟩:=h5
    cases hr:kd[j]? with
    | none=>rw [hr] at h7; simp at h7
    | some r=>rw [hr] at h7; exact ⟨j,r,h6,hr,h7⟩
   | _=>simp [Zdb] at hp
  ·intro t z s cs e
   subst e
   simp only at h5
   split at h5
   ·rename_i k hk; simp at h5; subst h5; exact hk
   ·simp at h5
  ·intro k e
   subst e
   simp only [List.any_eq_true,List.mem_range,Bool.and_eq_true] at h5
   obtain ⟨⟨⟨h6,h7⟩,_⟩,h8⟩:=h5
   refine ⟨by simpa using h6,h7,?_⟩
   split at h8
   ·rename_i t z s cs hk; simp at h8; subst h8; exact ⟨t,z,cs,hk⟩
   ·simp at h8
theorem Zby {ops:List Oper} {L:Array Bool} {i j:Nat} {o:Oper} (hr:i ∈ Region.ready .any ops.toArray L) (ho:ops[i]?=some o) (hw:Zdf o j=true):L.getD j false=true:=by
 obtain ⟨_,o',ho',h⟩:=mem_ready.1 hr
 have:o'=o:=by simpa [ho] using ho'.symm
 subst this
 obtain ⟨e,he,hb⟩:=Array.any_eq_true'.1 hw
 simp only [Bool.and_eq_true,beq_iff_eq] at hb
 rw [← hb.2]
 exact h e he hb.1
theorem Zsz {ops:List Oper} {kd:List Kd} {ic:Nat} (hfit:Zgo ops kd ic=true) {L:Array Bool} (hs:L.size=ops.length) (hr:Region.ready .any ops.toArray L=[]):∀ i,i<ops.length→L.getD i false=true:=by
 intro i
 induction i using Nat.strongRecOn with
 | _ i ih =>
  intro hi
  cases hl:L.getD i false with
  | true=>rfl
  | false =>
   exfalso
   have ho:ops[i]?=some ops[i]:=Qb hi
   obtain ⟨q,hq,hF⟩:=Zmp hfit ho
   have:i ∈ Region.ready .any ops.toArray L:=by
    refine mem_ready.2 ⟨?_,ops[i],by simp,fun e he hb=>ih e.on (hF.low e he hb) (by have:=hF.low e he hb; omega)⟩
    have hi':i<L.size:=by omega
    simp [hi'] at hl ⊢
    exact hl
   rw [hr] at this
   simp at this
theorem Znu {P:Program} {ops:List Oper} {id:Nat} {Q:Exit→Act→World→Prop} {a0:Act} {w:World} (hm:P.follows .mixedOrders=true) (kd:List Kd) (ic:Nat) (hfit:Zgo ops kd ic=true)
  (R:(Nat→Prop)→Value→World→Prop) (f:FuncId) (args:Array Value)
  (hR:∀ X X' v u u',R X v u→(∀ k,k<u.heap.size→¬ X k→u'.heap[k]?=u.heap[k]?)→u.heap.size≤u'.heap.size→(∀ k,k<u.heap.size→X' k→X k)→R X' v u')
  (hC:∀ X u,Ext w.drew u→(∀ k,X k→w.heap.size≤k∧k<u.heap.size∧∃ (i:Nat) (t:TypeId) (z:Array Value) (s:Nat) (cs:Value→Array Value) (cl:Array Value),kd[i]?=some (.alo t z s cs)∧u.heap[k]?=some (.cells cl t (0,0)))→Calls P f args u (fun e u'=>∃ v,e = .returned v∧Ext u u'∧R X v u'))
  (hob:AllOb P kd w.drew (paAll a0 ops kd) R f args ops kd)
  (hcal:kd[ic]?=some .cal) (hil:ic<ops.length)
  (hQ:∀ vc β u,Ext w.drew u→R (Zgp kd β (fun _=>true)) vc u→(∀ (i:Nat) t z s cs,kd[i]?=some (.alo t z s cs)→w.heap.size≤β i∧u.heap[β i]?=some (.cells (cs vc) t (0,0))) →
   (∀ (i j:Nat) t z s cs t' z' s' cs',kd[i]?=some (.alo t z s cs)→kd[j]?=some (.alo t' z' s' cs')→i≠j→β i≠β j)→Q .normal (paAll a0 ops kd vc β) u) :
  (Code.region id ops.toArray true).wp P Q a0 w:=by
 have hlen:ops.length=kd.length:=by
  unfold Zgo at hfit
  simp only [Bool.and_eq_true,beq_iff_eq] at hfit
  exact hfit.1
 refine wp_region_any hm (Zkc (J:=Plan P ops kd ic a0 w.drew R) ?_ ?_ _ _ _ _ ?_ ?_)
 ·intro L a u i hr hJ
  obtain ⟨hsz,hext,vc,β,rfl,hcR,hpost,hbox,hdist,hsto⟩:=hJ
  obtain ⟨h0,o,ho',_⟩:=mem_ready.1 hr
  have ho:ops[i]?=some o:=by simpa using ho'
  have hi:i<ops.length:=(Qa.1 ho).1
  have hil:i<L.size:=by omega
  have hun:L.getD i false=false:=by simp [hil] at h0 ⊢; exact h0
  obtain ⟨q,hq,hF⟩:=Zmp hfit ho
  have hOb:=hob.at ho hq
  have hexec:execOp (pa a0 vc β (fun j=>L.getD j false) 0 ops kd).eval o=execOp (paAll a0 ops kd vc β).eval o:=by
   refine execOp_congr o hF.sel (fun x hx=>Zpt (fun j p hp hl d hd e => ?_))
   subst e
   have hw:=hF.look j p d hp hd (List.mem_append_left _ (List.mem_filterMap.2 ⟨.tmp d,by simpa using hx,rfl⟩))
   have:=Zby hr ho hw
   simp only [Nat.zero_add] at hl
   rw [hl] at this
   simp at this
  have hwant:Region.wanted o (yielded ops.toArray (pa a0 vc β (fun j=>L.getD j false) 0 ops kd).tmps)=true:=by simp [Region.wanted,hF.gd]
  have hL:=Zhj hil
  have hput:∀ vc' β',(∀ j r,kd[j]?=some r→L.getD j false=true→r.val vc β j=r.val vc' β' j) →
    (pa a0 vc β (fun j=>L.getD j false) 0 ops kd).put o.dst (q.val vc' β' i)=pa a0 vc' β' (fun j=>(L.setIfInBounds i true).getD j false) 0 ops kd:=by
   intro vc' β' hv
   have e1:pa a0 vc β (fun j=>L.getD j false) 0 ops kd=pa a0 vc' β' (fun j=>L.getD j false) 0 ops kd:=Zen (fun j r hr'=>by
    simp only [Nat.zero_add]
    exact ⟨trivial,fun hl=>hv j r hr' hl⟩)
   rw [e1]
   have e2:=Zwc (a0:=a0) (vc:=vc') (β:=β') (lst:=fun j=>L.getD j false) (k:=0) ho hq (by simpa using hun) hF.dst
   simp only [Nat.zero_add] at e2
   rw [← e2]
   exact Zen (fun j r hr'=>⟨by simp only [Nat.zero_add,hL],fun _=>rfl⟩)
  have hicn:∀ r,kd[ic]?=some r→r = .cal:=fun r h=>by rw [hcal] at h; exact (Option.some.inj h).symm
  have hold:∀ j,L.getD j false=true→(L.setIfInBounds i true).getD j false=true:=fun j h=>by rw [hL,h]; rfl
  have hnew:∀ j,j≠i→(L.setIfInBounds i true).getD j false=L.getD j false:=fun j h=>by
   rw [hL]
   have:(j == i)=false:=by rw [Qu]; exact h
   simp [this]
  unfold wpOp
  simp only [ho']
  rw [if_pos hwant]
  refine Or.inl ?_
  unfold Oper.wp
  rw [hexec]
  have hpl:∀ (i':Nat) q',kd[i']?=some q'→(L.setIfInBounds i true).getD i' false=true→Zdb q'=true→i'≠i→(L.setIfInBounds i true).getD ic false=true:=fun i' q' h1 h2 h3 hne =>
   hold _ (hpost i' q' h1 (by rw [hnew i' hne] at h2; exact h2) h3)
  have hkat:∀ {i':Nat} {q':Kd},kd[i']?=some q'→∃ o',FitsAt ops kd ic i' o' q':=fun {i' q'} h1=>by
   obtain ⟨q2,hq2,hF2⟩:=Zmp hfit (Qb (l:=ops) (i:=i') (by have:=(Qa.1 h1).1; omega))
   rw [h1] at hq2; simp at hq2; subst hq2
   exact ⟨_,hF2⟩
  have hne:∀ {i':Nat} {q':Kd},kd[i']?=some q'→q'≠q→i'≠i:=fun {i' q'} h1 h2 e=>by
   subst e; rw [hq] at h1; exact h2 (Option.some.inj h1).symm
  have hvars:(∀ t z s cs,q ≠ .alo t z s cs)→∀ k,Zgp kd β (fun j=>(L.setIfInBounds i true).getD j false) k→Zgp kd β (fun j=>L.getD j false) k:=by
   rintro hna k ⟨i',t,z,s,cs,h1,h2,rfl⟩
   have:i'≠i:=hne h1 (fun e=>hna t z s cs e.symm)
   exact ⟨i',t,z,s,cs,h1,(hnew i' this).symm.trans h2,rfl⟩
  have hdist':(∀ t z s cs,q ≠ .alo t z s cs)→∀ (i' j':Nat) t z s cs t' z' s' cs',kd[i']?=some (.alo t z s cs)→kd[j']?=some (.alo t' z' s' cs')→(L.setIfInBounds i true).getD i' false=true→(L.setIfInBounds i true).getD j' false=true→i'≠j'→β i'≠β j':=by
   intro hna i' j' t z s cs t' z' s' cs' h1 h2 h3 h4
   rw [hnew i' (hne h1 (fun e=>hna _ _ _ _ e.symm))] at h3
   rw [hnew j' (hne h2 (fun e=>hna _ _ _ _ e.symm))] at h4
   exact hdist i' j' t z s cs t' z' s' cs' h1 h2 h3 h4
  have hbox':(∀ t z s cs,q ≠ .alo t z s cs)→(∀ k,q ≠ .sto k)→∀ (i':Nat) t z s cs,kd[i']?=some (.alo t z s cs)→(L.setIfInBounds i true).getD i' false=true→w.drew.heap.size≤β i'∧u.heap[β i']?=some (.cells (if (L.setIfInBounds i true).getD s false then cs vc else z) t (0,0)):=by
   intro hna hns i' t z s cs h1 h2
   obtain ⟨o',hF'⟩:=hkat h1
   have hs:s≠i:=hne (hF'.alo t z s cs rfl) (fun e=>hns _ e.symm)
   rw [hnew s hs]
   exact hbox i' t z s cs h1 ((hnew i' (hne h1 (fun e=>hna _ _ _ _ e.symm))).symm.trans h2)
  have hsto':(∀ k,q ≠ .sto k)→∀ (i' k:Nat),kd[i']?=some (.sto k)→(L.setIfInBounds i true).getD i' false=true→(L.setIfInBounds i true).getD k false=true:=fun hns i' k h1 h2 =>
   hold _ (hsto i' k h1 ((hnew i' (hne h1 (fun e=>hns _ e.symm))).symm.trans h2))
  have hpost':Zdb q=false→∀ (i':Nat) q',kd[i']?=some q'→(L.setIfInBounds i true).getD i' false=true→Zdb q'=true→(L.setIfInBounds i true).getD ic false=true:=fun hp i' q' h1 h2 h3 =>
   hpl i' q' h1 h2 h3 (hne h1 (fun e=>by rw [e,hp] at h3; simp at h3))
  have hcl:Zdb q=true→L.getD ic false=true:=fun hp=>by
   obtain ⟨j,r,h1,h2,h3⟩:=hF.post hp
   have hj:=Zby hr ho h1
   cases r with
   | post g=>exact hpost j _ h2 hj rfl
   | cal =>
    obtain ⟨o',hF'⟩:=hkat h2
    have:=hF'.cal rfl
    rw [← this]; exact hj
   | _=>simp [Zea] at h3
  cases q with
  | pur c =>
   rw [hOb vc β u hext]
   have hic:ic≠i:=hne hcal (by simp)
   refine ⟨by simpa using hsz,hext,vc,β,hput vc β (fun _ _ _ _=>rfl),?_,hpost' rfl,hbox' (by simp) (by simp),hdist' (by simp),hsto' (by simp)⟩
   intro h
   rw [hnew ic hic] at h
   exact hR _ _ vc u u (hcR h) (fun _ _ _=>rfl) (Qe _) (fun k _=>hvars (by simp) k)
  | post g =>
   have hic:=hcl rfl
   rw [hOb vc β _ u (hcR hic)]
   refine ⟨by simpa using hsz,hext,vc,β,hput vc β (fun _ _ _ _=>rfl),?_,fun i' q' _ _ _=>hold _ hic,hbox' (by simp) (by simp),hdist' (by simp),hsto' (by simp)⟩
   intro h
   exact hR _ _ vc u u (hcR hic) (fun _ _ _=>rfl) (Qe _) (fun k _=>hvars (by simp) k)
  | cal =>
   have hie:=hF.cal rfl
   rw [hOb vc β u]
   refine (hC (Zgp kd β (fun j=>L.getD j false)) u hext ?_).mono ?_
   ·rintro k ⟨i',t,z,s,cs,h1,h2,rfl⟩
    have:=hbox i' t z s cs h1 h2
    exact ⟨this.1,(Array.getElem?_eq_some_iff.1 this.2).1,i',t,z,s,cs,_,h1,this.2⟩
   ·rintro e u' ⟨v,rfl,he,hr'⟩
    refine ⟨by simpa using hsz,hext.trans (he.mono hext.size),v,β,hput v β ?_,?_,?_,?_,hdist' (by simp),hsto' (by simp)⟩
    ·intro j r h1 h2
     cases r with
     | post g =>
      have:=hpost j _ h1 h2 rfl
      rw [← hie,hun] at this; simp at this
     | cal =>
      obtain ⟨o',hF'⟩:=hkat h1
      have:=hF'.cal rfl
      rw [this,← hie,hun] at h2; simp at h2
     | _=>rfl
    ·intro _
     exact hR _ _ v u' u' hr' (fun _ _ _=>rfl) (Qe _) (fun k _=>hvars (by simp) k)
    ·intro i' q' _ _ _
     rw [← hie,hL]; simp
    ·intro i' t z s cs h1 h2
     have hi':=hne h1 (by simp)
     have hb:=hbox i' t z s cs h1 ((hnew i' hi').symm.trans h2)
     refine ⟨hb.1,(he.block _ (Array.getElem?_eq_some_iff.1 hb.2).1).trans ?_⟩
     obtain ⟨o',hF'⟩:=hkat h1
     have hks:=hF'.alo t z s cs rfl
     have hs:s≠i:=hne hks (by simp)
     have hsl:L.getD s false=false:=by
      cases hsl:L.getD s false with
      | false=>rfl
      | true =>
       have:=hpost s _ hks hsl rfl
       rw [← hie,hun] at this; simp at this
     rw [hnew s hs,hsl]
     rw [hsl] at hb
     exact hb.2
  | alo t z s cs =>
   have hic:ic≠i:=hne hcal (by simp)
   rw [hOb vc β u]
   have hkat':=hF.alo t z s cs rfl
   have hs:s≠i:=hne hkat' (by simp)
   have hsl:L.getD s false=false:=by
    cases hsl:L.getD s false with
    | false=>rfl
    | true =>
     have:=hsto s i hkat' hsl
     rw [hun] at this; simp at this
   have hβ:∀ j,j≠i→(fun j=>if j=i then u.heap.size else β j) j=β j:=fun j h=>by simp [h]
   have hβi:(fun j=>if j=i then u.heap.size else β j) i=u.heap.size:=by simp
   have hp:=hput vc (fun j=>if j=i then u.heap.size else β j) (fun j r h1 h2=>by
    have hj:j≠i:=fun e=>by rw [e,hun] at h2; simp at h2
    cases r with
    | alo=>simp only [Kd.val]; rw [if_neg hj]
    | _=>rfl)
   simp only [Kd.val,if_true] at hp
   have hlt:∀ (i':Nat) t z s cs,kd[i']?=some (.alo t z s cs)→L.getD i' false=true→β i'<u.heap.size:=fun i' t z s cs h1 h2=>(Array.getElem?_eq_some_iff.1 (hbox i' t z s cs h1 h2).2).1
   refine ⟨by simpa using hsz,hext.alloc hext.size _,vc,(fun j=>if j=i then u.heap.size else β j),hp,?_,?_,?_,?_,hsto' (by simp)⟩
   ·intro h
    rw [hnew ic hic] at h
    refine hR _ _ vc u _ (hcR h) (fun k hk _=>Below.heap_alloc _ _ _ hk) (by simp) ?_
    rintro k hk ⟨i',t,z,s,cs,h1,h2,rfl⟩
    by_cases e:i'=i
    ·subst e; simp at hk
    ·rw [hβ i' e]
     exact ⟨i',t,z,s,cs,h1,(hnew i' e).symm.trans h2,rfl⟩
   ·exact hpost' rfl
   ·intro i' t' z' s' cs' h1 h2
    by_cases e:i'=i
    ·subst e
     rw [hq] at h1
     simp only [Qo,Kd.alo.injEq] at h1
     obtain ⟨rfl,rfl,rfl,rfl⟩:=h1
     rw [hβi,hnew s hs,hsl]
     exact ⟨hext.size,heap_alloc_new u _⟩
    ·rw [hβ i' e]
     have hl':=(hnew i' e).symm.trans h2
     have hb:=hbox i' t' z' s' cs' h1 hl'
     have hs':s'≠i:=by
      obtain ⟨o',hF'⟩:=hkat h1
      exact hne (hF'.alo t' z' s' cs' rfl) (by simp)
     rw [hnew s' hs']
     exact ⟨hb.1,(Below.heap_alloc _ _ _ (hlt i' t' z' s' cs' h1 hl')).trans hb.2⟩
   ·intro i' j' t' z' s' cs' t'' z'' s'' cs'' h1 h2 h3 h4 hij
    by_cases e:i'=i
    ·have e':j'≠i:=fun h=>hij (e.trans h.symm)
     rw [e,hβi,hβ j' e']
     have:=hlt j' _ _ _ _ h2 ((hnew j' e').symm.trans h4)
     omega
    ·rw [hβ i' e]
     by_cases e':j'=i
     ·rw [e',hβi]
      have:=hlt i' _ _ _ _ h1 ((hnew i' e).symm.trans h3)
      omega
     ·rw [hβ j' e']
      exact hdist i' j' _ _ _ _ _ _ _ _ h1 h2 ((hnew i' e).symm.trans h3) ((hnew j' e').symm.trans h4) hij
  | sto k =>
   have hic:=hcl rfl
   obtain ⟨hdn,hwk,t,z,cs,hkk⟩:=hF.sto k rfl
   have hkl:=Zby hr ho hwk
   have hbk:=hbox k t z i cs hkk hkl
   rw [hun] at hbk
   obtain ⟨w',hrun,hnewb,hkept⟩:=hOb vc β _ u t z i cs hkk (hcR hic) hbk.2
   rw [hrun]
   have hki:k≠i:=hne hkk (by simp)
   refine ⟨by simpa using hsz,hext.trans (hkept.below hext.size (fun j e=>by rw [e]; exact hbk.1)),vc,β,hput vc β (fun _ _ _ _=>rfl),?_,fun i' q' _ _ _=>hold _ hic,?_,hdist' (by simp),?_⟩
   ·intro _
    refine hR _ _ vc u w' (hcR hic) (fun j hj hn=>hkept.block j hj (fun e=>hn ⟨k,t,z,i,cs,hkk,hkl,e⟩)) hkept.size (fun j _=>hvars (by simp) j)
   ·intro i' t' z' s' cs' h1 h2
    have e:i'≠i:=hne h1 (by simp)
    have hl':=(hnew i' e).symm.trans h2
    by_cases ek:i'=k
    ·subst ek
     rw [hkk] at h1
     simp only [Qo,Kd.alo.injEq] at h1
     obtain ⟨rfl,rfl,rfl,rfl⟩:=h1
     rw [hL]
     simp only [BEq.rfl,Bool.or_true,if_true]
     exact ⟨hbk.1,hnewb⟩
    ·have hb:=hbox i' t' z' s' cs' h1 hl'
     have hs':s'≠i:=fun e'=>by
      obtain ⟨o',hF'⟩:=hkat h1
      have:=hF'.alo t' z' s' cs' rfl
      rw [e',hq] at this
      simp at this
      exact ek this.symm
     rw [hnew s' hs']
     exact ⟨hb.1,(hkept.block _ (Array.getElem?_eq_some_iff.1 hb.2).1 (hdist i' k _ _ _ _ _ _ _ _ h1 hkk hl' hkl ek)).trans hb.2⟩
   ·intro i' k' h1 h2
    by_cases e:i'=i
    ·subst e
     rw [hq] at h1
     simp at h1
     subst h1
     exact hold _ hkl
    ·exact hold _ (hsto i' k' h1 ((hnew i' e).symm.trans h2))
 ·intro L a u hr hJ
  obtain ⟨hsz,hext,vc,β,rfl,hcR,hpost,hbox,hdist,hsto⟩:=hJ
  have hall:=Zsz hfit hsz hr
  have e:pa a0 vc β (fun j=>L.getD j false) 0 ops kd=paAll a0 ops kd vc β:=Zen (fun j r hr'=>⟨by
   simp only [Nat.zero_add]
   exact hall j (by have:=(Qa.1 hr').1; omega),fun _=>rfl⟩)
  rw [e]
  have hk:∀ (i:Nat) t z s cs,kd[i]?=some (.alo t z s cs)→L.getD i false=true∧L.getD s false=true:=fun i t z s cs h=>by
   have hi:=(Qa.1 h).1
   obtain ⟨q2,hq2,hF2⟩:=Zmp hfit (Qb (l:=ops) (i:=i) (by omega))
   rw [h] at hq2; simp at hq2; subst hq2
   have:=(Qa.1 (hF2.alo t z s cs rfl)).1
   exact ⟨hall i (by omega),hall s (by omega)⟩
  refine hQ vc β u hext ?_ ?_ ?_
  ·refine hR _ _ vc u u (hcR (hall ic hil)) (fun _ _ _=>rfl) (Qe _) ?_
   rintro k _ ⟨i',t,z,s,cs,h1,h2,rfl⟩
   exact ⟨i',t,z,s,cs,h1,(hk i' t z s cs h1).1,rfl⟩
  ·intro i t z s cs h
   have:=hbox i t z s cs h (hk i t z s cs h).1
   rw [(hk i t z s cs h).2] at this
   exact this
  ·intro i j t z s cs t' z' s' cs' h1 h2
   exact hdist i j t z s cs t' z' s' cs' h1 h2 (hk i t z s cs h1).1 (hk j t' z' s' cs' h2).1
 ·have:(ops.toArray).size=ops.length:=by simp
  unfold unl
  exact Qq (List.length_filter_le _ _) (by simp)
 ·have hz:∀ j,(Array.replicate ops.toArray.size false).getD j false=false:=fun j=>by
   simp only [Array.getD_eq_getD_getElem?,Array.getElem?_replicate]
   split <;> rfl
  refine ⟨by simp,Below.refl _ _,undef,fun _=>0,?_,?_,?_,?_,?_,?_⟩
  ·have:∀ (k:Nat) (os:List Oper) (qs:List Kd),pa a0 undef (fun _=>0) (fun j=>(Array.replicate ops.toArray.size false).getD j false) k os qs=a0:=by
    intro k os
    induction os generalizing k with
    | nil=>intro qs; simp [pa]
    | cons o os ih =>
     intro qs
     cases qs with
     | nil=>simp [pa]
     | cons q qs=>rw [pa,hz]; simp only [Bool.false_eq_true,if_false]; exact ih _ _
   exact (this _ _ _).symm
  ·intro h; rw [hz] at h; simp at h
  ·intro i q _ h; rw [hz] at h; simp at h
  ·intro i t z s cs _ h; rw [hz] at h; simp at h
  ·intro i j t z s cs t' z' s' cs' _ _ h; rw [hz] at h; simp at h
  ·intro i k _ h; rw [hz] at h; simp at h
theorem Zkd {P:Program} {ops:List Oper} {id:Nat} {Q:Exit→Act→World→Prop} {a0:Act} {w:World} (hm:P.follows .mixedOrders=true) (kd:List Kd) (ic:Nat) (hfit:Zgo ops kd ic=true)
  (R:(Nat→Prop)→Value→World→Prop) (f:FuncId) (args:Array Value)
  (hR:∀ X X' v u u',R X v u→(∀ k,k<u.heap.size→¬ X k→u'.heap[k]?=u.heap[k]?)→u.heap.size≤u'.heap.size→(∀ k,k<u.heap.size→X' k→X k)→R X' v u')
  (hC:∀ X u,Ext w.drew u→(∀ k,X k→w.heap.size≤k∧k<u.heap.size)→Calls P f args u (fun e u'=>∃ v,e = .returned v∧Ext u u'∧R X v u'))
  (hob:AllOb P kd w.drew (paAll a0 ops kd) R f args ops kd)
  (hcal:kd[ic]?=some .cal) (hil:ic<ops.length)
  (hQ:∀ vc β u,Ext w.drew u→R (Zgp kd β (fun _=>true)) vc u→(∀ (i:Nat) t z s cs,kd[i]?=some (.alo t z s cs)→w.heap.size≤β i∧u.heap[β i]?=some (.cells (cs vc) t (0,0))) →
   (∀ (i j:Nat) t z s cs t' z' s' cs',kd[i]?=some (.alo t z s cs)→kd[j]?=some (.alo t' z' s' cs')→i≠j→β i≠β j)→Q .normal (paAll a0 ops kd vc β) u) :
  (Code.region id ops.toArray true).wp P Q a0 w :=
 Znu hm kd ic hfit R f args hR (fun X u hu hX=>hC X u hu (fun k hk=>⟨(hX k hk).1,(hX k hk).2.1⟩)) hob hcal hil hQ
theorem Ext.of {w w':World} (h:Kept Zco w w'):Ext w w':=h.below (Qe _) (fun _ e=>e.elim)
theorem Ext.undrew {w u:World} (h:Ext w.drew u):Ext w u:=⟨h.os,h.tape,h.output,h.size,h.block⟩
theorem Ext.up {w u:World} (h:Ext w.drew u) {p:Addr} {v:Value} (hc:w.cell? p=some v):u.cell? p=some v:=(h.cell (World.block_lt_of_cell? w p hc)).trans hc
def Zwd:Value→Array Value
 | .agg cs=>cs
 | _=>#[]
theorem box3 {w:World} {b:Nat} {u0 u1 u2:Value} {t:TypeId} (h:w.heap[b]?=some (.cells #[u0,u1,u2] t (0,0))) :
  w.cell? ⟨b,0,none⟩=some u0∧w.cell? ⟨b,1,none⟩=some u1∧w.cell? ⟨b,2,none⟩=some u2∧∀ i,w.frozen? ⟨b,i,none⟩=false :=
 ⟨Zaa h 0 _ rfl,Zaa h 1 _ rfl,Zaa h 2 _ rfl,fun i=>Zae h i⟩
def Zdq (f:Nat):Nat→List Tok→Names→List (List Sym)→Option (List (List Sym) × List Tok × Names)
 | 0,_,_,_=>none
 | g+1,ts,names,acc =>
  match Zdl f ts names with
  | none=>none
  | some r =>
   match r.2.1 with
   | []=>none
   | x::rest=>if x.kind=46 then some (acc++[r.1],rest,r.2.2) else Zdq f g rest r.2.2 (acc++[r.1])
def Zic (i:Nat):Value→Value
 | .tuple xs=>xs.getD i undef
 | _=>undef
def Ybi:Kd→Bool
 | .pur _=>true
 | .cal=>true
 | _=>false
def ObL (P:Program) (w0:World) (FA:Value→Act) (R R':Value→World→Prop) (f:FuncId) (args:Array Value) (o:Oper):Kd→Prop
 | .pur c=>∀ vc,(execOp (FA vc).eval o).run P w0 = .ok (.value c) w0
 | .post g=>∀ vc w,R vc w∨R' vc w→(execOp (FA vc).eval o).run P w = .ok (.value (g vc)) w
 | .cal=>∀ vc,(execOp (FA vc).eval o).run P w0 = .ok (.enter f args) w0
 | .alo .. => True
 | .sto _=>∀ vc w,R vc w→∃ w',(execOp (FA vc).eval o).run P w = .ok .skip w'∧R' vc w'
def AllObL (P:Program) (w0:World) (FA:Value→Act) (R R':Value→World→Prop) (f:FuncId) (args:Array Value):List Oper→List Kd→Prop
 | o::os,q::qs=>ObL P w0 FA R R' f args o q∧AllObL P w0 FA R R' f args os qs
 | _,_=>True
theorem AllObL.at {P:Program} {w0:World} {FA:Value→Act} {R R':Value→World→Prop} {f:FuncId} {args:Array Value}:∀ {ops:List Oper} {ks:List Kd},AllObL P w0 FA R R' f args ops ks →
  ∀ {i:Nat} {o:Oper} {q:Kd},ops[i]?=some o→ks[i]?=some q→ObL P w0 FA R R' f args o q:=by
 intro ops
 induction ops with
 | nil=>intro ks _ i o q h; simp at h
 | cons p os ih =>
  intro ks h i o q ho hq
  cases ks with
  | nil=>simp at hq
  | cons r qs =>
   cases i with
   | zero=>simp at ho hq; subst ho hq; exact h.1
   | succ i=>exact ih h.2 (by simpa using ho) (by simpa using hq)
abbrev noB:Nat→Nat:=fun _=>0
structure LastPlan (ops:List Oper) (kd:List Kd) (ic fi:Nat) (a0:Act) (w0:World) (R R':Value→World→Prop) (L:Array Bool) (a:Act) (w:World):Prop where
 size:L.size=ops.length
 closed:∀ (i:Nat) o,ops[i]?=some o→L.getD i false=true→∀ j,Zdf o j=true→L.getD j false=true
 st:∃ vc,a=pa a0 vc noB (fun j=>L.getD j false) 0 ops kd∧(L.getD ic false=false→w=w0)∧(L.getD ic false=true→(L.getD fi false=false→R vc w)∧(L.getD fi false=true→R vc w∨R' vc w)∧(L.getD fi false=true→(∃ k,kd[fi]?=some (.sto k))→R' vc w)) ∧
  (∀ (i:Nat) q,kd[i]?=some q→L.getD i false=true→Zdb q=true→L.getD ic false=true)
structure CellS where
 sym:Sym
 kids:List Nat
 up:Nat
def turn (cs:List CellS) (x y:Nat):List CellS:=cs.modify x (fun c => { c with up:=y })
theorem Zrk (cs:List CellS) (x y:Nat):(turn cs x y).length=cs.length:=by simp [turn]
theorem Zmq (cs:List CellS) (x y i:Nat):(turn cs x y)[i]?=(cs[i]?).map (fun c=>if x=i then { c with up:=y } else c):=by
 simp only [turn,List.getElem?_modify]
 cases cs[i]? with
 | none=>rfl
 | some c=>simp
def UpOk (cs:List CellS) (ρ rk:Nat→Nat):Prop:=∀ (i:Nat) c,cs[i]?=some c→c.up<cs.length∧ρ c.up=ρ i∧(c.up=i→ρ i=i)∧(c.up≠i→rk c.up<rk i)
theorem UpOk.root {cs:List CellS} {ρ rk:Nat→Nat} (h:UpOk cs ρ rk):∀ (n i:Nat) c,rk i≤n→cs[i]?=some c→∃ c',cs[ρ i]?=some c'∧c'.up=ρ i∧ρ (ρ i)=ρ i:=by
 intro n
 induction n with
 | zero =>
  intro i c hn hc
  obtain ⟨h1,h2,h3,h4⟩:=h i c hc
  by_cases e:c.up=i
  ·rw [h3 e]; exact ⟨c,hc,e,h3 e⟩
  ·have:=h4 e; omega
 | succ n ih =>
  intro i c hn hc
  obtain ⟨h1,h2,h3,h4⟩:=h i c hc
  by_cases e:c.up=i
  ·rw [h3 e]; exact ⟨c,hc,e,h3 e⟩
  ·have:=h4 e
   rw [← h2]
   exact ih c.up _ (by omega) (Qb h1)
theorem UpOk.rt {cs:List CellS} {ρ rk:Nat→Nat} (h:UpOk cs ρ rk):Rt cs.length ρ:=by
 refine ⟨fun i hi => ?_,fun i hi => ?_⟩
 ·obtain ⟨c',h1,_,_⟩:=h.root _ i _ (Qe _) (Qb hi)
  exact (Qa.1 h1).1
 ·obtain ⟨c',_,_,h3⟩:=h.root _ i _ (Qe _) (Qb hi)
  exact h3
def Zfg (cs:List CellS):Nat:=((List.range cs.length).filter (fun i=>((cs[i]?).map (fun c=>c.up == i)).getD false)).length
theorem Znv {cs:List CellS} {x y:Nat} {c:CellS} (hx:cs[x]?=some c) (hr:c.up=x) (hne:x≠y):Zfg (turn cs x y)<Zfg cs:=by
 unfold Zfg
 rw [Zrk]
 refine Znt (x:=x) (fun i _ hi => ?_) (List.mem_range.2 (Qa.1 hx).1) (by simp [hx,hr]) ?_
 ·rw [Zmq] at hi
  cases hc:cs[i]? with
  | none=>rw [hc] at hi; simp at hi
  | some d =>
   rw [hc] at hi
   simp only [Option.map_some,Option.getD_some,beq_iff_eq] at hi ⊢
   split at hi
   ·rename_i e; subst e; simp at hi; exact absurd hi.symm hne
   ·exact hi
 ·rw [Zmq,hx]
  simp
  exact fun e=>hne e.symm
theorem UpOk.turn {cs:List CellS} {ρ rk:Nat→Nat} (h:UpOk cs ρ rk) {x y:Nat} (hx:x<cs.length) (hy:y<cs.length) (rx:ρ x=x) (ry:ρ y=y) (hne:x≠y) :
  UpOk (YtlmjilpjmgjjcabDoor.turn cs x y) (mg ρ x y) (fun i=>if ρ i=x then rk i+rk y+1 else rk i):=by
 intro i c hc
 rw [Zmq] at hc
 cases hd:cs[i]? with
 | none=>rw [hd] at hc; simp at hc
 | some d =>
  rw [hd] at hc
  simp only [Option.map_some,Qo] at hc
  obtain ⟨h1,h2,h3,h4⟩:=h i d hd
  rw [Zrk]
  by_cases e:x=i
  ·subst e
   rw [if_pos rfl] at hc
   subst hc
   refine ⟨hy,?_,fun e=>absurd e.symm hne,fun _ => ?_⟩
   ·unfold mg
    rw [rx,ry,if_pos rfl,if_neg (fun e=>hne e.symm)]
   ·simp only [rx,ry,if_true]
    rw [if_neg (fun e=>hne e.symm)]; omega
  ·rw [if_neg e] at hc
   subst hc
   refine ⟨h1,?_,fun e' => ?_,fun e' => ?_⟩
   ·unfold mg; rw [h2]
   ·have:=h3 e'
    unfold mg
    rw [this,if_neg (fun e''=>e e''.symm)]
   ·have:=h4 e'
    simp only [h2]
    split <;> omega
theorem Zjk (w:World) (g n cap i:Nat) (u:Value):Kept (Zbq (.slice (some ⟨g,0,none⟩) n cap)) w (w.setCell ⟨g,i,none⟩ u):=(Qx _ w).setCell (p:=⟨g,i,none⟩) (fun _=>(rfl:some g=some g)) u
theorem Znw {l:List Nat} {k n:Nat} (h:l[k]?=some n):l.take (k+1)=l.take k++[n]:=by rw [List.take_add_one,h]; rfl
def fresh (st:List Nat):Nat:=(st.filter (fun n=>n == 0)).length
def on (st:List Nat):Nat→Prop:=fun i=>st[i]?=some 1
theorem Known.congr {G:Gr} {ρ:Nat→Nat} {D D':Nat→Prop} {T T':Nat→List Sym} (h:Known G ρ D T) (hd:∀ i,D' i↔D i) (ht:∀ i,D i→T' i=T i):Known G ρ D' T':=by
 refine ⟨fun r hr=>h.lt r ((hd r).1 hr),fun r hr => ?_,fun r hr k hk=>(hd _).2 (h.kid r ((hd r).1 hr) k hk)⟩
 have hr':=(hd r).1 hr
 rw [ht r hr',h.tm r hr']
 congr 2
 exact List.map_congr_left (fun k hk=>(ht _ (h.kid r hr' k hk)).symm)
theorem Zcn {P:Program} {ops:Array Oper} {o:Oper} {a:Act} {K:Act→World→Prop} {Q:Exit→Act→World→Prop} {E:Prop} {W:World} (w:World) (hg:o.guard=none) (s x:Operand) (t:TypeId)
  (ho:o.op = .call { callee := .builtin .append,args:=#[s,x],argTypes:=#[t,t] })
  (base:Nat) (e:TypeId) {z:Value} {size bytes:Nat}
  (hinfo:(P.info? e).map (fun i=>(i.zero,i.size,i.bytes))=some (some z,size,bytes)) (ht:P.underlying t=some (.slice e)) (hzs:z.cells.size=size) (hsz:0<size)
  (v:Value) (n:Nat) (xs:List Value) (hs:a.eval s=v) (hown:w.ownsRow base e size v n xs)
  (news:Array Value) {N:Nat} (hx:a.eval x = .slice (some ⟨N,0,none⟩) 1 1) (hN:N=w.heap.size) (hl:news.size=size) (h1:∀ u ∈ news.toList,u.oneCell'=true)
  (hbig:(n+1) * (bytes+1)≤140737488355328) (hbase:base≤w.heap.size) (hW:W=w.alloc (.cells news e))
  (h:∀ v' w',Appended w base e size v (n+1) (xs++news.toList) v' w'→K (a.put o.dst v') w'):if Region.wanted o (yielded ops a.tmps)=true then Oper.wp P o a W K Q else E:=by
 have hw:Region.wanted o (yielded ops a.tmps)=true:=by simp [Region.wanted,hg]
 rw [if_pos hw,hW]
 exact Zld w s x t ho base e hinfo ht hzs hsz v n xs hs hown news hx hN hl h1 hbig hbase h
def Zhk (f:Nat):List UInt8→List (List Sym)→List Nat→List UInt8
 | _,[],_=>[]
 | sep,l::ls,seen=>sep++(Zce f l seen).1++Zhk f [44,32] ls (Zce f l seen).2.1
theorem Zpu (f:Nat):∀ (ls:List (List Sym)),(∀ l' ∈ ls,IsT f l')→(∀ s ∈ ls.flatten,s.name.length≤4096)→∀ sep seen,sep.length≤2→seen.length+ls.flatten.length≤4000→(Zhk f sep ls seen).length≤4101 * ls.flatten.length:=by
 intro ls
 induction ls with
 | nil=>intro _ _ sep seen _ _; simp [Zhk]
 | cons l ls ih =>
  intro h hn sep seen hsep hs
  simp only [List.flatten_cons,Qg] at hs
  have h1:=Zns f l (h l (by simp)) (fun s hs=>hn s (by simp [hs])) seen (by omega)
  have h2:=ih (fun l' hl=>h l' (by simp [hl])) (fun s hs=>hn s (by simp only [List.flatten_cons,Qk]; exact Or.inr hs)) [44,32] (Zce f l seen).2.1 (by simp) (by omega)
  have h3:=Zwa f l (h l (by simp))
  simp only [Zhk,Qg,List.flatten_cons]
  omega
theorem Zlj (f:Nat):∀ (l:List UInt8) (p:Nat),(lexF f l p).length≤l.length∧∀ t ∈ lexF f l p,t.text≠[]∧t.text.length≤l.length:=by
 induction f with
 | zero=>intro l p; exact ⟨by simp [lexF],fun t ht=>by simp [lexF] at ht⟩
 | succ f ih =>
  intro l p
  cases l with
  | nil=>exact ⟨by simp [lexF],fun t ht=>by simp [lexF] at ht⟩
  | cons c r =>
   rw [lexF]
   split
   ·have h:=ih r (p+1)
    exact ⟨by simp; omega,fun t ht=>⟨(h.2 t ht).1,by have:=(h.2 t ht).2; simp; omega⟩⟩
   ·have h:=ih (r.drop (Zcc c r).2) (p+(Zcc c r).2+1)
    simp only [List.length_drop] at h
    refine ⟨by simp; omega,fun t ht => ?_⟩
    simp only [Qp] at ht
    rcases ht with rfl | ht
    ·exact ⟨by simp,by simp; omega⟩
    ·exact ⟨(h.2 t ht).1,by have:=(h.2 t ht).2; simp; omega⟩
theorem Zze (l:List UInt8) (p:Nat):(toks l p).length≤l.length:=(Zlj _ l p).1
theorem Znx (l:List UInt8) (p:Nat):∀ t ∈ toks l p,t.text≠[]∧t.text.length≤l.length:=(Zlj _ l p).2
def Zbf (s:ByteArray):List Tok:=toks s.data.toList 0++[⟨4,[],s.size⟩]
theorem Zfr (s:ByteArray):(Zbf s).length≤s.size+1:=by
 have:=Zze s.data.toList 0
 simp [Zbf] at this ⊢
 exact this
theorem Zjl (s:ByteArray):∀ t ∈ Zbf s,t.text.length≤s.size:=by
 intro t ht
 simp only [Zbf,Qk,List.mem_singleton] at ht
 rcases ht with ht | rfl
 ·have:=(Znx _ _ t ht).2
  simpa using this
 ·simp
theorem Zny (s:ByteArray):∀ i t,(Zbf s)[i]?=some t→i+1<(Zbf s).length→t.text≠[]:=by
 intro i t ht hi
 simp only [Zbf,Qg,Qn] at hi
 rw [Zbf,Qc (by omega)] at ht
 exact (Znx _ _ t (Qh ht)).1
theorem Zta {p:List Tok→Names→Option (List Sym × List Tok × Names)} {M:Nat}
  (hp:∀ ts names r,(∀ t ∈ ts,t.text.length≤M)→p ts names=some r→r.1.length+r.2.1.length≤ts.length∧(∀ s ∈ r.1,s.name.length≤M)∧(∀ t ∈ r.2.1,t.text.length≤M)) :
  ∀ (g:Nat) (ts:List Tok) (names:Names) (acc:List (List Sym)) r,(∀ t ∈ ts,t.text.length≤M)→(∀ s ∈ acc.flatten,s.name.length≤M)→Zew p g ts names acc=some r →
   r.1.flatten.length+r.2.1.length≤acc.flatten.length+ts.length∧(∀ s ∈ r.1.flatten,s.name.length≤M)∧(∀ t ∈ r.2.1,t.text.length≤M):=by
 intro g
 induction g with
 | zero=>intro ts names acc r _ _ h; simp [Zew] at h
 | succ g ih =>
  intro ts names acc r hM hA h
  cases ts with
  | nil=>simp [Zew] at h
  | cons t ts =>
   rw [Zew] at h
   split at h
   ·simp at h; subst h
    exact ⟨by simp,hA,fun t ht=>hM t (by simp [ht])⟩
   ·split at h
    ·simp at h
    ·rename_i q hq
     obtain ⟨h1,h2,h3⟩:=hp _ _ _ (fun t ht=>hM t (by simp [ht])) hq
     obtain ⟨h4,h5,h6⟩:=ih _ _ _ _ h3 (fun s hs=>by
      simp only [List.flatten_append,List.flatten_cons,List.flatten_nil,Qs,Qk] at hs
      rcases hs with hs | hs
      ·exact hA s hs
      ·exact h2 s hs) h
     refine ⟨?_,h5,h6⟩
     simp only [List.flatten_append,List.flatten_cons,List.flatten_nil,Qs,Qg,Qf] at h4 ⊢
     omega
theorem Ztb {M:Nat}:∀ (f:Nat) (ts:List Tok) (names:Names) r,(∀ t ∈ ts,t.text.length≤M)→Zdl f ts names=some r→r.1.length+r.2.1.length≤ts.length∧(∀ s ∈ r.1,s.name.length≤M)∧(∀ t ∈ r.2.1,t.text.length≤M):=by
 intro f
 induction f with
 | zero=>intro ts names r _ h; simp [Zdl] at h
 | succ f ih =>
  intro ts names r hM h
  cases ts with
  | nil=>simp [Zdl] at h
  | cons t ts =>
   rw [Zdl] at h
   split at h
   ·simp at h; subst h
    exact ⟨by simp; omega,by simp,fun t ht=>hM t (by simp [ht])⟩
   ·cases ts with
    | nil=>simp [Zlb] at h
    | cons u us =>
     rw [Zlb] at h
     split at h
     ·simp at h; subst h
      exact ⟨by simp; omega,by simp; exact hM t (by simp),fun t ht=>hM t (by simp at ht ⊢; exact Or.inr ht)⟩
     ·rw [Option.map_eq_some_iff] at h
      obtain ⟨q,hq,rfl⟩:=h
      obtain ⟨h1,h2,h3⟩:=Zta ih _ _ _ _ _ (fun t ht=>hM t (List.mem_cons_of_mem _ ht)) (by simp) hq
      refine ⟨by simp at h1 ⊢; omega,?_,h3⟩
      intro s hs
      simp only [Qp] at hs
      rcases hs with rfl | hs
      ·exact hM t (by simp)
      ·exact h2 s hs
theorem Zke {M f:Nat}:∀ (g:Nat) (ts:List Tok) (names:Names) (acc:List (List Sym)) r,(∀ t ∈ ts,t.text.length≤M)→(∀ s ∈ acc.flatten,s.name.length≤M)→Zdq f g ts names acc=some r →
   r.1.flatten.length+r.2.1.length≤acc.flatten.length+ts.length∧(∀ s ∈ r.1.flatten,s.name.length≤M)∧(∀ t ∈ r.2.1,t.text.length≤M):=by
 intro g
 induction g with
 | zero=>intro ts names acc r _ _ h; simp [Zdq] at h
 | succ g ih =>
  intro ts names acc r hM hA h
  rw [Zdq] at h
  split at h
  ·simp at h
  ·rename_i q hq
   obtain ⟨h1,h2,h3⟩:=Ztb f _ _ _ hM hq
   have hA':∀ s ∈ (acc++[q.1]).flatten,s.name.length≤M:=fun s hs=>by
    simp only [List.flatten_append,List.flatten_cons,List.flatten_nil,Qs,Qk] at hs
    rcases hs with hs | hs
    ·exact hA s hs
    ·exact h2 s hs
   split at h
   ·simp at h
   ·rename_i x rest hx
    rw [hx] at h1 h3
    split at h
    ·simp at h; subst h
     refine ⟨?_,hA',fun t ht=>h3 t (by simp [ht])⟩
     simp only [List.flatten_append,List.flatten_cons,List.flatten_nil,Qs,Qg,Qf] at h1 ⊢
     omega
    ·obtain ⟨h4,h5,h6⟩:=ih _ _ _ _ (fun t ht=>h3 t (by simp [ht])) hA' h
     refine ⟨?_,h5,h6⟩
     simp only [List.flatten_append,List.flatten_cons,List.flatten_nil,Qs,Qg,Qf] at h1 h4 ⊢
     omega
def Zfs (ts:List Tok):Option (Cls × List Tok) :=
 match Zdl 1000 ts [] with
 | none=>none
 | some r=>match r.2.1 with
  | []=>none
  | x::rest=>if x.kind=3 then (Zdq 1000 1000 rest r.2.2 []).map (fun q=>(⟨r.1,q.1,q.2.2⟩,q.2.1)) else some (⟨r.1,[],r.2.2⟩,rest)
def Ziw:Nat→List Tok→List Cls→Option (List Cls)
 | 0,_,_=>none
 | _+1,[],_=>none
 | g+1,t::ts,acc =>
  if t.kind=4 then some acc
  else match Zfs (t::ts) with
   | none=>none
   | some r=>Ziw g r.2 (acc++[r.1])
theorem Zcf {w w':World} {M:Nat} {cs:Array Value} {t:TypeId} {fr:Nat × Nat} {B:Nat} {e:TypeId} {size n:Nat} {v:Value} {xs:List Value} (h:w.ownsRow B e size v n xs) (hM:w.heap[M]?=some (.cells cs t fr)) (ht:e≠t) (hk:Kept (fun k=>k=M) w w'):w'.ownsRow B e size v n xs :=
 hk.owns h (fun k hk' e'=>by subst e'; exact Zaf h ht hM hk')
def Ztc (w:World) (size:Nat) (xv:Value) (m:Nat) (news:List Value):Prop :=
 news.length=m * size∧(∀ u ∈ news,u.oneCell'=true)∧((m=0∧xv = .slice none 0 0)∨∃ a c,xv = .slice (some a) m c∧∀ j u,news[j]?=some u→w.cell? (a.add j)=some u)
theorem Zpv {P:Program} (w:World) (t ty:TypeId) (base:Nat) (e:TypeId) {z:Value} {size bytes:Nat}
  (hinfo:(P.info? e).map (fun i=>(i.zero,i.size,i.bytes))=some (some z,size,bytes)) (ht:P.underlying t=some (.slice e)) (hzs:z.cells.size=size) (hsz:0<size)
  (v:Value) (n:Nat) (xs:List Value) (hown:w.ownsRow base e size v n xs) (xv:Value) (m:Nat) (news:List Value) (hx:Ztc w size xv m news)
  (hbig:(n+m) * (bytes+1)≤140737488355328) (hbase:base≤w.heap.size) :
  ∃ v' w',(Builtin.append_ #[t,t] ty #[v,xv]).run P w = .ok v' w'∧Appended w base e size v (n+m) (xs++news) v' w':=by
 obtain ⟨i,hi,hz,hsi,hby⟩:=info_parts hinfo
 have hb1:n+m≤140737488355328:=Qq (Nat.le_mul_of_pos_right (n+m) (Nat.succ_pos bytes)) hbig
 have hb2:(n+m) * bytes≤140737488355328:=Qq (Nat.mul_le_mul_left _ (Nat.le_succ _)) hbig
 have h63:n+m≤maxLen:=by simp only [maxLen]; omega
 obtain ⟨hl,h1,⟨rfl,rfl⟩ | ⟨a,c,rfl,hnews⟩⟩:=hx
 ·have hn:news=[]:=List.eq_nil_of_length_eq_zero (by simpa using hl)
  subst hn
  exact ⟨v,w,run_append_owned_none w base t ty e i size ht hi v n xs hown,by simpa using hown,Qx _ _,Or.inl rfl⟩
 ·obtain ⟨v',w',hr,hA,hB,hC⟩:=run_append_own (P:=P) w base t ty e i z size bytes ht hi hz hsi hby hzs hsz v n xs hown a m c news hl hnews h1 h63 hb2 hbase
  refine ⟨v',w',hr,hA,Kept.of_grown hB |>.mono (fun k _ h=>h),?_⟩
  rcases Nat.eq_zero_or_pos m with rfl | hm
  ·rcases hown.2 with ⟨rfl,rfl⟩ | ⟨g,cap,cur,rfl,hbg,hg,hnc,hcm,hcs,htake⟩
   ·have:=hC.2 ⟨rfl,rfl⟩
    rw [this]; exact Or.inl rfl
   ·have hfit:n * i.size+news.length≤cur.size:=by rw [hl,hcs,hsi]; simp; exact Nat.mul_le_mul_right _ hnc
    have hr':=run_append_room (P:=P) w t ty e i ht hi g n cap cur hg a 0 c news (by rw [hsi]; exact hl) hnews h1 (by omega) hfit
    rw [hr'] at hr
    injection hr with h2 h3
    subst h2
    exact Or.inl rfl
  ·subst hsi hby
   rcases Zga (P:=P) w base t ty e i z ht hi hz v n xs hown a m c news hl hm hnews h1 h63 hb2 v' w' hr with h | h
   ·exact .inl h
   ·exact .inr ⟨_,h,Qe _⟩
theorem Ztd {P:Program} {o:Oper} {a:Act} {K:Act→World→Prop} {Q:Exit→Act→World→Prop} (w:World) (s x:Operand) (t:TypeId)
  (ho:o.op = .call { callee := .builtin .append,args:=#[s,x],argTypes:=#[t,t] })
  (base:Nat) (e:TypeId) {z:Value} {size bytes:Nat}
  (hinfo:(P.info? e).map (fun i=>(i.zero,i.size,i.bytes))=some (some z,size,bytes)) (ht:P.underlying t=some (.slice e)) (hzs:z.cells.size=size) (hsz:0<size)
  (v:Value) (n:Nat) (xs:List Value) (hs:a.eval s=v) (hown:w.ownsRow base e size v n xs) (xv:Value) (m:Nat) (news:List Value) (hx:a.eval x=xv) (hr:Ztc w size xv m news)
  (hbig:(n+m) * (bytes+1)≤140737488355328) (hbase:base≤w.heap.size)
  (h:∀ v' w',Appended w base e size v (n+m) (xs++news) v' w'→K (a.put o.dst v') w'):o.wp P a w K Q:=by
 obtain ⟨v',w',hrun,hA⟩:=Zpv (P:=P) w t o.type base e hinfo ht hzs hsz v n xs hown xv m news hr hbig hbase
 unfold Oper.wp
 simp [execOp,ho,resolve,invoke,builtin,hs,hx,hrun,Result.andThen]
 exact h v' w' hA
theorem Zhb {P:Program} {ops:Array Oper} {rest:List Oper} {o:Oper} {a:Act} {Q:Exit→Act→World→Prop} (w:World) (hgd:o.guard=none) (s x:Operand) (t:TypeId)
  (ho:o.op = .call { callee := .builtin .append,args:=#[s,x],argTypes:=#[t,t] })
  (base:Nat) (e:TypeId) {z:Value} {size bytes:Nat}
  (hinfo:(P.info? e).map (fun i=>(i.zero,i.size,i.bytes))=some (some z,size,bytes)) (ht:P.underlying t=some (.slice e)) (hzs:z.cells.size=size) (hsz:0<size)
  (v:Value) (n:Nat) (xs:List Value) (hs:a.eval s=v) (hown:w.ownsRow base e size v n xs) (xv:Value) (m:Nat) (news:List Value) (hx:a.eval x=xv) (hr:Ztc w size xv m news)
  (hbig:(n+m) * (bytes+1)≤140737488355328) (hbase:base≤w.heap.size)
  (h:∀ v' w',Appended w base e size v (n+m) (xs++news) v' w'→wpList P ops Q rest (a.put o.dst v') w'):wpList P ops Q (o::rest) a w :=
 wpList_plain hgd fun _ hK=>Ztd w s x t ho base e hinfo ht hzs hsz v n xs hs hown xv m news hx hr hbig hbase fun v' w' h2=>hK _ _ (h v' w' h2)
theorem Znz {w:World} {B:Nat} {e:TypeId} {size n:Nat} {v:Value} {xs:List Value} (h:w.ownsRow B e size v n xs) (h1:∀ u ∈ xs,u.oneCell'=true):Ztc w size v n xs:=by
 refine ⟨h.1,h1,?_⟩
 rcases h.2 with ⟨rfl,rfl⟩ | ⟨g,cap,cur,rfl,_⟩
 ·exact Or.inl ⟨rfl,rfl⟩
 ·exact Or.inr ⟨⟨g,0,none⟩,cap,rfl,fun j u hu=>h.cells (g:=g) rfl j u hu⟩
end Go.Proofs.YtlmjilpjmgjjcabDoor
namespace Go.Proofs.YtlmjilpjmgjjcabDoor
def topN (q:List (List Sym) × Names):ND:=⟨q.1.map (fun t=>(t,0)),(List.range q.2.length).map vr,[],[],q.2.length⟩
def meet (n:Nat) (met:List Nat):List Nat:=if met.idxOf n=met.length then met++[n] else met
def Zau:List Sym→List Nat→List Sym × List Nat
 | [],met=>([],met)
 | s::r,met=>if s.name=[] then (⟨[],met.idxOf s.num,s.args⟩::(Zau r (meet s.num met)).1,(Zau r (meet s.num met)).2) else (s::(Zau r met).1,(Zau r met).2)
def Zav:List (List Sym)→List Nat→List (List Sym) × List Nat
 | [],met=>([],met)
 | t::ts,met=>((Zau t met).1::(Zav ts (Zau t met).2).1,(Zav ts (Zau t met).2).2)
theorem Zid (a b:List Sym) (met:List Nat):Zau (a++b) met=((Zau a met).1++(Zau b (Zau a met).2).1,(Zau b (Zau a met).2).2):=by
 induction a generalizing met with
 | nil=>rfl
 | cons s a ih=>simp only [List.cons_append,Zau,ih]; split <;> rfl
theorem Zmr (a b:List (List Sym)) (met:List Nat):Zav (a++b) met=((Zav a met).1++(Zav b (Zav a met).2).1,(Zav b (Zav a met).2).2):=by
 induction a generalizing met with
 | nil=>rfl
 | cons s a ih=>simp only [List.cons_append,Zav,ih]
theorem Zeo (ts:List (List Sym)) (met:List Nat):(Zav ts met).1.length=ts.length:=by
 induction ts generalizing met with
 | nil=>rfl
 | cons t ts ih=>simp [Zav,ih]
theorem Zie (l:List Sym) (met:List Nat):(Zau l met).1.length=l.length:=by
 induction l generalizing met with
 | nil=>rfl
 | cons s l ih=>simp only [Zau]; split <;> simp [ih]
theorem Zoa {f:Nat→Nat} {met:List Nat} {n:Nat} (h:∀ m ∈ met,f m=f n→m=n):(met.map f).idxOf (f n)=met.idxOf n:=by
 induction met with
 | nil=>rfl
 | cons m met ih =>
  simp only [List.map_cons,List.idxOf_cons]
  by_cases e:m=n
  ·subst e; simp
  ·have e':¬ f m=f n:=fun h'=>e (h m (by simp) h')
   have b1:(f m == f n)=false:=by rw [Qu]; exact e'
   have b2:(m == n)=false:=by rw [Qu]; exact e
   rw [b1,b2]
   simp only [cond_false]
   rw [ih (fun x hx=>h x (by simp [hx]))]
theorem Zzf {f:Nat→Nat} {met:List Nat} {n:Nat} (h:∀ m ∈ met,f m=f n→m=n):meet (f n) (met.map f)=(meet n met).map f:=by
 unfold meet
 rw [Zoa h]
 simp only [Ql]
 split <;> simp
theorem Zrl {n m:Nat} {met:List Nat} (h:m ∈ meet n met):m ∈ met∨m=n:=by
 unfold meet at h
 split at h
 ·simpa using h
 ·exact Or.inl h
theorem Zte {l:List Sym} {met:List Nat} {m:Nat} (h:m ∈ (Zau l met).2):m ∈ met∨Occ m l:=by
 induction l generalizing met with
 | nil=>exact Or.inl h
 | cons s l ih =>
  simp only [Zau] at h
  split at h
  ·rename_i hs
   rcases ih h with h | h
   ·rcases Zrl h with h | rfl
    ·exact Or.inl h
    ·exact Or.inr ⟨s,by simp,hs,rfl⟩
   ·obtain ⟨t,ht,h1,h2⟩:=h
    exact Or.inr ⟨t,by simp [ht],h1,h2⟩
  ·rcases ih h with h | h
   ·exact Or.inl h
   ·obtain ⟨t,ht,h1,h2⟩:=h
    exact Or.inr ⟨t,by simp [ht],h1,h2⟩
theorem Ztf {f:Nat→Nat} {V:Nat→Prop} (hf:∀ a b,V a→V b→f a=f b→a=b):∀ {l:List Sym} {met:List Nat},(∀ s ∈ l,s.name=[]→s.args=0)→(∀ m ∈ met,V m)→(∀ v,Occ v l→V v) →
  Zau (l.map (ren f)) (met.map f)=((Zau l met).1,(Zau l met).2.map f):=by
 intro l
 induction l with
 | nil=>intro met _ _ _; rfl
 | cons s l ih =>
  intro met ha hm hv
  have hv':∀ v,Occ v l→V v:=fun v ⟨t,ht,h1,h2⟩=>hv v ⟨t,by simp [ht],h1,h2⟩
  have ha':∀ s ∈ l,s.name=[]→s.args=0:=fun t ht=>ha t (by simp [ht])
  by_cases hs:s.name=[]
  ·have hV:V s.num:=hv s.num ⟨s,by simp,hs,rfl⟩
   have e:ren f s=⟨[],f s.num,0⟩:=by simp [ren,hs]
   have hi:∀ m ∈ met,f m=f s.num→m=s.num:=fun m hm' h=>hf m s.num (hm m hm') hV h
   simp only [List.map_cons,Zau,e,hs,if_true]
   rw [Zoa hi,Zzf hi,ih ha' (fun m h=>by
    rcases Zrl h with h | rfl
    ·exact hm m h
    ·exact hV) hv',ha s (by simp) hs]
  ·have e:ren f s=s:=by simp [ren,hs]
   simp only [List.map_cons,Zau,e,hs,if_false]
   rw [ih ha' hm hv']
theorem Ztg {f:Nat→Nat} {V:Nat→Prop} (hf:∀ a b,V a→V b→f a=f b→a=b):∀ {ts:List (List Sym)} {met:List Nat},(∀ t ∈ ts,∀ s ∈ t,s.name=[]→s.args=0)→(∀ m ∈ met,V m)→(∀ t ∈ ts,∀ v,Occ v t→V v) →
  Zav (ts.map (List.map (ren f))) (met.map f)=((Zav ts met).1,(Zav ts met).2.map f):=by
 intro ts
 induction ts with
 | nil=>intro met _ _ _; rfl
 | cons t ts ih =>
  intro met ha hm hv
  simp only [List.map_cons,Zav]
  rw [Ztf hf (ha t (by simp)) hm (hv t (by simp))]
  simp only
  rw [ih (fun t h=>ha t (by simp [h])) (fun m h=>by
   rcases Zte h with h | h
   ·exact hm m h
   ·exact hv t (by simp) m h) (fun t h=>hv t (by simp [h]))]
theorem Zpw:∀ {l:List Sym} {k:Nat},Wf k l→∀ s ∈ l,s.name=[]→s.args=0:=by
 intro l
 induction l with
 | nil=>intro k _ s hs; simp at hs
 | cons t l ih =>
  intro k h s hs
  obtain ⟨_,h1,_,h2⟩:=h
  rcases Qp.1 hs with rfl | hs
  ·exact h1
  ·exact ih h2 s hs
theorem Zob {xs ys:List (List Sym)} (h:Alike xs ys) (hw:∀ x ∈ xs,Wf 1 x):(Zav ys []).1=(Zav xs []).1:=by
 obtain ⟨f,g,e,hg⟩:=h.ren
 have:=Ztg (f:=f) (V:=fun v=>∃ x ∈ xs,Occ v x) (fun a b ⟨x,hx,ha⟩ ⟨y,hy,hb⟩ e=>by rw [← hg x hx a ha,← hg y hy b hb,e]) (ts:=xs) (met:=[]) (fun t ht=>Zpw (hw t ht)) (by simp) (fun t ht v hv=>⟨t,ht,hv⟩)
 simp only [List.map_nil] at this
 rw [← e] at this
 rw [this]
theorem Inst.part {a b a' b':List (List Sym)} (h:Inst (a++b) (a'++b')) (hl:a.length=a'.length):Inst a a'∧Inst b b':=by
 obtain ⟨τ,ht,e⟩:=h
 obtain ⟨e1,e2⟩:=Znp e hl.symm
 exact ⟨⟨τ,ht,e1⟩,τ,ht,e2⟩
theorem Alike.part {a b a' b':List (List Sym)} (h:Alike (a++b) (a'++b')) (hl:a.length=a'.length):Alike a a'∧Alike b b' :=
 ⟨⟨(h.1.part hl).1,(h.2.part hl.symm).1⟩,(h.1.part hl).2,(h.2.part hl.symm).2⟩
theorem Same.vals {n m:ND} (h:Same n m):Alike n.vals m.vals:=by
 have:=(h.al.part (by simp [h.gl])).2
 exact (this.part h.vl).1
theorem Same.valsC {n m:ND} (h:Same n m) (hn:NOk n):(Zav n.vals []).1=(Zav m.vals []).1 :=
 (Zob h.vals (fun x hx=>hn.wf x (by simp [ND.terms,hx]))).symm
theorem Zlk {τ:Nat→List Sym} (hτ:Ts τ) {φ:Sym→Sym}:∀ {l:List Sym},ap τ l=l.map φ→∀ s ∈ l,s.name≠[]→φ s=s:=by
 intro l
 induction l with
 | nil=>intro _ s hs; simp at hs
 | cons t l ih =>
  intro e s hs hn
  rw [Zbu,List.map_cons] at e
  have l1:1≤(ap1 τ t).length:=by
   unfold ap1; split
   ·exact Zdv (hτ _)
   ·simp
  have l2:=Zia hτ l
  have l3:=congrArg List.length e
  simp only [Qg,Qf,Ql] at l3
  have hh:=List.append_inj (s₁:=ap1 τ t) (s₂:=[φ t]) (t₁:=ap τ l) (t₂:=l.map φ) (by simpa using e) (by simp; omega)
  rcases Qp.1 hs with rfl | hs
  ·have:=hh.1
   unfold ap1 at this
   rw [if_neg hn] at this
   simpa using this.symm
  ·exact ih hh.2 s hs hn
def offN (N:List (List UInt8)) (s:Sym):Sym:=if s.name=[]∨s.name ∈ N then s else ⟨s.name++[0],s.num,s.args⟩
theorem Ycs {N:List (List UInt8)}:∀ {l:List Sym} {k:Nat},Wf k l→Wf k (l.map (offN N)):=by
 intro l
 induction l with
 | nil=>intro k h; exact h
 | cons s l ih =>
  intro k h
  obtain ⟨h1,h2,h3,h4⟩:=h
  have e1:(offN N s).args=s.args:=by unfold offN; split <;> rfl
  have e2:(offN N s).name=[]↔s.name=[]:=by
   unfold offN; split
   ·exact Iff.rfl
   ·rename_i h; simp at h ⊢; exact h.1
  have e3:(offN N s).num=s.num:=by unfold offN; split <;> rfl
  refine ⟨h1,fun h=>by rw [e1]; exact h2 (e2.1 h),fun h=>by rw [e3]; exact h3 (fun h'=>h (e2.2 h')),?_⟩
  rw [e1]; exact ih h4
theorem Mgu.nm {σ:Nat→List Sym} {a b:List Sym} (h:Mgu σ a b) (n:Nat):∀ s ∈ σ n,s.name≠[]→∃ t ∈ a++b,t.name=s.name:=by
 intro s hs hn
 refine Classical.byContradiction (fun hno => ?_)
 have hno:∀ t ∈ a++b,t.name≠s.name:=fun t ht e=>hno ⟨t,ht,e⟩
 obtain ⟨N,hN⟩:∃ N,N=(a++b).map (·.name):=⟨_,rfl⟩
 have hθ:Ts (fun n=>(σ n).map (offN N)):=fun n=>Ycs (h.ts n)
 have key:∀ l:List Sym,(∀ t ∈ l,t.name ∈ N)→ap (fun n=>(σ n).map (offN N)) l=(ap σ l).map (offN N):=by
  intro l
  induction l with
  | nil=>intro _; rfl
  | cons t l ih =>
   intro ht
   rw [Zbu,Zbu,Qr,ih (fun u hu=>ht u (by simp [hu]))]
   congr 1
   unfold ap1
   split
   ·rfl
   ·have:offN N t=t:=by unfold offN; rw [if_pos (Or.inr (ht t (by simp)))]
    simp [this]
 have ha:=key a (fun t ht=>by rw [hN]; exact List.mem_map.2 ⟨t,by simp [ht],rfl⟩)
 have hb:=key b (fun t ht=>by rw [hN]; exact List.mem_map.2 ⟨t,by simp [ht],rfl⟩)
 have hw:=h.wide _ hθ (by rw [ha,hb,h.unif]) n
 have hf:=Zlk hθ hw s hs hn
 have hnN:¬ (s.name=[]∨s.name ∈ N):=by
  rintro (h | h)
  ·exact hn h
  ·rw [hN] at h
   obtain ⟨t,ht,e⟩:=List.mem_map.1 h
   exact hno t ht e
 unfold offN at hf
 rw [if_neg hnN] at hf
 have:=congrArg (fun s=>s.name.length) hf
 simp at this
def Shorts (l:List Sym):Prop:=∀ s ∈ l,s.name.length≤800
def NNm (n:ND):Prop:=∀ t ∈ n.terms,Shorts t
def CNm (c:Cls):Prop:=Shorts c.head∧∀ t ∈ c.body,Shorts t
theorem Zoc (n:Nat):Shorts (vr n):=fun s hs=>by simp [vr] at hs; subst hs; simp
theorem Shorts.ap {σ:Nat→List Sym} {l:List Sym} (h:Shorts l) (hσ:∀ n,Shorts (σ n)):Shorts (ap σ l):=by
 intro s hs
 simp only [YtlmjilpjmgjjcabDoor.ap,List.mem_flatMap] at hs
 obtain ⟨t,ht,hs⟩:=hs
 unfold ap1 at hs
 split at hs
 ·exact hσ _ s hs
 ·simp at hs; subst hs; exact h s ht
theorem Zjm (v n:Nat):Shorts (Zda v n):=Zoc _
theorem Mgu.shorts {σ:Nat→List Sym} {a b:List Sym} (h:Mgu σ a b) (ha:Shorts a) (hb:Shorts b) (n:Nat):Shorts (σ n):=by
 intro s hs
 by_cases hn:s.name=[]
 ·rw [hn]; simp
 ·obtain ⟨t,ht,e⟩:=h.nm n s hs hn
  rw [← e]
  rcases Qk.1 ht with ht | ht
  ·exact ha t ht
  ·exact hb t ht
theorem Yaw {n:ND} {c:Cls} {k q:Nat} {ch:ND} (h:Out n c k q ch) (hq:q=1∨q=2) (hn:NNm n) (hc:CNm c):NNm ch:=by
 obtain ⟨g,gs,hg,h⟩:=h
 rcases h with ⟨rfl,_⟩ | ⟨rfl,_⟩ | ⟨σ,h1,_,_,rfl⟩
 ·omega
 ·omega
 ·have hgt:Shorts g.1:=hn g.1 (by simp [ND.terms,hg])
  have hhd:Shorts (ap (Zda n.vars) c.head):=hc.1.ap (Zjm _)
  have hσ:=h1.shorts hgt hhd
  intro t ht
  rw [Zet] at ht
  simp only [Qk,List.mem_map] at ht
  rcases ht with ⟨u,hu,rfl⟩ | ⟨u,hu,rfl⟩ | ⟨u,hu,rfl⟩
  ·rcases hu with ⟨b,hb,rfl⟩ | ⟨x,hx,rfl⟩
   ·exact ((hc.2 b hb).ap (Zjm _)).ap hσ
   ·exact (hn x.1 (by simp only [ND.terms,hg,List.map_cons,List.cons_append,Qp,Qk,List.mem_map]; exact Or.inr (Or.inl ⟨x,hx,rfl⟩))).ap hσ
  ·exact (hn u (by simp [ND.terms,hu])).ap hσ
  ·rcases hu with ⟨x,hx,rfl⟩ | hu
   ·exact (hn x.1 (by simp only [ND.terms,Qk,List.mem_map]; exact Or.inr (Or.inr ⟨x,hx,rfl⟩))).ap hσ
   ·simp at hu; subst hu; exact hgt.ap hσ
end Go.Proofs.YtlmjilpjmgjjcabDoor
namespace Go.Proofs.YtlmjilpjmgjjcabDoor
open Go.RowKit
def Zod:ByteArray:=⟨#[48,49,50,51,52,53,54,55,56,57]⟩
theorem Zth (c:UInt8):inB c Zgb=decide (97≤c.toNat∧c.toNat≤122):=by
 have:=Zdz (p:=fun c=>inB c Zgb == decide (97≤c.toNat∧c.toNat≤122)) (by decide +kernel) c
 exact eq_of_beq this
theorem Zwe (c:UInt8):inB c Zjq=decide (65≤c.toNat∧c.toNat≤90):=by
 have:=Zdz (p:=fun c=>inB c Zjq == decide (65≤c.toNat∧c.toNat≤90)) (by decide +kernel) c
 exact eq_of_beq this
theorem Zti (c:UInt8):inB c Zod=decide (48≤c.toNat∧c.toNat≤57):=by
 have:=Zdz (p:=fun c=>inB c Zod == decide (48≤c.toNat∧c.toNat≤57)) (by decide +kernel) c
 exact eq_of_beq this
theorem Zwf (c:UInt8):inB c Zhy=(inB c Zgb || inB c Zjq || inB c Zod):=by
 have:=Zdz (p:=fun c=>inB c Zhy == (inB c Zgb || inB c Zjq || inB c Zod)) (by decide +kernel) c
 exact eq_of_beq this
theorem Zkf (c:UInt8) (w:World):Calls Tryd.prog 89 #[.int .u8 c.toNat] w fun e w'=>e = .returned (.bool (Zhh c))∧w'=w:=by
 cases hb:Zhh c
 ·obtain ⟨h1,h2⟩:=Zvp hb
  go_enter Tryd.func89,Tryd.ntmps89
  go_wp2
  go_ret
  exact ⟨rfl,rfl⟩
 ·rcases Zpp hb with h1 | ⟨h1,h2⟩
  all_goals
   go_enter Tryd.func89,Tryd.ntmps89
   go_wp2
   go_ret
   exact ⟨rfl,rfl⟩
theorem Zbw (c:UInt8) (w:World):Calls Tryd.prog 90 #[.int .u8 c.toNat] w fun e w'=>e = .returned (.bool (inB c Zgb))∧w'=w:=by
 rw [Zth]
 by_cases h1:(97:Int)≤(c.toNat:Int)
 ·by_cases h2:(c.toNat:Int)≤122
  all_goals
   go_enter Tryd.func90,Tryd.ntmps90
   go_wp2
   go_ret
   exact ⟨Zem (by symm; simp; omega),rfl⟩
 ·go_enter Tryd.func90,Tryd.ntmps90
  go_wp2
  go_ret
  exact ⟨Zem (by symm; simp; omega),rfl⟩
theorem Zbg (c:UInt8) (w:World):Calls Tryd.prog 91 #[.int .u8 c.toNat] w fun e w'=>e = .returned (.bool (inB c Zjq))∧w'=w:=by
 rw [Zwe]
 by_cases h1:(65:Int)≤(c.toNat:Int)
 ·by_cases h2:(c.toNat:Int)≤90
  all_goals
   go_enter Tryd.func91,Tryd.ntmps91
   go_wp2
   go_ret
   exact ⟨Zem (by symm; simp; omega),rfl⟩
 ·go_enter Tryd.func91,Tryd.ntmps91
  go_wp2
  go_ret
  exact ⟨Zem (by symm; simp; omega),rfl⟩
theorem Zhl (c:UInt8) (w:World):Calls Tryd.prog 107 #[.int .u8 c.toNat] w fun e w'=>e = .returned (.bool (inB c Zod))∧w'=w:=by
 rw [Zti]
 by_cases h1:(48:Int)≤(c.toNat:Int)
 ·by_cases h2:(c.toNat:Int)≤57
  all_goals
   go_enter Tryd.func107,Tryd.ntmps107
   go_wp2
   go_ret
   exact ⟨Zem (by symm; simp; omega),rfl⟩
 ·go_enter Tryd.func107,Tryd.ntmps107
  go_wp2
  go_ret
  exact ⟨Zem (by symm; simp; omega),rfl⟩
theorem Zll (c:UInt8) (w:World):Calls Tryd.prog 104 #[.int .u8 c.toNat] w fun e w'=>e = .returned (.bool (inB c Zhy))∧w'=w:=by
 rw [Zwf]
 cases h1:inB c Zgb
 ·cases h2:inB c Zjq
  ·go_enter Tryd.func104,Tryd.ntmps104
   go_wp2_with (first | (go_at_call 90; refine (Zbw _ _).mono ?_; rintro e w' ⟨rfl,rfl⟩) | (go_at_call 91; refine (Zbg _ _).mono ?_; rintro e w' ⟨rfl,rfl⟩) | (go_at_call 107; refine (Zhl _ _).mono ?_; rintro e w' ⟨rfl,rfl⟩))
   go_ret
   exact ⟨rfl,rfl⟩
  ·go_enter Tryd.func104,Tryd.ntmps104
   go_wp2_with (first | (go_at_call 90; refine (Zbw _ _).mono ?_; rintro e w' ⟨rfl,rfl⟩) | (go_at_call 91; refine (Zbg _ _).mono ?_; rintro e w' ⟨rfl,rfl⟩) | (go_at_call 107; refine (Zhl _ _).mono ?_; rintro e w' ⟨rfl,rfl⟩))
   go_ret
   exact ⟨rfl,rfl⟩
 ·go_enter Tryd.func104,Tryd.ntmps104
  go_wp2_with (first | (go_at_call 90; refine (Zbw _ _).mono ?_; rintro e w' ⟨rfl,rfl⟩) | (go_at_call 91; refine (Zbg _ _).mono ?_; rintro e w' ⟨rfl,rfl⟩) | (go_at_call 107; refine (Zhl _ _).mono ?_; rintro e w' ⟨rfl,rfl⟩))
  go_ret
  exact ⟨rfl,rfl⟩
def Zde (s:ByteArray) (n:Nat):UInt8:=(s.data.toList[n]?).getD 0
theorem Zkg (s:ByteArray) (n:Nat) (h:n<s.size):Zde s n=s[n]:=by
 unfold Zde
 rw [Qb (by simpa using h)]
 rfl
theorem Zkh (s:ByteArray) (n:Nat) (h:¬ n<s.size):Zde s n=0:=by
 unfold Zde
 rw [List.getElem?_eq_none (by simp; omega)]
 rfl
theorem Zgq (s:ByteArray) (n:Nat) (w:World) (hs:s.size≤4096) (hn:n≤5000):Calls Tryd.prog 65 #[.string s,.int .i64 n] w fun e w'=>e = .returned (.int .u8 (Zde s n).toNat)∧w'=w:=by
 by_cases h:n<s.size
 ·have Hb:=(show Hid _ from Zkg s n h)
  go_enter Tryd.func65,Tryd.ntmps65
  go_wp2
  go_ret
  rw [Hb.out]
  exact ⟨rfl,rfl⟩
 ·have Hb:=(show Hid _ from Zkh s n h)
  go_enter Tryd.func65,Tryd.ntmps65
  go_wp2
  go_ret
  rw [Hb.out]
  exact ⟨rfl,rfl⟩
def Zci:List UInt8→Nat
 | []=>0
 | c::r=>if Zhh c then Zci r+1 else 0
theorem Zwg (l:List UInt8):Zci l≤l.length:=by
 induction l with
 | nil=>exact Qe _
 | cons c r ih=>unfold Zci; split <;> simp <;> omega
theorem Zhc (s:ByteArray) (n:Nat) (w:World) (hs:s.size≤4096) (hn:n≤s.size):Calls Tryd.prog 64 #[.string s,.int .i64 n] w fun e w'=>e = .returned (.int .i64 ((n+Zci (s.data.toList.drop n):Nat):Int))∧w'=w:=by
 go_enter Tryd.func64,Tryd.ntmps64
 go_wp2
 go_loop [1] (fun i=>∃ k:Nat,k≤s.size∧i = .int .i64 k∧n+Zci (s.data.toList.drop n)=k+Zci (s.data.toList.drop k)) (fun i=>s.size - (intOf i).toNat)
 case atStart=>exact ⟨n,hn,rfl,rfl⟩
 case round =>
  obtain ⟨k,hk,rfl,hn⟩:=hrel
  have Hn:=(show Hid _ from hn)
  clear hn
  by_cases hlt:k<s.size
  ·have hd:=Zcz s k hlt
   cases hb:Zhh s[k]
   ·have Hd:Hid (Zci (s.data.toList.drop k)=0):=by show _=_; rw [hd,Zci,if_neg (by simp [hb])]
    clear hd
    go_wp2_with (go_at_call 89; refine (Zkf _ _).mono ?_; rintro e w' ⟨rfl,rfl⟩)
    go_ret
    exact ⟨Ziq (by have h1:=Hn.out; have h2:=Hd.out; omega),rfl⟩
   ·have Hd:Hid (Zci (s.data.toList.drop k)=Zci (s.data.toList.drop (k+1))+1):=by show _=_; rw [hd,Zci,if_pos hb]
    clear hd
    go_wp2_with (go_at_call 89; refine (Zkf _ _).mono ?_; rintro e w' ⟨rfl,rfl⟩)
    go_round
    case rel=>exact ⟨k+1,by omega,by go_num,by have h1:=Hn.out; have h2:=Hd.out; omega⟩
    case measure=>simp [intOf]; omega
  ·have Hd:Hid (Zci (s.data.toList.drop k)=0):=by show _=_; rw [Zgf s k hlt]; rfl
   go_wp2
   go_ret
   exact ⟨Ziq (by have h1:=Hn.out; have h2:=Hd.out; omega),rfl⟩
theorem Ztj:inB 0 Zhy=false:=by decide +kernel
theorem Zif (s:ByteArray) (n:Nat) (w:World) (hs:s.size≤4096) (hn:n≤s.size):Calls Tryd.prog 92 #[.string s,.int .i64 n] w fun e w'=>e = .returned (.int .i64 ((n+Zch (s.data.toList.drop n):Nat):Int))∧w'=w:=by
 go_enter Tryd.func92,Tryd.ntmps92
 go_wp2
 go_loop [1] (fun i=>∃ k:Nat,k≤s.size∧i = .int .i64 k∧n+Zch (s.data.toList.drop n)=k+Zch (s.data.toList.drop k)) (fun i=>s.size - (intOf i).toNat)
 case atStart=>exact ⟨n,hn,rfl,rfl⟩
 case round =>
  obtain ⟨k,hk,rfl,hn⟩:=hrel
  have Hn:=(show Hid _ from hn)
  clear hn
  cases hb:inB (Zde s k) Zhy
  ·have Hd:Hid (Zch (s.data.toList.drop k)=0):=by
    show _=_
    by_cases hlt:k<s.size
    ·rw [Zcz s k hlt]
     rw [Zkg s k hlt] at hb
     exact Zsr _ _ hb
    ·rw [Zgf s k hlt]; rfl
   go_wp2_with (first | (go_at_call 65; refine (Zgq _ _ _ hs (by omega)).mono ?_; rintro e w' ⟨rfl,rfl⟩) | (go_at_call 104; refine (Zll _ _).mono ?_; rintro e w' ⟨rfl,rfl⟩))
   go_ret
   exact ⟨Ziq (by have h1:=Hn.out; have h2:=Hd.out; omega),rfl⟩
  ·have hlt:k<s.size:=by
    rcases Nat.lt_or_ge k s.size with h | h
    ·exact h
    ·rw [Zkh s k (by omega),Ztj] at hb; cases hb
   have Hd:Hid (Zch (s.data.toList.drop k)=Zch (s.data.toList.drop (k+1))+1):=by
    show _=_
    rw [Zcz s k hlt]
    rw [Zkg s k hlt] at hb
    exact Zhg _ _ hb
   go_wp2_with (first | (go_at_call 65; refine (Zgq _ _ _ hs (by omega)).mono ?_; rintro e w' ⟨rfl,rfl⟩) | (go_at_call 104; refine (Zll _ _).mono ?_; rintro e w' ⟨rfl,rfl⟩))
   go_round
   case rel=>exact ⟨k+1,by omega,by go_num,by have h1:=Hn.out; have h2:=Hd.out; omega⟩
   case measure=>simp [intOf]; omega
def Zcy (c d:UInt8):Nat :=
 if inB c Zgb then 1 else if inB c Zjq then 2 else if c=40 then 3 else if c=41 then 4 else if c=44 then 5 else if c=46 then 6 else if c=58∧d=45 then 7 else 8
theorem Zix {c k:UInt8} (h:c=k):((c.toNat:Int) == (k.toNat:Int))=true:=by subst h; simp
theorem Zfj {c k:UInt8} (h:¬ c=k):((c.toNat:Int) == (k.toNat:Int))=false:=by
 rw [Qu]
 intro e
 exact h (UInt8.toNat_inj.1 (by omega))
theorem Ztk (c d:UInt8) (w:World):Calls Tryd.prog 66 #[.int .u8 c.toNat,.int .u8 d.toNat] w fun e w'=>e = .returned (.int .i64 (Zcy c d))∧w'=w:=by
 cases hA:inB c Zgb
 case true =>
  have Hk:Hid (Zcy c d=1):=by show _=_; simp [Zcy,hA]
  go_enter Tryd.func66,Tryd.ntmps66
  go_wp2_with (first | (go_at_call 90; refine (Zbw _ _).mono ?_; rintro e w' ⟨rfl,rfl⟩) | (go_at_call 91; refine (Zbg _ _).mono ?_; rintro e w' ⟨rfl,rfl⟩))
  go_ret
  rw [Hk.out]
  exact ⟨rfl,rfl⟩
 case false =>
  cases hB:inB c Zjq
  case true =>
   have Hk:Hid (Zcy c d=2):=by show _=_; simp [Zcy,hA,hB]
   go_enter Tryd.func66,Tryd.ntmps66
   go_wp2_with (first | (go_at_call 90; refine (Zbw _ _).mono ?_; rintro e w' ⟨rfl,rfl⟩) | (go_at_call 91; refine (Zbg _ _).mono ?_; rintro e w' ⟨rfl,rfl⟩))
   go_ret
   rw [Hk.out]
   exact ⟨rfl,rfl⟩
  case false =>
   by_cases h1:c=40
   ·have Hk:Hid (Zcy c d=3):=by show _=_; unfold Zcy; rw [if_neg (by rw [hA]; simp),if_neg (by rw [hB]; simp),if_pos h1]
    have t1:((c.toNat:Int) == 40)=true:=Zix h1
    clear h1
    go_enter Tryd.func66,Tryd.ntmps66
    go_wp2_with (first | (go_at_call 90; refine (Zbw _ _).mono ?_; rintro e w' ⟨rfl,rfl⟩) | (go_at_call 91; refine (Zbg _ _).mono ?_; rintro e w' ⟨rfl,rfl⟩))
    go_ret
    rw [Hk.out]
    exact ⟨rfl,rfl⟩
   ·have t1:((c.toNat:Int) == 40)=false:=Zfj h1
    by_cases h2:c=41
    ·have Hk:Hid (Zcy c d=4):=by show _=_; unfold Zcy; rw [if_neg (by rw [hA]; simp),if_neg (by rw [hB]; simp),if_neg h1,if_pos h2]
     have t2:((c.toNat:Int) == 41)=true:=Zix h2
     clear h1 h2
     go_enter Tryd.func66,Tryd.ntmps66
     go_wp2_with (first | (go_at_call 90; refine (Zbw _ _).mono ?_; rintro e w' ⟨rfl,rfl⟩) | (go_at_call 91; refine (Zbg _ _).mono ?_; rintro e w' ⟨rfl,rfl⟩))
     go_ret
     rw [Hk.out]
     exact ⟨rfl,rfl⟩
    ·have t2:((c.toNat:Int) == 41)=false:=Zfj h2
     by_cases h3:c=44
     ·have Hk:Hid (Zcy c d=5):=by show _=_; unfold Zcy; rw [if_neg (by rw [hA]; simp),if_neg (by rw [hB]; simp),if_neg h1,if_neg h2,if_pos h3]
      have t3:((c.toNat:Int) == 44)=true:=Zix h3
      clear h1 h2 h3
      go_enter Tryd.func66,Tryd.ntmps66
      go_wp2_with (first | (go_at_call 90; refine (Zbw _ _).mono ?_; rintro e w' ⟨rfl,rfl⟩) | (go_at_call 91; refine (Zbg _ _).mono ?_; rintro e w' ⟨rfl,rfl⟩))
      go_ret
      rw [Hk.out]
      exact ⟨rfl,rfl⟩
     ·have t3:((c.toNat:Int) == 44)=false:=Zfj h3
      by_cases h4:c=46
      ·have Hk:Hid (Zcy c d=6):=by show _=_; unfold Zcy; rw [if_neg (by rw [hA]; simp),if_neg (by rw [hB]; simp),if_neg h1,if_neg h2,if_neg h3,if_pos h4]
       have t4:((c.toNat:Int) == 46)=true:=Zix h4
       clear h1 h2 h3 h4
       go_enter Tryd.func66,Tryd.ntmps66
       go_wp2_with (first | (go_at_call 90; refine (Zbw _ _).mono ?_; rintro e w' ⟨rfl,rfl⟩) | (go_at_call 91; refine (Zbg _ _).mono ?_; rintro e w' ⟨rfl,rfl⟩))
       go_ret
       rw [Hk.out]
       exact ⟨rfl,rfl⟩
      ·have t4:((c.toNat:Int) == 46)=false:=Zfj h4
       by_cases h5:c=58
       ·have t5:((c.toNat:Int) == 58)=true:=Zix h5
        by_cases h6:d=45
        ·have t6:((d.toNat:Int) == 45)=true:=Zix h6
         have Hk:Hid (Zcy c d=7):=by show _=_; unfold Zcy; rw [if_neg (by rw [hA]; simp),if_neg (by rw [hB]; simp),if_neg h1,if_neg h2,if_neg h3,if_neg h4,if_pos ⟨h5,h6⟩]
         clear h1 h2 h3 h4 h5 h6
         go_enter Tryd.func66,Tryd.ntmps66
         go_wp2_with (first | (go_at_call 90; refine (Zbw _ _).mono ?_; rintro e w' ⟨rfl,rfl⟩) | (go_at_call 91; refine (Zbg _ _).mono ?_; rintro e w' ⟨rfl,rfl⟩))
         go_ret
         rw [Hk.out]
         exact ⟨rfl,rfl⟩
        ·have t6:((d.toNat:Int) == 45)=false:=Zfj h6
         have Hk:Hid (Zcy c d=8):=by show _=_; unfold Zcy; rw [if_neg (by rw [hA]; simp),if_neg (by rw [hB]; simp),if_neg h1,if_neg h2,if_neg h3,if_neg h4,if_neg (fun h=>h6 h.2)]
         clear h1 h2 h3 h4 h5 h6
         go_enter Tryd.func66,Tryd.ntmps66
         go_wp2_with (first | (go_at_call 90; refine (Zbw _ _).mono ?_; rintro e w' ⟨rfl,rfl⟩) | (go_at_call 91; refine (Zbg _ _).mono ?_; rintro e w' ⟨rfl,rfl⟩))
         go_ret
         rw [Hk.out]
         exact ⟨rfl,rfl⟩
       ·have t5:((c.toNat:Int) == 58)=false:=Zfj h5
        have Hk:Hid (Zcy c d=8):=by show _=_; unfold Zcy; rw [if_neg (by rw [hA]; simp),if_neg (by rw [hB]; simp),if_neg h1,if_neg h2,if_neg h3,if_neg h4,if_neg (fun h=>h5 h.1)]
        clear h1 h2 h3 h4 h5
        go_enter Tryd.func66,Tryd.ntmps66
        go_wp2_with (first | (go_at_call 90; refine (Zbw _ _).mono ?_; rintro e w' ⟨rfl,rfl⟩) | (go_at_call 91; refine (Zbg _ _).mono ?_; rintro e w' ⟨rfl,rfl⟩))
        go_ret
        rw [Hk.out]
        exact ⟨rfl,rfl⟩
def endC (s:ByteArray) (p kd:Nat):Nat:=if kd=1∨kd=2 then p+Zch (s.data.toList.drop p) else if kd=7 then p+2 else p+1
theorem Zwh (s:ByteArray) (p kd:Nat) (w:World) (hs:s.size≤4096) (hp:p≤s.size):Calls Tryd.prog 67 #[.string s,.int .i64 p,.int .i64 kd] w fun e w'=>e = .returned (.int .i64 (endC s p kd))∧w'=w:=by
 by_cases h1:kd=1
 ·subst h1
  have Hk:Hid (endC s p 1=p+Zch (s.data.toList.drop p)):=by show _=_; simp [endC]
  go_enter Tryd.func67,Tryd.ntmps67
  go_wp2_with (go_at_call 92; refine (Zif _ _ _ hs hp).mono ?_; rintro e w' ⟨rfl,rfl⟩)
  go_ret
  rw [Hk.out]
  exact ⟨rfl,rfl⟩
 ·have t1:((kd:Int) == 1)=false:=by rw [Qu]; omega
  by_cases h2:kd=2
  ·subst h2
   have Hk:Hid (endC s p 2=p+Zch (s.data.toList.drop p)):=by show _=_; simp [endC]
   clear h1
   go_enter Tryd.func67,Tryd.ntmps67
   go_wp2_with (go_at_call 92; refine (Zif _ _ _ hs hp).mono ?_; rintro e w' ⟨rfl,rfl⟩)
   go_ret
   rw [Hk.out]
   exact ⟨rfl,rfl⟩
  ·have t2:((kd:Int) == 2)=false:=by rw [Qu]; omega
   by_cases h7:kd=7
   ·have t7:((kd:Int) == 7)=true:=by rw [beq_iff_eq]; omega
    have Hk:Hid (endC s p kd=p+2):=by show _=_; simp [endC,h7]
    clear h1 h2 h7
    go_enter Tryd.func67,Tryd.ntmps67
    go_wp2
    go_ret
    rw [Hk.out]
    exact ⟨Ziq (by omega),rfl⟩
   ·have t7:((kd:Int) == 7)=false:=by rw [Qu]; omega
    have Hk:Hid (endC s p kd=p+1):=by show _=_; simp [endC,h1,h2,h7]
    clear h1 h2 h7
    go_enter Tryd.func67,Tryd.ntmps67
    go_wp2
    go_ret
    rw [Hk.out]
    exact ⟨Ziq (by omega),rfl⟩
def Zki (s:ByteArray) (n:Nat):Nat × Nat × Nat :=
 if n+Zci (s.data.toList.drop n)<s.size then
  (Zcy (Zde s (n+Zci (s.data.toList.drop n))) (Zde s (n+Zci (s.data.toList.drop n)+1)),n+Zci (s.data.toList.drop n),
   endC s (n+Zci (s.data.toList.drop n)) (Zcy (Zde s (n+Zci (s.data.toList.drop n))) (Zde s (n+Zci (s.data.toList.drop n)+1))))
 else (0,s.size,s.size)
theorem Zrm (s:ByteArray) (n:Nat) (w:World) (hs:s.size≤4096) (hn:n≤s.size):Calls Tryd.prog 51 #[.string s,.int .i64 n] w fun e w' =>
  e = .returned (.agg #[.int .i64 (Zki s n).1,.int .i64 (Zki s n).2.1,.int .i64 (Zki s n).2.2])∧Below w.heap.size w w':=by
 have hbl:=Zwg (s.data.toList.drop n)
 simp only [List.length_drop,Array.length_toList] at hbl
 have hbl':n+Zci (s.data.toList.drop n)≤s.size:=by
  have:s.data.size=s.size:=rfl
  omega
 obtain ⟨p,hp⟩:∃ p,p=n+Zci (s.data.toList.drop n):=⟨_,rfl⟩
 have hps:p≤s.size:=by omega
 have Hp:=(show Hid _ from hp)
 by_cases h:p<s.size
 ·have Hr:Hid (Zki s n=(Zcy (Zde s p) (Zde s (p+1)),p,endC s p (Zcy (Zde s p) (Zde s (p+1))))):=by
   show _=_
   unfold Zki
   rw [← hp,if_pos h]
  clear hp hbl hbl'
  go_enter Tryd.func51,Tryd.ntmps51
  go_wp2_with fail
  refine (Zhc _ _ _ hs hn).mono ?_
  rintro e w' ⟨rfl,rfl⟩
  rw [← Hp.out]
  go_wp2_with fail
  refine (Zgq _ _ _ hs (by omega)).mono ?_
  rintro e w' ⟨rfl,rfl⟩
  go_wp2_with fail
  refine (Zgq s (p+1) _ hs (by omega)).mono ?_
  rintro e w' ⟨rfl,rfl⟩
  go_wp2_with fail
  refine (Ztk _ _ _).mono ?_
  rintro e w' ⟨rfl,rfl⟩
  go_wp2_with fail
  refine (Zwh _ _ _ _ hs hps).mono ?_
  rintro e w' ⟨rfl,rfl⟩
  go_wp2
  rw [Hr.out]
  exact bodyPost_ret (v := .agg #[.int .i64 (Zcy (Zde s p) (Zde s (p+1))),.int .i64 p,.int .i64 (endC s p (Zcy (Zde s p) (Zde s (p+1))))]) (by simp [results,Tryd.results51,go_sem]) rfl ⟨rfl,(Below.refl _ _).alloc (Qe _) _⟩
 ·have Hr:Hid (Zki s n=(0,s.size,s.size)):=by
   show _=_
   unfold Zki
   rw [← hp,if_neg h]
  clear hp hbl hbl'
  go_enter Tryd.func51,Tryd.ntmps51
  go_wp2_with fail
  refine (Zhc _ _ _ hs hn).mono ?_
  rintro e w' ⟨rfl,rfl⟩
  rw [← Hp.out]
  go_wp2
  rw [Hr.out]
  exact bodyPost_ret (v := .agg #[.int .i64 0,.int .i64 s.size,.int .i64 s.size]) (by simp [results,Tryd.results51,go_sem]) rfl ⟨rfl,(Below.refl _ _).alloc (Qe _) _⟩
abbrev CC:=Cls
structure RS where
 query:Bool
 next:Nat
 inBody:Bool
 atom:List Sym
 opn:List Nat
 head:List Sym
 body:List (List Sym)
 vars:Names
 clauses:List CC
structure RV where
 a:Value
 o:Value
 h:Value
 b:Value
 v:Value
 c:Value
def Zbk (s:Sym):List Value:=[.string ⟨s.name.toArray⟩,.int .i64 s.num,.int .i64 s.args]
def Zah (l:List Sym):List Value:=l.flatMap Zbk
theorem Zaw (l:List Sym) (k:Nat) (t:Sym) (h:l[k]?=some t) (j:Nat) (hj:j<3):(Zah l)[k * 3+j]?=(Zbk t)[j]?:=by
 induction l generalizing k with
 | nil=>simp at h
 | cons a l ih =>
  cases k with
  | zero =>
   simp at h; subst h
   show (Zbk a++Zah l)[_]?=_
   rw [Qc (by simp [Zbk]; omega)]
   simp
  | succ k =>
   show (Zbk a++Zah l)[_]?=_
   rw [Qd (by simp [Zbk]; omega)]
   rw [← ih k (by simpa using h)]
   congr 1
   simp [Zbk]
   omega
def Zcj (st:RS) (V:RV):Array Value:=#[.bool st.query,.int .i64 st.next,.bool st.inBody,V.a,V.o,V.h,V.b,V.v,V.c]
structure ROpen (w:World) (B rb:Nat) (st:RS) (V:RV):Prop where
 blk:w.heap[rb]?=some (.cells (Zcj st V) 95 (0,0))
 atom:w.ownsRow B 79 3 V.a st.atom.length (Zah st.atom)
 opn:w.ownsRow B 3 1 V.o st.opn.length (ints st.opn.reverse)
 body:∃ x c,V.b = .slice x st.body.length c
 cls:∃ x c,V.c = .slice x st.clauses.length c
theorem ROpen.facts {w:World} {B rb:Nat} {st:RS} {V:RV} (h:ROpen w B rb st V) :
  w.cell? ⟨rb,0,none⟩=some (.bool st.query)∧w.cell? ⟨rb,1,none⟩=some (.int .i64 st.next)∧w.cell? ⟨rb,2,none⟩=some (.bool st.inBody)∧w.cell? ⟨rb,3,none⟩=some V.a∧w.cell? ⟨rb,4,none⟩=some V.o ∧
  w.cell? ⟨rb,5,none⟩=some V.h∧w.cell? ⟨rb,6,none⟩=some V.b∧w.cell? ⟨rb,7,none⟩=some V.v∧w.cell? ⟨rb,8,none⟩=some V.c :=
 ⟨Zaa h.blk 0 _ rfl,Zaa h.blk 1 _ rfl,Zaa h.blk 2 _ rfl,Zaa h.blk 3 _ rfl,Zaa h.blk 4 _ rfl,Zaa h.blk 5 _ rfl,Zaa h.blk 6 _ rfl,Zaa h.blk 7 _ rfl,Zaa h.blk 8 _ rfl⟩
def Zel (st:RS):Int:=match st.opn with
 | [] => -1
 | n::_=>if st.atom.length≤n then -1 else n
theorem Zkj (w:World) (B rb:Nat) (st:RS) (V:RV) (h:ROpen w B rb st V) (hl:st.opn.length≤4096) (ha:st.atom.length≤4096) :
  Calls Tryd.prog 95 #[.pointer (some ⟨rb,0,none⟩)] w fun e w'=>e = .returned (.int .i64 (Zel st))∧∃ n,w'=w.drewN n:=by
 obtain ⟨c0,c1,c2,c3,c4,c5,c6,c7,c8⟩:=h.facts
 obtain ⟨aa,acap,hva⟩:=Zad h.atom
 obtain ⟨oa,ocap,hvo⟩:=Zad h.opn
 rw [hva] at c3
 rw [hvo] at c4
 cases hst:st.opn with
 | nil =>
  have Ho:Hid (Zel st = -1):=by show _=_; simp [Zel,hst]
  simp only [hst,Jt] at c4
  clear hva hvo hst h
  go_enter Tryd.func95,Tryd.ntmps95
  go_wp2
  go_ret
  rw [Ho.out]
  exact ⟨rfl,0,rfl⟩
 | cons n r =>
  have hrl:r.length+1≤4096:=by rw [hst] at hl; simpa using hl
  have hop:=h.opn
  rw [hst,hvo,hst] at hop
  obtain ⟨g,gcap,gcur,he,hBg,hg,hcap⟩:=Zap hop (by simp)
  simp only [Value.slice.injEq] at he
  obtain ⟨rfl,_,rfl⟩:=he
  have cg:w.cell? ⟨g,r.length,none⟩=some (.int .i64 n):=Zai hop r.length _ (by simp [ints])
  simp only [hst,Qf] at c4
  simp only [Qf] at hcap
  have hlen0:(((r.length:Nat):Int)+1 == 0)=false:=by rw [Qu]; omega
  by_cases hn:st.atom.length≤n
  ·have Ho:Hid (Zel st = -1):=by show _=_; simp [Zel,hst,hn]
   clear hva hvo hst h hop hg
   go_enter Tryd.func95,Tryd.ntmps95
   go_wp2_with fail
   go_quiet (fail)
   go_wp2
   go_ret
   rw [Ho.out]
   exact ⟨rfl,_,rfl⟩
  ·have Ho:Hid (Zel st=n):=by show _=_; simp [Zel,hst,hn]
   clear hva hvo hst h hop hg
   go_enter Tryd.func95,Tryd.ntmps95
   go_wp2_with fail
   go_quiet (fail)
   go_wp2
   go_ret
   rw [Ho.out]
   exact ⟨rfl,_,rfl⟩
theorem nb (kd k:Nat):((kd:Int) == (k:Int))=(kd == k):=by
 rw [Bool.eq_iff_iff,beq_iff_eq,beq_iff_eq]; omega
def Ziy (st:RS):Nat:=match st.opn with
 | []=>0
 | n::_=>match st.atom[n]? with
  | none=>0
  | some s=>s.args
def Zbi (st:RS) (kd:Nat):Bool:=if st.opn.isEmpty then (if st.inBody then (kd == 5 || kd == 6) else (kd == 7 || kd == 6)) else (kd == 5 || kd == 4)
def Zbc (st:RS) (kd:Nat):Bool :=
 if st.next=0∨st.next=1 then kd == 1 else if st.next=2 then (kd == 1 || kd == 2) else if st.next=3 then (kd == 3 || Zbi st kd) else if st.next=4 then Zbi st kd else false
def Zed (st:RS):Bool :=
 if st.next=0 then decide (24≤st.clauses.length) else if st.next=1 then decide (6≤st.body.length) else if st.next=2 then (decide (30≤st.atom.length) || decide (4≤Ziy st)) else false
def Zbj (st:RS) (kd len:Nat):Nat:=if Zbc st kd=false then 2 else if (kd=1∨kd=2)∧(8<len∨Zed st=true) then 3 else 0
structure RBd (st:RS):Prop where
 opn:st.opn.length≤4096
 atom:st.atom.length≤4096
 body:st.body.length≤4096
 cls:st.clauses.length≤4096
 args:∀ s ∈ st.atom,s.args≤4096
theorem Zzg (w:World) (B rb:Nat) (st:RS) (V:RV) (h:ROpen w B rb st V) (hb:RBd st) :
  Calls Tryd.prog 94 #[.pointer (some ⟨rb,0,none⟩)] w fun e w'=>e = .returned (.int .i64 (Ziy st))∧∃ n,w'=w.drewN n:=by
 obtain ⟨c0,c1,c2,c3,c4,c5,c6,c7,c8⟩:=h.facts
 obtain ⟨aa,acap,hva⟩:=Zad h.atom
 rw [hva] at c3
 have Hown:=Zac (Zkj w B rb st V h hb.opn hb.atom)
 by_cases ho:Zel st = -1
 ·have Ha:Hid (Ziy st=0):=by
   show _=_
   cases hst:st.opn with
   | nil=>simp [Ziy,hst]
   | cons n r =>
    have hle:st.atom.length≤n:=by
     unfold Zel at ho
     rw [hst] at ho
     simp only at ho
     split at ho
     ·assumption
     ·omega
    simp [Ziy,hst,List.getElem?_eq_none hle]
  have Ho:=Zac ho
  clear ho h hva
  go_enter Tryd.func94,Tryd.ntmps94
  go_wp2_with fail
  refine Hown.out.mono ?_
  rintro e w1 ⟨rfl,n,rfl⟩
  rw [Ho.out]
  go_wp2
  go_ret
  rw [Ha.out]
  exact ⟨rfl,n,rfl⟩
 ·obtain ⟨k,r,hst,hk⟩:∃ k r,st.opn=k::r∧k<st.atom.length:=by
   unfold Zel at ho
   split at ho
   ·exact absurd rfl ho
   ·rename_i k r hn
    split at ho
    ·exact absurd rfl ho
    ·exact ⟨k,r,hn,by omega⟩
  obtain ⟨s,hs⟩:∃ s,st.atom[k]?=some s:=⟨_,Qb hk⟩
  have Ha:Hid (Ziy st=s.args):=by show _=_; simp [Ziy,hst,hs]
  have Ho:Hid (Zel st=k):=by show _=_; simp [Zel,hst]; omega
  have hat:=h.atom
  rw [hva] at hat
  obtain ⟨g,gcap,gcur,he,hBg,hg,hcap⟩:=Zap hat (by omega)
  simp only [Value.slice.injEq] at he
  obtain ⟨rfl,_,rfl⟩:=he
  have cg:w.cell? ⟨g,k * 3+2,none⟩=some (.int .i64 s.args):=Zai hat _ _ (by rw [Zaw _ k s hs 2 (by omega)]; rfl)
  have hla:=hb.atom
  clear ho h hva hat hst hs hg
  go_enter Tryd.func94,Tryd.ntmps94
  go_wp2_with fail
  refine Hown.out.mono ?_
  rintro e w1 ⟨rfl,n,rfl⟩
  rw [Ho.out]
  go_wp2
  go_ret
  rw [Ha.out]
  exact ⟨rfl,n,rfl⟩
theorem Ztl (w:World) (B rb:Nat) (st:RS) (V:RV) (kd:Nat) (h:ROpen w B rb st V) (hb:RBd st) :
  Calls Tryd.prog 93 #[.pointer (some ⟨rb,0,none⟩),.int .i64 kd] w fun e w'=>e = .returned (.bool (Zbi st kd))∧w'=w:=by
 obtain ⟨c0,c1,c2,c3,c4,c5,c6,c7,c8⟩:=h.facts
 obtain ⟨oa,ocap,hvo⟩:=Zad h.opn
 have hl:=hb.opn
 rw [hvo] at c4
 clear h hvo
 have e4:=nb kd 4
 have e5:=nb kd 5
 have e6:=nb kd 6
 have e7:=nb kd 7
 cases hst:st.opn with
 | nil =>
  simp only [hst,Jt] at c4
  cases hib:st.inBody
  ·rw [hib] at c2
   have Hf:Hid (Zbi st kd=(kd == 7 || kd == 6)):=by show _=_; simp [Zbi,hst,hib]
   rw [Hf.out,← e7,← e6]
   clear e4 e5 e6 e7 hst hib
   cases t1:((kd:Int) == (7:Nat))
   all_goals
    have t1':((kd:Int) == 7)=_:=t1
    go_enter Tryd.func93,Tryd.ntmps93
    go_wp2
    go_ret
    exact ⟨rfl,rfl⟩
  ·rw [hib] at c2
   have Hf:Hid (Zbi st kd=(kd == 5 || kd == 6)):=by show _=_; simp [Zbi,hst,hib]
   rw [Hf.out,← e5,← e6]
   clear e4 e5 e6 e7 hst hib
   cases t1:((kd:Int) == (5:Nat))
   all_goals
    have t1':((kd:Int) == 5)=_:=t1
    go_enter Tryd.func93,Tryd.ntmps93
    go_wp2
    go_ret
    exact ⟨rfl,rfl⟩
 | cons n r =>
  have Hf:Hid (Zbi st kd=(kd == 5 || kd == 4)):=by show _=_; simp [Zbi,hst]
  rw [Hf.out,← e5,← e4]
  have hrl:r.length+1≤4096:=by rw [hst] at hl; simpa using hl
  simp only [hst,Qf] at c4
  clear e4 e5 e6 e7 hst
  cases t1:((kd:Int) == (5:Nat))
  all_goals
   have t1':((kd:Int) == 5)=_:=t1
   go_enter Tryd.func93,Tryd.ntmps93
   go_wp2
   go_ret
   exact ⟨rfl,rfl⟩
theorem Zwi (w:World) (B rb:Nat) (st:RS) (V:RV) (kd:Nat) (h:ROpen w B rb st V) (hb:RBd st) (hn:st.next≤5) :
  Calls Tryd.prog 68 #[.pointer (some ⟨rb,0,none⟩),.int .i64 kd] w fun e w'=>e = .returned (.bool (Zbc st kd))∧w'=w:=by
 obtain ⟨c0,c1,c2,c3,c4,c5,c6,c7,c8⟩:=h.facts
 have HF:=Zac (Ztl w B rb st V kd h hb)
 have e1:=nb kd 1
 have e2:=nb kd 2
 have e3:=nb kd 3
 clear h hb c0 c2 c3 c4 c5 c6 c7 c8
 have hs:st.next=0∨st.next=1∨st.next=2∨st.next=3∨st.next=4∨st.next=5:=by omega
 rcases hs with hs | hs | hs | hs | hs | hs
 ·rw [hs] at c1
  have Hf:Hid (Zbc st kd=(kd == 1)):=by show _=_; simp [Zbc,hs]
  rw [Hf.out]
  rw [← e1]
  clear hs e1 e2 e3
  go_enter Tryd.func68,Tryd.ntmps68
  go_wp2
  go_ret
  exact ⟨rfl,rfl⟩
 ·rw [hs] at c1
  have Hf:Hid (Zbc st kd=(kd == 1)):=by show _=_; simp [Zbc,hs]
  rw [Hf.out]
  rw [← e1]
  clear hs e1 e2 e3
  go_enter Tryd.func68,Tryd.ntmps68
  go_wp2
  go_ret
  exact ⟨rfl,rfl⟩
 ·rw [hs] at c1
  have Hf:Hid (Zbc st kd=(kd == 1 || kd == 2)):=by show _=_; simp [Zbc,hs]
  rw [Hf.out]
  rw [← e1,← e2]
  clear hs e1 e2 e3
  cases t1:((kd:Int) == (1:Nat))
  all_goals
   have t1':((kd:Int) == 1)=_:=t1
   go_enter Tryd.func68,Tryd.ntmps68
   go_wp2
   go_ret
   exact ⟨rfl,rfl⟩
 ·rw [hs] at c1
  have Hf:Hid (Zbc st kd=(kd == 3 || Zbi st kd)):=by show _=_; simp [Zbc,hs]
  rw [Hf.out]
  rw [← e3]
  clear hs e1 e2 e3
  cases t1:((kd:Int) == (3:Nat))
  all_goals
   have t1':((kd:Int) == 3)=_:=t1
   go_enter Tryd.func68,Tryd.ntmps68
   go_wp2_with (go_at_call 93; refine HF.out.mono ?_; rintro e w' ⟨rfl,rfl⟩)
   go_ret
   exact ⟨rfl,rfl⟩
 ·rw [hs] at c1
  have Hf:Hid (Zbc st kd=Zbi st kd):=by show _=_; simp [Zbc,hs]
  rw [Hf.out]
  clear hs e1 e2 e3
  go_enter Tryd.func68,Tryd.ntmps68
  go_wp2_with (go_at_call 93; refine HF.out.mono ?_; rintro e w' ⟨rfl,rfl⟩)
  go_ret
  exact ⟨rfl,rfl⟩
 ·rw [hs] at c1
  have Hf:Hid (Zbc st kd=false):=by show _=_; simp [Zbc,hs]
  rw [Hf.out]
  clear hs e1 e2 e3
  go_enter Tryd.func68,Tryd.ntmps68
  go_wp2
  go_ret
  exact ⟨rfl,rfl⟩
theorem Zzh (w:World) (B rb:Nat) (st:RS) (V:RV) (h:ROpen w B rb st V) (hb:RBd st) (hn:st.next≤5) :
  Calls Tryd.prog 69 #[.pointer (some ⟨rb,0,none⟩)] w fun e w'=>e = .returned (.bool (Zed st))∧∃ n,w'=w.drewN n:=by
 obtain ⟨c0,c1,c2,c3,c4,c5,c6,c7,c8⟩:=h.facts
 have HA:=Zac (Zzg w B rb st V h hb)
 obtain ⟨aa,acap,hva⟩:=Zad h.atom
 obtain ⟨ba,bcap,hvb⟩:=h.body
 obtain ⟨ca,ccap,hvc⟩:=h.cls
 rw [hva] at c3
 rw [hvb] at c6
 rw [hvc] at c8
 have l1:=hb.atom
 have l2:=hb.body
 have l3:=hb.cls
 clear h hb hva hvb hvc
 have hs:st.next=0∨st.next=1∨st.next=2∨(st.next≠0∧st.next≠1∧st.next≠2):=by omega
 rcases hs with hs | hs | hs | hs
 ·rw [hs] at c1
  have Hf:Hid (Zed st=decide (24≤st.clauses.length)):=by show _=_; simp [Zed,hs]
  clear hs
  go_enter Tryd.func69,Tryd.ntmps69
  go_wp2
  go_ret
  rw [Hf.out]
  exact ⟨Zem (by rw [Bool.eq_iff_iff]; simp; try omega),0,rfl⟩
 ·rw [hs] at c1
  have Hf:Hid (Zed st=decide (6≤st.body.length)):=by show _=_; simp [Zed,hs]
  clear hs
  go_enter Tryd.func69,Tryd.ntmps69
  go_wp2
  go_ret
  rw [Hf.out]
  exact ⟨Zem (by rw [Bool.eq_iff_iff]; simp; try omega),0,rfl⟩
 ·rw [hs] at c1
  by_cases h30:(30:Int)≤(st.atom.length:Int)
  ·have Hf:Hid (Zed st=true):=by show _=_; simp [Zed,hs]; left; omega
   clear hs
   go_enter Tryd.func69,Tryd.ntmps69
   go_wp2
   go_ret
   rw [Hf.out]
   exact ⟨rfl,0,rfl⟩
  ·have Hf:Hid (Zed st=decide (4≤Ziy st)):=by show _=_; simp [Zed,hs]; omega
   have hd:decide ((30:Int)≤(st.atom.length:Int))=false:=by simpa using h30
   clear hs
   go_enter Tryd.func69,Tryd.ntmps69
   go_wp2_with (go_at_call 94; refine HA.out.mono ?_; rintro e w' ⟨rfl,n,rfl⟩)
   go_ret
   rw [Hf.out]
   exact ⟨Zem (by rw [Bool.eq_iff_iff]; simp; try omega),_,rfl⟩
 ·have t0:((st.next:Int) == 0)=false:=by rw [Qu]; omega
  have t1:((st.next:Int) == 1)=false:=by rw [Qu]; omega
  have t2:((st.next:Int) == 2)=false:=by rw [Qu]; omega
  have Hf:Hid (Zed st=false):=by show _=_; simp [Zed,hs]
  clear hs
  go_enter Tryd.func69,Tryd.ntmps69
  go_wp2
  go_ret
  rw [Hf.out]
  exact ⟨rfl,0,rfl⟩
end Go.Proofs.YtlmjilpjmgjjcabDoor
namespace Go.Proofs.YtlmjilpjmgjjcabDoor
open Go.RowKit
set_option linter.unusedSimpArgs false
set_option linter.unusedVariables false
theorem ROpen.later {S:Nat→Prop} {w w':World} {B rb:Nat} {st:RS} {V:RV} (h:ROpen w B rb st V) (hk:Kept S w w') (h1:¬ S rb) (h2:∀ k,V.a.ownBlock=some k→¬ S k) (h3:∀ k,V.o.ownBlock=some k→¬ S k):ROpen w' B rb st V :=
 ⟨(hk.block rb (Zab h.blk) h1).trans h.blk,hk.owns h.atom h2,hk.owns h.opn h3,h.body,h.cls⟩
theorem Zwj (w:World) (B rb:Nat) (st:RS) (V:RV) (kd p q:Nat) (h:ROpen w B rb st V) (hb:RBd st) (hn:st.next≤5) (hpq:p≤q) (hq:q≤4096) :
  Calls Tryd.prog 52 #[.pointer (some ⟨rb,0,none⟩),.agg #[.int .i64 kd,.int .i64 p,.int .i64 q]] w fun e w'=>e = .returned (.int .i64 (Zbj st kd (q - p)))∧Kept Zco w w':=by
 have h1:∀ o,ROpen (w.alloc o) B rb st V:=fun o=>h.later (S:=Zco) ((Qx _ w).alloc o) (fun h=>h) (fun _ _ h=>h) (fun _ _ h=>h)
 have HS:=Zac (fun o=>Zwi (w.alloc o) B rb st V kd (h1 o) hb hn)
 have HF:=Zac (fun o=>Zzh (w.alloc o) B rb st V (h1 o) hb hn)
 have e1:=nb kd 1
 have e2:=nb kd 2
 clear h h1
 cases hst:Zbc st kd
 ·have Hc:Hid (Zbj st kd (q - p)=2):=by show _=_; simp [Zbj,hst]
  go_enter Tryd.func52,Tryd.ntmps52
  go_wp2_with (go_at_call 68; refine (HS.out _).mono ?_; rintro e w' ⟨rfl,rfl⟩)
  go_ret
  rw [Hc.out]
  exact ⟨rfl,(Qx _ w).alloc _⟩
 ·by_cases hw:kd=1∨kd=2
  ·have hword:((kd:Int) == 1)=true∨(((kd:Int) == 1)=false∧((kd:Int) == 2)=true):=by
    rcases hw with rfl | rfl
    ·exact Or.inl rfl
    ·exact Or.inr ⟨rfl,rfl⟩
   by_cases h8:8<q - p
   ·have h8':(8:Int)<(q:Int) - (p:Int):=by omega
    have Hc:Hid (Zbj st kd (q - p)=3):=by show _=_; simp [Zbj,hst,hw,h8]
    clear hw e1 e2
    rcases hword with t1 | ⟨t1,t2⟩
    all_goals
     go_enter Tryd.func52,Tryd.ntmps52
     go_wp2_with (go_at_call 68; refine (HS.out _).mono ?_; rintro e w' ⟨rfl,rfl⟩)
     go_ret
     rw [Hc.out]
     exact ⟨rfl,(Qx _ w).alloc _⟩
   ·have h8':¬ (8:Int)<(q:Int) - (p:Int):=by omega
    have hd8:decide ((8:Int)<(q:Int) - (p:Int))=false:=by simpa using h8'
    cases hfl:Zed st
    ·have Hc:Hid (Zbj st kd (q - p)=0):=by show _=_; simp [Zbj,hst,h8,hfl]
     clear hw e1 e2
     rcases hword with t1 | ⟨t1,t2⟩
     all_goals
      go_enter Tryd.func52,Tryd.ntmps52
      go_wp2_with (first | (go_at_call 68; refine (HS.out _).mono ?_; rintro e w' ⟨rfl,rfl⟩) | (go_at_call 69; refine (HF.out _).mono ?_; rintro e w' ⟨rfl,n,rfl⟩))
      go_ret
      rw [Hc.out]
      exact ⟨rfl,((Qx _ w).alloc _).drewN _⟩
    ·have Hc:Hid (Zbj st kd (q - p)=3):=by show _=_; simp [Zbj,hst,hw,hfl]
     clear hw e1 e2
     rcases hword with t1 | ⟨t1,t2⟩
     all_goals
      go_enter Tryd.func52,Tryd.ntmps52
      go_wp2_with (first | (go_at_call 68; refine (HS.out _).mono ?_; rintro e w' ⟨rfl,rfl⟩) | (go_at_call 69; refine (HF.out _).mono ?_; rintro e w' ⟨rfl,n,rfl⟩))
      go_ret
      rw [Hc.out]
      exact ⟨rfl,((Qx _ w).alloc _).drewN _⟩
  ·have t1:((kd:Int) == 1)=false:=by rw [Qu]; omega
   have t2:((kd:Int) == 2)=false:=by rw [Qu]; omega
   have Hc:Hid (Zbj st kd (q - p)=0):=by show _=_; simp [Zbj,hst,hw]
   clear hw e1 e2
   go_enter Tryd.func52,Tryd.ntmps52
   go_wp2_with (go_at_call 68; refine (HS.out _).mono ?_; rintro e w' ⟨rfl,rfl⟩)
   go_ret
   rw [Hc.out]
   exact ⟨rfl,(Qx _ w).alloc _⟩
theorem Ztm (s:ByteArray) (kd:Int) (p q:Nat) (w:World) (hpq:p≤q) (hq:q≤s.size) (hs:s.size≤4096) :
  Calls Tryd.prog 54 #[.string s,.agg #[.int .i64 kd,.int .i64 p,.int .i64 q]] w fun e w'=>e = .returned (.string (s.extract p q))∧Kept Zco w w':=by
 have d1:decide (((p:Nat):Int)<0)=false:=by simp
 have d2:decide ((q:Int)<(p:Int))=false:=by simp; omega
 go_enter Tryd.func54,Tryd.ntmps54
 go_wp2
 go_ret
 exact ⟨rfl,(Qx _ w).alloc _⟩
theorem Tryd.infoSym:(Tryd.prog.info? 79).map (fun i=>(i.zero,i.size,i.bytes))=some (some (.agg #[.string ⟨#[]⟩,.int .i64 0,.int .i64 0]),3,32):=by kernel_rfl
theorem Tryd.infoSyms:(Tryd.prog.info? 52).map (fun i=>(i.zero,i.size,i.bytes))=some (some (.slice none 0 0),1,24):=by kernel_rfl
theorem Tryd.infoCls:(Tryd.prog.info? 55).map (fun i=>(i.zero,i.size,i.bytes))=some (some (.agg #[.slice none 0 0,.slice none 0 0,.slice none 0 0]),3,72):=by kernel_rfl
def SymRow (w:World) (B Sa:Nat) (v:Value) (l:List Sym):Prop:=w.ownsRow B 79 3 v l.length (Zah l)∧∀ k,v.ownBlock=some k→k<Sa
def BodyRow (w:World) (B Sa:Nat) (v:Value) (ls:List (List Sym)) (vs:List Value):Prop :=
 w.ownsRow B 52 1 v ls.length vs∧∀ (i:Nat) (l:List Sym),ls[i]?=some l→∃ x,vs[i]?=some x∧SymRow w B Sa x l
def CCRow (w:World) (B Sa Sb:Nat) (v:Value) (cs:List CC) (xs:List (List Value)):Prop :=
 w.ownsRow B 55 3 v cs.length xs.flatten∧xs.length=cs.length∧(∀ x ∈ xs,x.length=3) ∧
 ∀ (i:Nat) (c:CC),cs[i]?=some c→∃ hv bv vv vs,xs[i]?=some [hv,bv,vv]∧SymRow w B Sa hv c.head∧BodyRow w B Sa bv c.body vs∧(∀ k,bv.ownBlock=some k→k<Sb)∧w.ownsRow B 9 1 vv c.names.length (strs c.names)∧∀ k,vv.ownBlock=some k→k<Sb
structure RRest (w:World) (B:Nat) (st:RS) (V:RV) (Sa Sb:Nat) (vs:List Value) (xs:List (List Value)):Prop where
 atom:w.ownsRow B 79 3 V.a st.atom.length (Zah st.atom)
 opn:w.ownsRow B 3 1 V.o st.opn.length (ints st.opn.reverse)
 vars:w.ownsRow B 9 1 V.v st.vars.length (strs st.vars)
 head:SymRow w B Sa V.h st.head
 body:BodyRow w B Sa V.b st.body vs
 cls:CCRow w B Sa Sb V.c st.clauses xs
 ta:∀ k,V.a.ownBlock=some k→Sa≤k
 tb:∀ k,V.b.ownBlock=some k→Sb≤k
 tv:∀ k,V.v.ownBlock=some k→Sb≤k
 la:Sa≤w.heap.size
 lb:Sb≤w.heap.size
structure IsR (w:World) (B rb:Nat) (st:RS) (V:RV) (Sa Sb:Nat) (vs:List Value) (xs:List (List Value)):Prop where
 blk:w.heap[rb]?=some (.cells (Zcj st V) 95 (0,0))
 rest:RRest w B st V Sa Sb vs xs
 le:B≤rb
theorem IsR.opens {w:World} {B rb:Nat} {st:RS} {V:RV} {Sa Sb:Nat} {vs:List Value} {xs:List (List Value)} (h:IsR w B rb st V Sa Sb vs xs):ROpen w B rb st V:=by
 obtain ⟨ba,bc,hb⟩:=Zad h.rest.body.1
 obtain ⟨ca,cc,hc⟩:=Zad h.rest.cls.1
 exact ⟨h.blk,h.rest.atom,h.rest.opn,⟨ba,bc,hb⟩,⟨ca,cc,hc⟩⟩
def Zdt (rb:Nat) (X:Value):Nat→Prop:=fun k=>k=rb∨Zbq X k
section
variable {w w':World} {B rb:Nat} {st:RS} {V:RV} {Sa Sb:Nat} {vs:List Value} {xs:List (List Value)} {X:Value}
theorem Zbn {Br:Nat} {e eX:TypeId} {s sX n nX:Nat} {v:Value} {ys yX:List Value} {cs:Array Value} {fr:Nat × Nat} (ho:w.ownsRow Br e s v n ys) (hk:Kept (Zdt rb X) w w') (hblk:w.heap[rb]?=some (.cells cs 95 fr))
  (hX:w.ownsRow B eX sX X nX yX) (h1:e≠95) (h2:e≠eX):w'.ownsRow Br e s v n ys :=
 hk.owns ho (fun k hv hs=>by
  rcases hs with rfl | hs
  ·exact Zaf ho h1 hblk hv
  ·obtain ⟨cur,hc⟩:=Zbt hX k hs
   exact Zaf ho h2 hc hv)
theorem Zeb {v:Value} {l:List Sym} {eX:TypeId} {sX nX:Nat} {yX:List Value} {cs:Array Value} {fr:Nat × Nat} (h:SymRow w B Sa v l) (hk:Kept (Zdt rb X) w w') (hblk:w.heap[rb]?=some (.cells cs 95 fr))
  (hX:w.ownsRow B eX sX X nX yX) (h2:79≠eX∨∀ k,X.ownBlock=some k→Sa≤k):SymRow w' B Sa v l:=by
 refine ⟨?_,h.2⟩
 rcases h2 with h2 | h2
 ·exact Zbn h.1 hk hblk hX (by decide) h2
 ·exact hk.owns h.1 (fun k hv hs=>by
   rcases hs with rfl | hs
   ·exact Zaf h.1 (by decide) hblk hv
   ·have a1:=h.2 k hv
    have a2:=h2 k hs
    omega)
theorem Zee {v:Value} {ls:List (List Sym)} {ws:List Value} {eX:TypeId} {sX nX:Nat} {yX:List Value} {cs:Array Value} {fr:Nat × Nat} (h:BodyRow w B Sa v ls ws) (hk:Kept (Zdt rb X) w w') (hblk:w.heap[rb]?=some (.cells cs 95 fr))
  (hX:w.ownsRow B eX sX X nX yX) (h2:79≠eX∨∀ k,X.ownBlock=some k→Sa≤k) (h3:52≠eX∨∀ k,v.ownBlock=some k→¬ Zbq X k):BodyRow w' B Sa v ls ws:=by
 refine ⟨?_,fun i l hl => ?_⟩
 ·rcases h3 with h3 | h3
  ·exact Zbn h.1 hk hblk hX (by decide) h3
  ·exact hk.owns h.1 (fun k hv hs=>by
    rcases hs with rfl | hs
    ·exact Zaf h.1 (by decide) hblk hv
    ·exact h3 k hv hs)
 ·obtain ⟨x,hx,hs⟩:=h.2 i l hl
  exact ⟨x,hx,Zeb hs hk hblk hX h2⟩
theorem Zgr {v:Value} {cs:List CC} {ys:List (List Value)} {eX:TypeId} {sX nX:Nat} {yX:List Value} {cl:Array Value} {fr:Nat × Nat} (h:CCRow w B Sa Sb v cs ys) (hk:Kept (Zdt rb X) w w') (hblk:w.heap[rb]?=some (.cells cl 95 fr))
  (hX:w.ownsRow B eX sX X nX yX) (h2:79≠eX∨∀ k,X.ownBlock=some k→Sa≤k) (h3:52≠eX∨∀ k,X.ownBlock=some k→Sb≤k) (h4:55≠eX) (h5:9≠eX∨∀ k,X.ownBlock=some k→Sb≤k):CCRow w' B Sa Sb v cs ys:=by
 refine ⟨Zbn h.1 hk hblk hX (by decide) h4,h.2.1,h.2.2.1,fun i c hc => ?_⟩
 obtain ⟨hv,bv,vv,us,e1,e2,e3,e4⟩:=h.2.2.2 i c hc
 refine ⟨hv,bv,vv,us,e1,Zeb e2 hk hblk hX h2,Zee e3 hk hblk hX h2 ?_,e4.1,hk.owns e4.2.1 (fun k hv hs => ?_),e4.2.2⟩
 rotate_left
 ·rcases hs with rfl | hs
  ·exact Zaf e4.2.1 (by decide) hblk hv
  ·rcases h5 with h5 | h5
   ·obtain ⟨cur,hc⟩:=Zbt hX k hs
    exact Zaf e4.2.1 h5 hc hv
   ·have a1:=e4.2.2 k hv
    have a2:=h5 k hs
    omega
 rcases h3 with h3 | h3
 ·exact Or.inl h3
 ·exact Or.inr (fun k hb hs=>by
   have a1:=e4.1 k hb
   have a2:=h3 k hs
   omega)
end
structure Held (B:Nat) (w w':World):Prop where
 below:Below B w w'
 other:∀ (k:Nat) (cs:Array Value) (T:TypeId) (fr:Nat × Nat),w.heap[k]?=some (.cells cs T fr)→(T=109∨T=69)→w'.heap[k]?=w.heap[k]?
theorem Held.refl (B:Nat) (w:World):Held B w w:=⟨Below.refl _ _,fun _ _ _ _ _ _=>rfl⟩
theorem Held.trans {B:Nat} {a b c:World} (h:Held B a b) (k:Held B b c):Held B a c :=
 ⟨h.below.trans k.below,fun i cs T fr hb hT=>(k.other i cs T fr ((h.other i cs T fr hb hT).trans hb) hT).trans (h.other i cs T fr hb hT)⟩
theorem Held.drew {B:Nat} {a w:World} (h:Held B a w):Held B a w.drew:=⟨h.below.drew,h.other⟩
theorem Held.fresh {B:Nat} {w w':World} (h:Kept Zco w w') (hB:B≤w.heap.size):Held B w w':=⟨h.below hB (fun _ h=>h.elim),fun k _ _ _ hb _=>h.block k (Zab hb) (fun h=>h)⟩
section
variable {w w':World} {B rb:Nat} {st:RS} {V:RV} {Sa Sb:Nat} {vs:List Value} {xs:List (List Value)}
theorem IsR.below (h:IsR w B rb st V Sa Sb vs xs) {X:Value} {eX:TypeId} {sX nX:Nat} {yX:List Value} (hk:Kept (Zdt rb X) w w') (hX:w.ownsRow B eX sX X nX yX) (he:eX≠109∧eX≠69):Held B w w' :=
 ⟨hk.below (Nat.le_of_lt (Nat.lt_of_le_of_lt h.le (Zab h.blk))) (fun k hs=>by
  rcases hs with rfl | hs
  ·exact h.le
  ·exact (hX.lt k hs).1),fun k cs T fr hb hT=>by
  refine hk.block k (Zab hb) (fun hs => ?_)
  rcases hs with rfl | hs
  ·have e:=h.blk
   rw [hb] at e
   simp only [Qo,Obj.cells.injEq] at e
   rcases hT with h1 | h1 <;> exact absurd (e.2.1.symm.trans h1) (by decide)
  ·obtain ⟨cur,hc⟩:=Zbt hX k hs
   rw [hb] at hc
   simp only [Qo,Obj.cells.injEq] at hc
   rcases hT with h1 | h1
   ·exact he.1 (hc.2.1.symm.trans h1)
   ·exact he.2 (hc.2.1.symm.trans h1)⟩
theorem IsR.only (h:IsR w B rb st V Sa Sb vs xs) (hk:Kept (Zdt rb (.slice none 0 0)) w w') (st':RS) (hblk:w'.heap[rb]?=some (.cells (Zcj st' V) 95 (0,0)))
  (e1:st'.atom=st.atom) (e2:st'.opn=st.opn) (e3:st'.vars=st.vars) (e4:st'.head=st.head) (e5:st'.body=st.body) (e6:st'.clauses=st.clauses):IsR w' B rb st' V Sa Sb vs xs:=by
 have hX:w.ownsRow B 95 1 (.slice none 0 0) 0 []:=World.ownsRow_nil _ _ _ _
 have r:=h.rest
 refine ⟨hblk,⟨?_,?_,?_,?_,?_,?_,r.ta,r.tb,r.tv,Qq r.la hk.size,Qq r.lb hk.size⟩,h.le⟩
 ·rw [e1]; exact Zbn r.atom hk h.blk hX (by decide) (by decide)
 ·rw [e2]; exact Zbn r.opn hk h.blk hX (by decide) (by decide)
 ·rw [e3]; exact Zbn r.vars hk h.blk hX (by decide) (by decide)
 ·rw [e4]; exact Zeb r.head hk h.blk hX (Or.inl (by decide))
 ·rw [e5]; exact Zee r.body hk h.blk hX (Or.inl (by decide)) (Or.inl (by decide))
 ·rw [e6]; exact Zgr r.cls hk h.blk hX (Or.inl (by decide)) (Or.inl (by decide)) (by decide) (Or.inl (by decide))
theorem IsR.opened (h:IsR w B rb st V Sa Sb vs xs) (hk:Kept (Zdt rb V.o) w w') (l:List Nat) (o':Value) (hblk:w'.heap[rb]?=some (.cells (Zcj { st with opn:=l } { V with o:=o' }) 95 (0,0)))
  (ho:w'.ownsRow B 3 1 o' l.length (ints l.reverse)):IsR w' B rb { st with opn:=l } { V with o:=o' } Sa Sb vs xs:=by
 have r:=h.rest
 exact ⟨hblk,⟨Zbn r.atom hk h.blk r.opn (by decide) (by decide),ho,Zbn r.vars hk h.blk r.opn (by decide) (by decide),Zeb r.head hk h.blk r.opn (Or.inl (by decide)),
  Zee r.body hk h.blk r.opn (Or.inl (by decide)) (Or.inl (by decide)),Zgr r.cls hk h.blk r.opn (Or.inl (by decide)) (Or.inl (by decide)) (by decide) (Or.inl (by decide)),r.ta,r.tb,r.tv,Qq r.la hk.size,Qq r.lb hk.size⟩,h.le⟩
theorem IsR.named (h:IsR w B rb st V Sa Sb vs xs) (hk:Kept (Zdt rb V.v) w w') (l:Names) (v':Value) (hblk:w'.heap[rb]?=some (.cells (Zcj { st with vars:=l } { V with v:=v' }) 95 (0,0)))
  (ho:w'.ownsRow B 9 1 v' l.length (strs l)) (htv:∀ k,v'.ownBlock=some k→Sb≤k):IsR w' B rb { st with vars:=l } { V with v:=v' } Sa Sb vs xs:=by
 have r:=h.rest
 exact ⟨hblk,⟨Zbn r.atom hk h.blk r.vars (by decide) (by decide),Zbn r.opn hk h.blk r.vars (by decide) (by decide),ho,Zeb r.head hk h.blk r.vars (Or.inl (by decide)),
  Zee r.body hk h.blk r.vars (Or.inl (by decide)) (Or.inl (by decide)),Zgr r.cls hk h.blk r.vars (Or.inl (by decide)) (Or.inl (by decide)) (by decide) (Or.inr r.tv),r.ta,r.tb,htv,Qq r.la hk.size,Qq r.lb hk.size⟩,h.le⟩
theorem IsR.atoms (h:IsR w B rb st V Sa Sb vs xs) (hk:Kept (Zdt rb V.a) w w') (l:List Sym) (a':Value) (hblk:w'.heap[rb]?=some (.cells (Zcj { st with atom:=l } { V with a:=a' }) 95 (0,0)))
  (ho:w'.ownsRow B 79 3 a' l.length (Zah l)) (hta:∀ k,a'.ownBlock=some k→Sa≤k):IsR w' B rb { st with atom:=l } { V with a:=a' } Sa Sb vs xs:=by
 have r:=h.rest
 exact ⟨hblk,⟨ho,Zbn r.opn hk h.blk r.atom (by decide) (by decide),Zbn r.vars hk h.blk r.atom (by decide) (by decide),Zeb r.head hk h.blk r.atom (Or.inr r.ta),
  Zee r.body hk h.blk r.atom (Or.inr r.ta) (Or.inl (by decide)),Zgr r.cls hk h.blk r.atom (Or.inr r.ta) (Or.inl (by decide)) (by decide) (Or.inl (by decide)),hta,r.tb,r.tv,Qq r.la hk.size,Qq r.lb hk.size⟩,h.le⟩
theorem SymRow.more {v:Value} {l:List Sym} {S':Nat} (h:SymRow w B Sa v l) (hS:Sa≤S'):SymRow w B S' v l:=⟨h.1,fun k hk=>Nat.lt_of_lt_of_le (h.2 k hk) hS⟩
theorem BodyRow.more {v:Value} {ls:List (List Sym)} {ws:List Value} {S':Nat} (h:BodyRow w B Sa v ls ws) (hS:Sa≤S'):BodyRow w B S' v ls ws :=
 ⟨h.1,fun i l hl=>by obtain ⟨x,h1,h2⟩:=h.2 i l hl; exact ⟨x,h1,h2.more hS⟩⟩
theorem CCRow.more {v:Value} {cs:List CC} {ys:List (List Value)} {S' T':Nat} (h:CCRow w B Sa Sb v cs ys) (hS:Sa≤S') (hT:Sb≤T'):CCRow w B S' T' v cs ys :=
 ⟨h.1,h.2.1,h.2.2.1,fun i c hc=>by
  obtain ⟨hv,bv,vv,us,e1,e2,e3,e4⟩:=h.2.2.2 i c hc
  exact ⟨hv,bv,vv,us,e1,e2.more hS,e3.more hS,fun k hk=>Nat.lt_of_lt_of_le (e4.1 k hk) hT,e4.2.1,fun k hk=>Nat.lt_of_lt_of_le (e4.2.2 k hk) hT⟩⟩
theorem IsR.headed (h:IsR w B rb st V Sa Sb vs xs) (hk:Kept (Zdt rb (.slice none 0 0)) w w') (hblk:w'.heap[rb]?=some (.cells (Zcj { st with head:=st.atom,atom:=[] } { V with h:=V.a,a := .slice none 0 0 }) 95 (0,0))) :
  IsR w' B rb { st with head:=st.atom,atom:=[] } { V with h:=V.a,a := .slice none 0 0 } w'.heap.size Sb vs xs:=by
 have hX:w.ownsRow B 95 1 (.slice none 0 0) 0 []:=World.ownsRow_nil _ _ _ _
 have r:=h.rest
 have hs:Sa≤w'.heap.size:=Qq r.la hk.size
 have ha:=Zbn r.atom hk h.blk hX (by decide) (by decide)
 exact ⟨hblk,⟨World.ownsRow_nil _ _ _ _,Zbn r.opn hk h.blk hX (by decide) (by decide),Zbn r.vars hk h.blk hX (by decide) (by decide),⟨ha,fun k e=>(ha.lt k e).2⟩,
  (Zee r.body hk h.blk hX (Or.inl (by decide)) (Or.inl (by decide))).more hs,(Zgr r.cls hk h.blk hX (Or.inl (by decide)) (Or.inl (by decide)) (by decide) (Or.inl (by decide))).more hs (Qe _),fun k e=>by simp [Value.ownBlock] at e,r.tb,r.tv,Qe _,Qq r.lb hk.size⟩,h.le⟩
theorem IsR.bodied (h:IsR w B rb st V Sa Sb vs xs) (hk:Kept (Zdt rb V.b) w w') (b':Value) (hblk:w'.heap[rb]?=some (.cells (Zcj { st with body:=st.body++[st.atom],atom:=[] } { V with b:=b',a := .slice none 0 0 }) 95 (0,0)))
  (ho:w'.ownsRow B 52 1 b' (st.body.length+1) (vs++[V.a])) (htb:∀ k,b'.ownBlock=some k→Sb≤k) :
  IsR w' B rb { st with body:=st.body++[st.atom],atom:=[] } { V with b:=b',a := .slice none 0 0 } w'.heap.size Sb (vs++[V.a]) xs:=by
 have r:=h.rest
 have hs:Sa≤w'.heap.size:=Qq r.la hk.size
 have ha:=Zbn r.atom hk h.blk r.body.1 (by decide) (by decide)
 have hvl:vs.length=st.body.length:=by have:=r.body.1.1; omega
 refine ⟨hblk,⟨World.ownsRow_nil _ _ _ _,Zbn r.opn hk h.blk r.body.1 (by decide) (by decide),Zbn r.vars hk h.blk r.body.1 (by decide) (by decide),(Zeb r.head hk h.blk r.body.1 (Or.inl (by decide))).more hs,?_,
  (Zgr r.cls hk h.blk r.body.1 (Or.inl (by decide)) (Or.inr r.tb) (by decide) (Or.inl (by decide))).more hs (Qe _),fun k e=>by simp [Value.ownBlock] at e,htb,r.tv,Qe _,Qq r.lb hk.size⟩,h.le⟩
 refine ⟨by simpa using ho,fun i l hl => ?_⟩
 rcases Nat.lt_or_ge i st.body.length with hi | hi
 ·simp only at hl
  rw [Qc hi] at hl
  obtain ⟨x,h1,h2⟩:=r.body.2 i l hl
  exact ⟨x,by rw [Qc (by omega)]; exact h1,(Zeb h2 hk h.blk r.body.1 (Or.inl (by decide))).more hs⟩
 ·have hi':i=st.body.length:=by
   have:i<(st.body++[st.atom]).length:=(Qa.1 hl).1
   simp at this; omega
  subst hi'
  simp at hl
  subst hl
  exact ⟨V.a,by rw [← hvl]; simp,ha,fun k e=>(ha.lt k e).2⟩
theorem IsR.clausd (h:IsR w B rb st V Sa Sb vs xs) (hk:Kept (Zdt rb V.c) w w') (c':Value) (st':RS) (hblk:w'.heap[rb]?=some (.cells (Zcj st' { V with c:=c',h := .slice none 0 0,b := .slice none 0 0,v := .slice none 0 0 }) 95 (0,0)))
  (ho:w'.ownsRow B 55 3 c' (st.clauses.length+1) (xs.flatten++[V.h,V.b,V.v]))
  (e1:st'.atom=st.atom) (e2:st'.opn=st.opn) (e3:st'.vars=[]) (e4:st'.head=[]) (e5:st'.body=[]) (e6:st'.clauses=st.clauses++[⟨st.head,st.body,st.vars⟩]) :
  IsR w' B rb st' { V with c:=c',h := .slice none 0 0,b := .slice none 0 0,v := .slice none 0 0 } Sa w'.heap.size [] (xs++[[V.h,V.b,V.v]]):=by
 have r:=h.rest
 have hs:Sb≤w'.heap.size:=Qq r.lb hk.size
 have hbd:=Zee r.body hk h.blk r.cls.1 (Or.inl (by decide)) (Or.inl (by decide))
 have hvd:=Zbn r.vars hk h.blk r.cls.1 (by decide) (by decide)
 refine ⟨hblk,⟨?_,?_,?_,?_,?_,?_,r.ta,fun k e=>by simp [Value.ownBlock] at e,fun k e=>by simp [Value.ownBlock] at e,Qq r.la hk.size,Qe _⟩,h.le⟩
 ·rw [e1]; exact Zbn r.atom hk h.blk r.cls.1 (by decide) (by decide)
 ·rw [e2]; exact Zbn r.opn hk h.blk r.cls.1 (by decide) (by decide)
 ·rw [e3]; exact World.ownsRow_nil _ _ _ _
 ·rw [e4]; exact ⟨World.ownsRow_nil _ _ _ _,fun k e=>by simp [Value.ownBlock] at e⟩
 ·rw [e5]; exact ⟨World.ownsRow_nil _ _ _ _,fun i l hl=>by simp at hl⟩
 ·rw [e6]
  refine ⟨by simpa using ho,by simp [r.cls.2.1],?_,fun i c hc => ?_⟩
  ·intro x hx
   simp at hx
   rcases hx with hx | rfl
   ·exact r.cls.2.2.1 x hx
   ·rfl
  ·rcases Nat.lt_or_ge i st.clauses.length with hi | hi
   ·rw [Qc hi] at hc
    obtain ⟨hv,bv,vv,us,d1,d2,d3,d4⟩:=r.cls.2.2.2 i c hc
    exact ⟨hv,bv,vv,us,by rw [Qc (by rw [r.cls.2.1]; exact hi)]; exact d1,Zeb d2 hk h.blk r.cls.1 (Or.inl (by decide)),Zee d3 hk h.blk r.cls.1 (Or.inl (by decide)) (Or.inl (by decide)),fun k e=>Nat.lt_of_lt_of_le (d4.1 k e) hs,Zbn d4.2.1 hk h.blk r.cls.1 (by decide) (by decide),fun k e=>Nat.lt_of_lt_of_le (d4.2.2 k e) hs⟩
   ·have hi':i=st.clauses.length:=by
     have:i<(st.clauses++[(⟨st.head,st.body,st.vars⟩:CC)]).length:=(Qa.1 hc).1
     simp at this; omega
    subst hi'
    simp at hc
    subst hc
    exact ⟨V.h,V.b,V.v,vs,by rw [← r.cls.2.1]; simp,Zeb r.head hk h.blk r.cls.1 (Or.inl (by decide)),hbd,fun k e=>(hbd.1.lt k e).2,hvd,fun k e=>(hvd.lt k e).2⟩
end
end Go.Proofs.YtlmjilpjmgjjcabDoor
