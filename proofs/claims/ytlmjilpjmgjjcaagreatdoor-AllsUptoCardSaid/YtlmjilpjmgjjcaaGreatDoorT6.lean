/-
  PROVED HERE: a region that draws its order, reads, calls once, and then stores at most once, goes one way (the conditions stand in the statement).
-/
import Derived.Test.YtlmjilpjmgjjcaaGreatDoorT5
import Derived.Orders
import Derived.BigQuiet
import Derived.Deep.QuietTactic
import Derived.Deep.RegionWith
set_option linter.unusedSimpArgs false
set_option linter.unusedVariables false
set_option maxRecDepth 10000
set_option maxHeartbeats 4000000
namespace Go.Proofs.YtlmjilpjmgjjcaaGreatDoor
open Go.RowKit
abbrev Ext (w w':World):Prop:=Below w.heap.size w w'
section inv
variable {P:Program} {ops:Array Oper} {Q:Exit→Act→World→Prop} {md:Region.Mode}
def unl (ops:Array Oper) (L:Array Bool):Nat:=((List.range ops.size).filter (fun i => !L.getD i true)).length
theorem Zmo {α:Type} {p q:α→Bool} {l:List α} (h:∀ x ∈ l,q x=true→p x=true) {x:α} (hx:x ∈ l) (hp:p x=true) (hq:q x=false):(l.filter q).length<(l.filter p).length:=by
 induction l with
 | nil=>simp at hx
 | cons y l ih =>
  have hle:(l.filter q).length≤(l.filter p).length:=by
   clear ih hx
   induction l with
   | nil=>simp
   | cons z l ih =>
    have h1:=h z (by simp)
    have h2:=ih (fun u hu=>h u (by
     rcases Qp.1 hu with rfl | hu
     ·simp
     ·simp [hu]))
    simp only [List.filter_cons]
    split
    ·rename_i hz
     rw [if_pos (h1 hz)]; simp; omega
    ·split <;> simp <;> omega
  simp only [List.filter_cons]
  rcases Qp.1 hx with rfl | hx
  ·rw [hp,hq]; simp; omega
  ·have:=ih (fun u hu=>h u (by simp [hu])) hx
   split
   ·rename_i hy
    rw [if_pos (h y (by simp) hy)]; simp; omega
   ·split <;> simp <;> omega
theorem Yaz {L:Array Bool} {i:Nat} (hi:i<ops.size) (hl:L.getD i true=false):unl ops (L.setIfInBounds i true)<unl ops L:=by
 have hil:i<L.size:=by
  rcases Nat.lt_or_ge i L.size with h | h
  ·exact h
  ·simp [Array.getElem?_eq_none h] at hl
 refine Zmo (x:=i) (fun j _ hj => ?_) (List.mem_range.2 hi) (by simp at hl ⊢; exact hl) (by simp [hil])
 by_cases e:i=j
 ·subst e; simp [hil] at hj
 ·rw [getD_set_ne true e] at hj; exact hj
theorem Zjx {J:Array Bool→Act→World→Prop} (hs:∀ L a w i,i ∈ Region.ready md ops L→J L a w→wpOp P ops Q i (J (L.setIfInBounds i true)) a w)
  (hf:∀ L a w,Region.ready md ops L=[]→J L a w→Q .normal a w):∀ (fuel:Nat) (L:Array Bool) (a:Act) (w:World),unl ops L≤fuel→J L a w→wpAny P md ops Q fuel L a w:=by
 intro fuel
 induction fuel with
 | zero =>
  intro L a w hu hJ
  have hr:Region.ready md ops L=[]:=by
   cases h:Region.ready md ops L with
   | nil=>rfl
   | cons i r =>
    have hi:i ∈ Region.ready md ops L:=by rw [h]; simp
    obtain ⟨h0,o,ho,_⟩:=mem_ready.1 hi
    have:=Yaz (ops:=ops) (Array.getElem?_eq_some_iff.1 ho).1 h0
    omega
  exact ⟨hr,hf L a w hr hJ⟩
 | succ fuel ih =>
  intro L a w hu hJ
  refine ⟨fun hr=>hf L a w hr hJ,fun i hi=>wpOp_mono (fun a' w' h=>ih _ a' w' ?_ h) (hs L a w i hi hJ)⟩
  obtain ⟨h0,o,ho,_⟩:=mem_ready.1 hi
  have:=Yaz (ops:=ops) (Array.getElem?_eq_some_iff.1 ho).1 h0
  omega
end inv
inductive Kd where
 | pur (c:Value)
 | post (g:Value→Value)
 | cal
 | alo (t:TypeId) (z:Array Value) (s:Nat) (cs:Value→Array Value)
 | sto (i:Nat)
def Kd.val (vc:Value) (β:Nat→Nat) (i:Nat):Kd→Value
 | .pur c=>c
 | .post g=>g vc
 | .cal=>vc
 | .alo .. => .pointer (some ⟨β i,0,none⟩)
 | .sto _=>undef
def pa (a0:Act) (vc:Value) (β:Nat→Nat) (lst:Nat→Bool):Nat→List Oper→List Kd→Act
 | _,[],_=>a0
 | _,_,[]=>a0
 | k,o::os,q::qs=>if lst k then (pa a0 vc β lst (k+1) os qs).put o.dst (q.val vc β k) else pa a0 vc β lst (k+1) os qs
abbrev paAll (a0:Act) (ops:List Oper) (kd:List Kd) (vc:Value) (β:Nat→Nat):Act:=pa a0 vc β (fun _=>true) 0 ops kd
def Zcs:Kd→Bool
 | .post _=>true
 | .sto _=>true
 | _=>false
def Zdb:Kd→Bool
 | .post _=>true
 | .cal=>true
 | _=>false
def Zcy (o:Oper) (j:Nat):Bool:=o.after.any fun e=>Region.binds .any e && e.on == j
def Zil (ops:List Oper) (kd:List Kd) (ic:Nat):Bool :=
 ops.length == kd.length &&
 (List.range ops.length).all fun i=>match ops[i]?,kd[i]? with
  | some o,some q =>
   o.guard.isNone && (match o.op with | .select .. => false | _=>true) &&
   (o.after.all fun e => !Region.binds .any e || e.on<i) &&
   ((List.range ops.length).all fun j=>match ops[j]? with
    | some p=>match p.dst with
     | some d=>((j == i) || (o.dst != some d)) && (!(o.looksAt ops.toArray).contains d || Zcy o j)
     | none=>true
    | none=>true) &&
   (match q with
    | .pur _=>true
    | .cal=>i == ic
    | .post _=>(List.range i).any fun j=>Zcy o j && (match kd[j]? with | some r=>Zdb r | none=>false)
    | .alo _ _ s _=>match kd[s]? with | some (.sto k)=>k == i | _=>false
    | .sto k=>o.dst.isNone && Zcy o k && ((List.range i).any fun j=>Zcy o j && (match kd[j]? with | some r=>Zdb r | none=>false)) && (match kd[k]? with | some (.alo _ _ s _)=>s == i | _=>false))
  | _,_=>false
theorem Zei {a0:Act} {vc vc':Value} {β β':Nat→Nat} {lst lst':Nat→Bool}:∀ {ops:List Oper} {kd:List Kd} {k:Nat},(∀ j q,kd[j]?=some q→lst (k+j)=lst' (k+j)∧(lst (k+j)=true→q.val vc β (k+j)=q.val vc' β' (k+j))) →
  pa a0 vc β lst k ops kd=pa a0 vc' β' lst' k ops kd:=by
 intro ops
 induction ops with
 | nil=>intro kd k _; simp [pa]
 | cons o os ih =>
  intro kd k h
  cases kd with
  | nil=>simp [pa]
  | cons q qs =>
   have h0:=h 0 q rfl
   simp only [Nat.add_zero] at h0
   have ih':=ih (kd:=qs) (k:=k+1) (fun j r hr=>by
    have:=h (j+1) r (by simpa using hr)
    have e:k+1+j=k+(j+1):=by omega
    rw [e]; exact this)
   rw [pa,pa,ih',← h0.1]
   split
   ·rename_i hk; rw [h0.2 hk]
   ·rfl
theorem Zpu {a0:Act} {vc:Value} {β:Nat→Nat} {lst:Nat→Bool} {x:Operand}:∀ {ops:List Oper} {kd:List Kd} {k:Nat},(∀ j o,ops[j]?=some o→lst (k+j)=false→∀ d,o.dst=some d→x ≠ .tmp d) →
  (pa a0 vc β lst k ops kd).eval x=(pa a0 vc β (fun _=>true) k ops kd).eval x:=by
 intro ops
 induction ops with
 | nil=>intro kd k _; simp [pa]
 | cons o os ih =>
  intro kd k h
  cases kd with
  | nil=>simp [pa]
  | cons q qs =>
   have ih':=ih (kd:=qs) (k:=k+1) (fun j r hr hl=>by
    have e:k+1+j=k+(j+1):=by omega
    rw [e] at hl
    exact h (j+1) r (by simpa using hr) hl)
   rw [pa,pa]
   simp only [if_true]
   by_cases hx:∃ d,o.dst=some d∧x = .tmp d
   ·obtain ⟨d,hd,rfl⟩:=hx
    cases hk:lst k
    ·exact absurd rfl (h 0 o rfl hk d hd)
    ·simp only [if_true]
     rw [hd]
     have hsz:∀ (lst':Nat→Bool) (k':Nat) (os':List Oper) (qs':List Kd),(pa a0 vc β lst' k' os' qs').tmps.size=a0.tmps.size:=by
      intro lst' k' os'
      induction os' generalizing k' with
      | nil=>intro qs'; simp [pa]
      | cons o' os' ih2 =>
       intro qs'
       cases qs' with
       | nil=>simp [pa]
       | cons q' qs' =>
        rw [pa]
        split
        ·cases o'.dst <;> simp [Act.put,ih2]
        ·exact ih2 _ _
     simp only [Act.eval,Act.put,Array.getD_eq_getD_getElem?]
     rcases Nat.lt_or_ge d a0.tmps.size with hd' | hd'
     ·rw [Array.getElem?_setIfInBounds_self_of_lt (by rw [hsz]; exact hd'),Array.getElem?_setIfInBounds_self_of_lt (by rw [hsz]; exact hd')]
     ·rw [Array.getElem?_eq_none (by simp [hsz]; omega),Array.getElem?_eq_none (by simp [hsz]; omega)]
   ·have hne:∀ d,o.dst=some d→x ≠ .tmp d:=fun d hd e=>hx ⟨d,hd,e⟩
    rw [Act.eval_put hne]
    split
    ·rw [Act.eval_put hne]; exact ih'
    ·exact ih'
theorem Zvs {a0:Act} {vc:Value} {β:Nat→Nat} {lst:Nat→Bool}:∀ {ops:List Oper} {kd:List Kd} {k i:Nat} {o:Oper} {q:Kd},ops[i]?=some o→kd[i]?=some q→lst (k+i)=false →
  (∀ j p d,ops[j]?=some p→p.dst=some d→j=i∨o.dst≠some d)→pa a0 vc β (fun j=>lst j || j == k+i) k ops kd=(pa a0 vc β lst k ops kd).put o.dst (q.val vc β (k+i)):=by
 intro ops
 induction ops with
 | nil=>intro kd k i o q h; simp at h
 | cons p os ih =>
  intro kd k i o q ho hq hl hd
  cases kd with
  | nil=>simp at hq
  | cons r qs =>
   cases i with
   | zero =>
    simp at ho hq
    subst ho hq
    simp only [Nat.add_zero] at hl ⊢
    rw [pa,pa]
    simp only [hl,Bool.false_or,BEq.rfl,if_true,Bool.false_eq_true,if_false]
    congr 1
    refine Zei (fun j s hs=>⟨?_,fun _=>rfl⟩)
    have:(k+1+j == k)=false:=by rw [Qu]; omega
    simp [this]
   | succ i =>
    have e:k+(i+1)=k+1+i:=by omega
    have ih':=ih (kd:=qs) (k:=k+1) (i:=i) (o:=o) (q:=q) (by simpa using ho) (by simpa using hq) (by rw [← e]; exact hl) (fun j p' d hp hd'=>by
     rcases hd (j+1) p' d (by simpa using hp) hd' with h | h
     ·exact Or.inl (by omega)
     ·exact Or.inr h)
    rw [e]
    rw [pa,pa,ih']
    have hk:(k == k+1+i)=false:=by rw [Qu]; omega
    simp only [hk,Bool.or_false]
    split
    ·refine Act.put_comm _ _ _ (fun d hd' e' => ?_)
     rcases hd 0 p d rfl e' with h | h
     ·omega
     ·exact h hd'
    ·rfl
def Ob (P:Program) (kd:List Kd) (w0:World) (FA:Value→(Nat→Nat)→Act) (R:(Nat→Prop)→Value→World→Prop) (f:FuncId) (args:Array Value) (o:Oper):Kd→Prop
 | .pur c=>∀ vc β w,Ext w0 w→(execOp (FA vc β).eval o).run P w = .ok (.value c) w
 | .post g=>∀ vc β X w,R X vc w→(execOp (FA vc β).eval o).run P w = .ok (.value (g vc)) w
 | .cal=>∀ vc β w,(execOp (FA vc β).eval o).run P w = .ok (.enter f args) w
 | .alo t z _ _=>∀ vc β w,(execOp (FA vc β).eval o).run P w = .ok (.value (.pointer (some ⟨w.heap.size,0,none⟩))) (w.alloc (.cells z t))
 | .sto i=>∀ vc β X w t z s cs,kd[i]?=some (.alo t z s cs)→R X vc w→w.heap[β i]?=some (.cells z t (0,0)) →
   ∃ w',(execOp (FA vc β).eval o).run P w = .ok .skip w'∧w'.heap[β i]?=some (.cells (cs vc) t (0,0))∧Kept (fun k=>k=β i) w w'
def AllOb (P:Program) (kd:List Kd) (w0:World) (FA:Value→(Nat→Nat)→Act) (R:(Nat→Prop)→Value→World→Prop) (f:FuncId) (args:Array Value):List Oper→List Kd→Prop
 | o::os,q::qs=>Ob P kd w0 FA R f args o q∧AllOb P kd w0 FA R f args os qs
 | _,_=>True
theorem AllOb.at {P:Program} {kd:List Kd} {w0:World} {FA:Value→(Nat→Nat)→Act} {R:(Nat→Prop)→Value→World→Prop} {f:FuncId} {args:Array Value}:∀ {ops:List Oper} {ks:List Kd},AllOb P kd w0 FA R f args ops ks →
  ∀ {i:Nat} {o:Oper} {q:Kd},ops[i]?=some o→ks[i]?=some q→Ob P kd w0 FA R f args o q:=by
 intro ops
 induction ops with
 | nil=>intro ks _ i o q h; simp at h
 | cons p os ih =>
  intro ks h i o q ho hq
  cases ks with
  | nil=>simp at hq
  | cons r qs =>
   cases i with
   | zero=>simp at ho hq; subst ho hq; exact h.1
   | succ i=>exact ih h.2 (by simpa using ho) (by simpa using hq)
def Zim (kd:List Kd) (β:Nat→Nat) (lst:Nat→Bool):Nat→Prop:=fun k=>∃ i t z s cs,kd[i]?=some (.alo t z s cs)∧lst i=true∧k=β i
structure Plan (P:Program) (ops:List Oper) (kd:List Kd) (ic:Nat) (a0:Act) (w0:World) (R:(Nat→Prop)→Value→World→Prop) (L:Array Bool) (a:Act) (w:World):Prop where
 size:L.size=ops.length
 ext:Ext w0 w
 st:∃ vc β,a=pa a0 vc β (fun j=>L.getD j false) 0 ops kd∧(L.getD ic false=true→R (Zim kd β (fun j=>L.getD j false)) vc w) ∧
  (∀ (i:Nat) q,kd[i]?=some q→L.getD i false=true→Zcs q=true→L.getD ic false=true) ∧
  (∀ (i:Nat) t z s cs,kd[i]?=some (.alo t z s cs)→L.getD i false=true→w0.heap.size≤β i∧w.heap[β i]?=some (.cells (if L.getD s false then cs vc else z) t (0,0))) ∧
  (∀ (i j:Nat) t z s cs t' z' s' cs',kd[i]?=some (.alo t z s cs)→kd[j]?=some (.alo t' z' s' cs')→L.getD i false=true→L.getD j false=true→i≠j→β i≠β j) ∧
  (∀ (i k:Nat),kd[i]?=some (.sto k)→L.getD i false=true→L.getD k false=true)
theorem Zhb {L:Array Bool} {i:Nat} (hi:i<L.size) (j:Nat):(L.setIfInBounds i true).getD j false=(L.getD j false || j == i):=by
 by_cases e:i=j
 ·subst e; simp [hi]
 ·rw [getD_set_ne false e]
  have:(j == i)=false:=by rw [Qu]; omega
  simp [this]
structure FitsAt (ops:List Oper) (kd:List Kd) (ic i:Nat) (o:Oper) (q:Kd):Prop where
 gd:o.guard=none
 sel:∀ cs b,o.op ≠ .select cs b
 low:∀ e ∈ o.after,Region.binds .any e=true→e.on<i
 dst:∀ j p d,ops[j]?=some p→p.dst=some d→j=i∨o.dst≠some d
 look:∀ j p d,ops[j]?=some p→p.dst=some d→d ∈ o.looksAt ops.toArray→Zcy o j=true
 cal:q = .cal→i=ic
 post:Zcs q=true→∃ j r,Zcy o j=true∧kd[j]?=some r∧Zdb r=true
 alo:∀ t z s cs,q = .alo t z s cs→kd[s]?=some (.sto i)
 sto:∀ k,q = .sto k→o.dst=none∧Zcy o k=true∧∃ t z cs,kd[k]?=some (.alo t z i cs)
theorem Zpv {ops:List Oper} {kd:List Kd} {ic:Nat} (h:Zil ops kd ic=true) {i:Nat} {o:Oper} (ho:ops[i]?=some o):∃ q,kd[i]?=some q∧FitsAt ops kd ic i o q:=by
 unfold Zil at h
 simp only [Bool.and_eq_true,List.all_eq_true,List.mem_range,beq_iff_eq] at h
 obtain ⟨hl,h⟩:=h
 have hi:=(Qa.1 ho).1
 have h:=h i hi
 rw [ho] at h
 cases hq:kd[i]? with
 | none=>rw [hq] at h; simp at h
 | some q =>
  rw [hq] at h
  simp only [Bool.and_eq_true,List.all_eq_true,List.mem_range] at h
  obtain ⟨⟨⟨⟨h1,h2⟩,h3⟩,h4⟩,h5⟩:=h
  refine ⟨q,rfl,?_,?_,?_,?_,?_,?_,?_,?_,?_⟩
  ·simpa using h1
  ·intro cs b e; rw [e] at h2; simp at h2
  ·intro e he hb
   have:=Array.all_eq_true_iff_forall_mem.1 h3 e he
   simpa [hb] using this
  ·intro j p d hp hd
   have:=h4 j (Qa.1 hp).1
   rw [hp] at this
   simp only [hd,Bool.and_eq_true,Bool.or_eq_true,beq_iff_eq,bne_iff_ne] at this
   exact this.1
  ·intro j p d hp hd hm
   have:=h4 j (Qa.1 hp).1
   rw [hp] at this
   simp only [hd,Bool.and_eq_true,Bool.or_eq_true,beq_iff_eq,bne_iff_ne] at this
   rcases this.2 with h | h
   ·simp [hm] at h
   ·exact h
  ·intro e; subst e; simpa using h5
  ·intro hp
   cases q with
   | post g =>
    simp only [List.any_eq_true,List.mem_range,Bool.and_eq_true] at h5
    obtain ⟨j,_,h6,h7⟩:=h5
    cases hr:kd[j]? with
    | none=>rw [hr] at h7; simp at h7
    | some r=>rw [hr] at h7; exact ⟨j,r,h6,hr,h7⟩
   | sto k =>
    simp only [List.any_eq_true,List.mem_range,Bool.and_eq_true] at h5
    obtain ⟨⟨_,j,_,h6,h7⟩,_⟩:=h5
    cases hr:kd[j]? with
    | none=>rw [hr] at h7; simp at h7
    | some r=>rw [hr] at h7; exact ⟨j,r,h6,hr,h7⟩
   | _=>simp [Zcs] at hp
  ·intro t z s cs e
   subst e
   simp only at h5
   split at h5
   ·rename_i k hk; simp at h5; subst h5; exact hk
   ·simp at h5
  ·intro k e
   subst e
   simp only [List.any_eq_true,List.mem_range,Bool.and_eq_true] at h5
   obtain ⟨⟨⟨h6,h7⟩,_⟩,h8⟩:=h5
   refine ⟨by simpa using h6,h7,?_⟩
   split at h8
   ·rename_i t z s cs hk; simp at h8; subst h8; exact ⟨t,z,cs,hk⟩
   ·simp at h8
theorem Zbu {ops:List Oper} {L:Array Bool} {i j:Nat} {o:Oper} (hr:i ∈ Region.ready .any ops.toArray L) (ho:ops[i]?=some o) (hw:Zcy o j=true):L.getD j false=true:=by
 obtain ⟨_,o',ho',h⟩:=mem_ready.1 hr
 have:o'=o:=by simpa [ho] using ho'.symm
 subst this
 obtain ⟨e,he,hb⟩:=Array.any_eq_true'.1 hw
 simp only [Bool.and_eq_true,beq_iff_eq] at hb
 rw [← hb.2]
 exact h e he hb.1
theorem Zxw {ops:List Oper} {kd:List Kd} {ic:Nat} (hfit:Zil ops kd ic=true) {L:Array Bool} (hs:L.size=ops.length) (hr:Region.ready .any ops.toArray L=[]):∀ i,i<ops.length→L.getD i false=true:=by
 intro i
 induction i using Nat.strongRecOn with
 | _ i ih =>
  intro hi
  cases hl:L.getD i false with
  | true=>rfl
  | false =>
   exfalso
   have ho:ops[i]?=some ops[i]:=Qb hi
   obtain ⟨q,hq,hF⟩:=Zpv hfit ho
   have:i ∈ Region.ready .any ops.toArray L:=by
    refine mem_ready.2 ⟨?_,ops[i],by simp,fun e he hb=>ih e.on (hF.low e he hb) (by have:=hF.low e he hb; omega)⟩
    have hi':i<L.size:=by omega
    simp [hi'] at hl ⊢
    exact hl
   rw [hr] at this
   simp at this
theorem Zrw {P:Program} {ops:List Oper} {id:Nat} {Q:Exit→Act→World→Prop} {a0:Act} {w:World} (hm:P.follows .mixedOrders=true) (kd:List Kd) (ic:Nat) (hfit:Zil ops kd ic=true)
  (R:(Nat→Prop)→Value→World→Prop) (f:FuncId) (args:Array Value)
  (hR:∀ X X' v u u',R X v u→(∀ k,k<u.heap.size→¬ X k→u'.heap[k]?=u.heap[k]?)→u.heap.size≤u'.heap.size→(∀ k,k<u.heap.size→X' k→X k)→R X' v u')
  (hC:∀ X u,Ext w.drew u→(∀ k,X k→w.heap.size≤k∧k<u.heap.size∧∃ (i:Nat) (t:TypeId) (z:Array Value) (s:Nat) (cs:Value→Array Value) (cl:Array Value),kd[i]?=some (.alo t z s cs)∧u.heap[k]?=some (.cells cl t (0,0)))→Calls P f args u (fun e u'=>∃ v,e = .returned v∧Ext u u'∧R X v u'))
  (hob:AllOb P kd w.drew (paAll a0 ops kd) R f args ops kd)
  (hcal:kd[ic]?=some .cal) (hil:ic<ops.length)
  (hQ:∀ vc β u,Ext w.drew u→R (Zim kd β (fun _=>true)) vc u→(∀ (i:Nat) t z s cs,kd[i]?=some (.alo t z s cs)→w.heap.size≤β i∧u.heap[β i]?=some (.cells (cs vc) t (0,0))) →
   (∀ (i j:Nat) t z s cs t' z' s' cs',kd[i]?=some (.alo t z s cs)→kd[j]?=some (.alo t' z' s' cs')→i≠j→β i≠β j)→Q .normal (paAll a0 ops kd vc β) u) :
  (Code.region id ops.toArray true).wp P Q a0 w:=by
 have hlen:ops.length=kd.length:=by
  unfold Zil at hfit
  simp only [Bool.and_eq_true,beq_iff_eq] at hfit
  exact hfit.1
 refine wp_region_any hm (Zjx (J:=Plan P ops kd ic a0 w.drew R) ?_ ?_ _ _ _ _ ?_ ?_)
 ·intro L a u i hr hJ
  obtain ⟨hsz,hext,vc,β,rfl,hcR,hpost,hbox,hdist,hsto⟩:=hJ
  obtain ⟨h0,o,ho',_⟩:=mem_ready.1 hr
  have ho:ops[i]?=some o:=by simpa using ho'
  have hi:i<ops.length:=(Qa.1 ho).1
  have hil:i<L.size:=by omega
  have hun:L.getD i false=false:=by simp [hil] at h0 ⊢; exact h0
  obtain ⟨q,hq,hF⟩:=Zpv hfit ho
  have hOb:=hob.at ho hq
  have hexec:execOp (pa a0 vc β (fun j=>L.getD j false) 0 ops kd).eval o=execOp (paAll a0 ops kd vc β).eval o:=by
   refine execOp_congr o hF.sel (fun x hx=>Zpu (fun j p hp hl d hd e => ?_))
   subst e
   have hw:=hF.look j p d hp hd (List.mem_append_left _ (List.mem_filterMap.2 ⟨.tmp d,by simpa using hx,rfl⟩))
   have:=Zbu hr ho hw
   simp only [Nat.zero_add] at hl
   rw [hl] at this
   simp at this
  have hwant:Region.wanted o (yielded ops.toArray (pa a0 vc β (fun j=>L.getD j false) 0 ops kd).tmps)=true:=by simp [Region.wanted,hF.gd]
  have hL:=Zhb hil
  have hput:∀ vc' β',(∀ j r,kd[j]?=some r→L.getD j false=true→r.val vc β j=r.val vc' β' j) →
    (pa a0 vc β (fun j=>L.getD j false) 0 ops kd).put o.dst (q.val vc' β' i)=pa a0 vc' β' (fun j=>(L.setIfInBounds i true).getD j false) 0 ops kd:=by
   intro vc' β' hv
   have e1:pa a0 vc β (fun j=>L.getD j false) 0 ops kd=pa a0 vc' β' (fun j=>L.getD j false) 0 ops kd:=Zei (fun j r hr'=>by
    simp only [Nat.zero_add]
    exact ⟨trivial,fun hl=>hv j r hr' hl⟩)
   rw [e1]
   have e2:=Zvs (a0:=a0) (vc:=vc') (β:=β') (lst:=fun j=>L.getD j false) (k:=0) ho hq (by simpa using hun) hF.dst
   simp only [Nat.zero_add] at e2
   rw [← e2]
   exact Zei (fun j r hr'=>⟨by simp only [Nat.zero_add,hL],fun _=>rfl⟩)
  have hicn:∀ r,kd[ic]?=some r→r = .cal:=fun r h=>by rw [hcal] at h; exact (Option.some.inj h).symm
  have hold:∀ j,L.getD j false=true→(L.setIfInBounds i true).getD j false=true:=fun j h=>by rw [hL,h]; rfl
  have hnew:∀ j,j≠i→(L.setIfInBounds i true).getD j false=L.getD j false:=fun j h=>by
   rw [hL]
   have:(j == i)=false:=by rw [Qu]; exact h
   simp [this]
  unfold wpOp
  simp only [ho']
  rw [if_pos hwant]
  refine Or.inl ?_
  unfold Oper.wp
  rw [hexec]
  have hpl:∀ (i':Nat) q',kd[i']?=some q'→(L.setIfInBounds i true).getD i' false=true→Zcs q'=true→i'≠i→(L.setIfInBounds i true).getD ic false=true:=fun i' q' h1 h2 h3 hne =>
   hold _ (hpost i' q' h1 (by rw [hnew i' hne] at h2; exact h2) h3)
  have hkat:∀ {i':Nat} {q':Kd},kd[i']?=some q'→∃ o',FitsAt ops kd ic i' o' q':=fun {i' q'} h1=>by
   obtain ⟨q2,hq2,hF2⟩:=Zpv hfit (Qb (l:=ops) (i:=i') (by have:=(Qa.1 h1).1; omega))
   rw [h1] at hq2; simp at hq2; subst hq2
   exact ⟨_,hF2⟩
  have hne:∀ {i':Nat} {q':Kd},kd[i']?=some q'→q'≠q→i'≠i:=fun {i' q'} h1 h2 e=>by
   subst e; rw [hq] at h1; exact h2 (Option.some.inj h1).symm
  have hvars:(∀ t z s cs,q ≠ .alo t z s cs)→∀ k,Zim kd β (fun j=>(L.setIfInBounds i true).getD j false) k→Zim kd β (fun j=>L.getD j false) k:=by
   rintro hna k ⟨i',t,z,s,cs,h1,h2,rfl⟩
   have:i'≠i:=hne h1 (fun e=>hna t z s cs e.symm)
   exact ⟨i',t,z,s,cs,h1,(hnew i' this).symm.trans h2,rfl⟩
  have hdist':(∀ t z s cs,q ≠ .alo t z s cs)→∀ (i' j':Nat) t z s cs t' z' s' cs',kd[i']?=some (.alo t z s cs)→kd[j']?=some (.alo t' z' s' cs')→(L.setIfInBounds i true).getD i' false=true→(L.setIfInBounds i true).getD j' false=true→i'≠j'→β i'≠β j':=by
   intro hna i' j' t z s cs t' z' s' cs' h1 h2 h3 h4
   rw [hnew i' (hne h1 (fun e=>hna _ _ _ _ e.symm))] at h3
   rw [hnew j' (hne h2 (fun e=>hna _ _ _ _ e.symm))] at h4
   exact hdist i' j' t z s cs t' z' s' cs' h1 h2 h3 h4
  have hbox':(∀ t z s cs,q ≠ .alo t z s cs)→(∀ k,q ≠ .sto k)→∀ (i':Nat) t z s cs,kd[i']?=some (.alo t z s cs)→(L.setIfInBounds i true).getD i' false=true→w.drew.heap.size≤β i'∧u.heap[β i']?=some (.cells (if (L.setIfInBounds i true).getD s false then cs vc else z) t (0,0)):=by
   intro hna hns i' t z s cs h1 h2
   obtain ⟨o',hF'⟩:=hkat h1
   have hs:s≠i:=hne (hF'.alo t z s cs rfl) (fun e=>hns _ e.symm)
   rw [hnew s hs]
   exact hbox i' t z s cs h1 ((hnew i' (hne h1 (fun e=>hna _ _ _ _ e.symm))).symm.trans h2)
  have hsto':(∀ k,q ≠ .sto k)→∀ (i' k:Nat),kd[i']?=some (.sto k)→(L.setIfInBounds i true).getD i' false=true→(L.setIfInBounds i true).getD k false=true:=fun hns i' k h1 h2 =>
   hold _ (hsto i' k h1 ((hnew i' (hne h1 (fun e=>hns _ e.symm))).symm.trans h2))
  have hpost':Zcs q=false→∀ (i':Nat) q',kd[i']?=some q'→(L.setIfInBounds i true).getD i' false=true→Zcs q'=true→(L.setIfInBounds i true).getD ic false=true:=fun hp i' q' h1 h2 h3 =>
   hpl i' q' h1 h2 h3 (hne h1 (fun e=>by rw [e,hp] at h3; simp at h3))
  have hcl:Zcs q=true→L.getD ic false=true:=fun hp=>by
   obtain ⟨j,r,h1,h2,h3⟩:=hF.post hp
   have hj:=Zbu hr ho h1
   cases r with
   | post g=>exact hpost j _ h2 hj rfl
   | cal =>
    obtain ⟨o',hF'⟩:=hkat h2
    have:=hF'.cal rfl
    rw [← this]; exact hj
   | _=>simp [Zdb] at h3
  cases q with
  | pur c =>
   rw [hOb vc β u hext]
   have hic:ic≠i:=hne hcal (by simp)
   refine ⟨by simpa using hsz,hext,vc,β,hput vc β (fun _ _ _ _=>rfl),?_,hpost' rfl,hbox' (by simp) (by simp),hdist' (by simp),hsto' (by simp)⟩
   intro h
   rw [hnew ic hic] at h
   exact hR _ _ vc u u (hcR h) (fun _ _ _=>rfl) (Qe _) (fun k _=>hvars (by simp) k)
  | post g =>
   have hic:=hcl rfl
   rw [hOb vc β _ u (hcR hic)]
   refine ⟨by simpa using hsz,hext,vc,β,hput vc β (fun _ _ _ _=>rfl),?_,fun i' q' _ _ _=>hold _ hic,hbox' (by simp) (by simp),hdist' (by simp),hsto' (by simp)⟩
   intro h
   exact hR _ _ vc u u (hcR hic) (fun _ _ _=>rfl) (Qe _) (fun k _=>hvars (by simp) k)
  | cal =>
   have hie:=hF.cal rfl
   rw [hOb vc β u]
   refine (hC (Zim kd β (fun j=>L.getD j false)) u hext ?_).mono ?_
   ·rintro k ⟨i',t,z,s,cs,h1,h2,rfl⟩
    have:=hbox i' t z s cs h1 h2
    exact ⟨this.1,(Array.getElem?_eq_some_iff.1 this.2).1,i',t,z,s,cs,_,h1,this.2⟩
   ·rintro e u' ⟨v,rfl,he,hr'⟩
    refine ⟨by simpa using hsz,hext.trans (he.mono hext.size),v,β,hput v β ?_,?_,?_,?_,hdist' (by simp),hsto' (by simp)⟩
    ·intro j r h1 h2
     cases r with
     | post g =>
      have:=hpost j _ h1 h2 rfl
      rw [← hie,hun] at this; simp at this
     | cal =>
      obtain ⟨o',hF'⟩:=hkat h1
      have:=hF'.cal rfl
      rw [this,← hie,hun] at h2; simp at h2
     | _=>rfl
    ·intro _
     exact hR _ _ v u' u' hr' (fun _ _ _=>rfl) (Qe _) (fun k _=>hvars (by simp) k)
    ·intro i' q' _ _ _
     rw [← hie,hL]; simp
    ·intro i' t z s cs h1 h2
     have hi':=hne h1 (by simp)
     have hb:=hbox i' t z s cs h1 ((hnew i' hi').symm.trans h2)
     refine ⟨hb.1,(he.block _ (Array.getElem?_eq_some_iff.1 hb.2).1).trans ?_⟩
     obtain ⟨o',hF'⟩:=hkat h1
     have hks:=hF'.alo t z s cs rfl
     have hs:s≠i:=hne hks (by simp)
     have hsl:L.getD s false=false:=by
      cases hsl:L.getD s false with
      | false=>rfl
      | true =>
       have:=hpost s _ hks hsl rfl
       rw [← hie,hun] at this; simp at this
     rw [hnew s hs,hsl]
     rw [hsl] at hb
     exact hb.2
  | alo t z s cs =>
   have hic:ic≠i:=hne hcal (by simp)
   rw [hOb vc β u]
   have hkat':=hF.alo t z s cs rfl
   have hs:s≠i:=hne hkat' (by simp)
   have hsl:L.getD s false=false:=by
    cases hsl:L.getD s false with
    | false=>rfl
    | true =>
     have:=hsto s i hkat' hsl
     rw [hun] at this; simp at this
   have hβ:∀ j,j≠i→(fun j=>if j=i then u.heap.size else β j) j=β j:=fun j h=>by simp [h]
   have hβi:(fun j=>if j=i then u.heap.size else β j) i=u.heap.size:=by simp
   have hp:=hput vc (fun j=>if j=i then u.heap.size else β j) (fun j r h1 h2=>by
    have hj:j≠i:=fun e=>by rw [e,hun] at h2; simp at h2
    cases r with
    | alo=>simp only [Kd.val]; rw [if_neg hj]
    | _=>rfl)
   simp only [Kd.val,if_true] at hp
   have hlt:∀ (i':Nat) t z s cs,kd[i']?=some (.alo t z s cs)→L.getD i' false=true→β i'<u.heap.size:=fun i' t z s cs h1 h2=>(Array.getElem?_eq_some_iff.1 (hbox i' t z s cs h1 h2).2).1
   refine ⟨by simpa using hsz,hext.alloc hext.size _,vc,(fun j=>if j=i then u.heap.size else β j),hp,?_,?_,?_,?_,hsto' (by simp)⟩
   ·intro h
    rw [hnew ic hic] at h
    refine hR _ _ vc u _ (hcR h) (fun k hk _=>Below.heap_alloc _ _ _ hk) (by simp) ?_
    rintro k hk ⟨i',t,z,s,cs,h1,h2,rfl⟩
    by_cases e:i'=i
    ·subst e; simp at hk
    ·rw [hβ i' e]
     exact ⟨i',t,z,s,cs,h1,(hnew i' e).symm.trans h2,rfl⟩
   ·exact hpost' rfl
   ·intro i' t' z' s' cs' h1 h2
    by_cases e:i'=i
    ·subst e
     rw [hq] at h1
     simp only [Qo,Kd.alo.injEq] at h1
     obtain ⟨rfl,rfl,rfl,rfl⟩:=h1
     rw [hβi,hnew s hs,hsl]
     exact ⟨hext.size,heap_alloc_new u _⟩
    ·rw [hβ i' e]
     have hl':=(hnew i' e).symm.trans h2
     have hb:=hbox i' t' z' s' cs' h1 hl'
     have hs':s'≠i:=by
      obtain ⟨o',hF'⟩:=hkat h1
      exact hne (hF'.alo t' z' s' cs' rfl) (by simp)
     rw [hnew s' hs']
     exact ⟨hb.1,(Below.heap_alloc _ _ _ (hlt i' t' z' s' cs' h1 hl')).trans hb.2⟩
   ·intro i' j' t' z' s' cs' t'' z'' s'' cs'' h1 h2 h3 h4 hij
    by_cases e:i'=i
    ·have e':j'≠i:=fun h=>hij (e.trans h.symm)
     rw [e,hβi,hβ j' e']
     have:=hlt j' _ _ _ _ h2 ((hnew j' e').symm.trans h4)
     omega
    ·rw [hβ i' e]
     by_cases e':j'=i
     ·rw [e',hβi]
      have:=hlt i' _ _ _ _ h1 ((hnew i' e).symm.trans h3)
      omega
     ·rw [hβ j' e']
      exact hdist i' j' _ _ _ _ _ _ _ _ h1 h2 ((hnew i' e).symm.trans h3) ((hnew j' e').symm.trans h4) hij
  | sto k =>
   have hic:=hcl rfl
   obtain ⟨hdn,hwk,t,z,cs,hkk⟩:=hF.sto k rfl
   have hkl:=Zbu hr ho hwk
   have hbk:=hbox k t z i cs hkk hkl
   rw [hun] at hbk
   obtain ⟨w',hrun,hnewb,hkept⟩:=hOb vc β _ u t z i cs hkk (hcR hic) hbk.2
   rw [hrun]
   have hki:k≠i:=hne hkk (by simp)
   refine ⟨by simpa using hsz,hext.trans (hkept.below hext.size (fun j e=>by rw [e]; exact hbk.1)),vc,β,hput vc β (fun _ _ _ _=>rfl),?_,fun i' q' _ _ _=>hold _ hic,?_,hdist' (by simp),?_⟩
   ·intro _
    refine hR _ _ vc u w' (hcR hic) (fun j hj hn=>hkept.block j hj (fun e=>hn ⟨k,t,z,i,cs,hkk,hkl,e⟩)) hkept.size (fun j _=>hvars (by simp) j)
   ·intro i' t' z' s' cs' h1 h2
    have e:i'≠i:=hne h1 (by simp)
    have hl':=(hnew i' e).symm.trans h2
    by_cases ek:i'=k
    ·subst ek
     rw [hkk] at h1
     simp only [Qo,Kd.alo.injEq] at h1
     obtain ⟨rfl,rfl,rfl,rfl⟩:=h1
     rw [hL]
     simp only [BEq.rfl,Bool.or_true,if_true]
     exact ⟨hbk.1,hnewb⟩
    ·have hb:=hbox i' t' z' s' cs' h1 hl'
     have hs':s'≠i:=fun e'=>by
      obtain ⟨o',hF'⟩:=hkat h1
      have:=hF'.alo t' z' s' cs' rfl
      rw [e',hq] at this
      simp at this
      exact ek this.symm
     rw [hnew s' hs']
     exact ⟨hb.1,(hkept.block _ (Array.getElem?_eq_some_iff.1 hb.2).1 (hdist i' k _ _ _ _ _ _ _ _ h1 hkk hl' hkl ek)).trans hb.2⟩
   ·intro i' k' h1 h2
    by_cases e:i'=i
    ·subst e
     rw [hq] at h1
     simp at h1
     subst h1
     exact hold _ hkl
    ·exact hold _ (hsto i' k' h1 ((hnew i' e).symm.trans h2))
 ·intro L a u hr hJ
  obtain ⟨hsz,hext,vc,β,rfl,hcR,hpost,hbox,hdist,hsto⟩:=hJ
  have hall:=Zxw hfit hsz hr
  have e:pa a0 vc β (fun j=>L.getD j false) 0 ops kd=paAll a0 ops kd vc β:=Zei (fun j r hr'=>⟨by
   simp only [Nat.zero_add]
   exact hall j (by have:=(Qa.1 hr').1; omega),fun _=>rfl⟩)
  rw [e]
  have hk:∀ (i:Nat) t z s cs,kd[i]?=some (.alo t z s cs)→L.getD i false=true∧L.getD s false=true:=fun i t z s cs h=>by
   have hi:=(Qa.1 h).1
   obtain ⟨q2,hq2,hF2⟩:=Zpv hfit (Qb (l:=ops) (i:=i) (by omega))
   rw [h] at hq2; simp at hq2; subst hq2
   have:=(Qa.1 (hF2.alo t z s cs rfl)).1
   exact ⟨hall i (by omega),hall s (by omega)⟩
  refine hQ vc β u hext ?_ ?_ ?_
  ·refine hR _ _ vc u u (hcR (hall ic hil)) (fun _ _ _=>rfl) (Qe _) ?_
   rintro k _ ⟨i',t,z,s,cs,h1,h2,rfl⟩
   exact ⟨i',t,z,s,cs,h1,(hk i' t z s cs h1).1,rfl⟩
  ·intro i t z s cs h
   have:=hbox i t z s cs h (hk i t z s cs h).1
   rw [(hk i t z s cs h).2] at this
   exact this
  ·intro i j t z s cs t' z' s' cs' h1 h2
   exact hdist i j t z s cs t' z' s' cs' h1 h2 (hk i t z s cs h1).1 (hk j t' z' s' cs' h2).1
 ·have:(ops.toArray).size=ops.length:=by simp
  unfold unl
  exact Qq (List.length_filter_le _ _) (by simp)
 ·have hz:∀ j,(Array.replicate ops.toArray.size false).getD j false=false:=fun j=>by
   simp only [Array.getD_eq_getD_getElem?,Array.getElem?_replicate]
   split <;> rfl
  refine ⟨by simp,Below.refl _ _,undef,fun _=>0,?_,?_,?_,?_,?_,?_⟩
  ·have:∀ (k:Nat) (os:List Oper) (qs:List Kd),pa a0 undef (fun _=>0) (fun j=>(Array.replicate ops.toArray.size false).getD j false) k os qs=a0:=by
    intro k os
    induction os generalizing k with
    | nil=>intro qs; simp [pa]
    | cons o os ih =>
     intro qs
     cases qs with
     | nil=>simp [pa]
     | cons q qs=>rw [pa,hz]; simp only [Bool.false_eq_true,if_false]; exact ih _ _
   exact (this _ _ _).symm
  ·intro h; rw [hz] at h; simp at h
  ·intro i q _ h; rw [hz] at h; simp at h
  ·intro i t z s cs _ h; rw [hz] at h; simp at h
  ·intro i j t z s cs t' z' s' cs' _ _ h; rw [hz] at h; simp at h
  ·intro i k _ h; rw [hz] at h; simp at h
theorem Zhc {P:Program} {ops:List Oper} {id:Nat} {Q:Exit→Act→World→Prop} {a0:Act} {w:World} (hm:P.follows .mixedOrders=true) (kd:List Kd) (ic:Nat) (hfit:Zil ops kd ic=true)
  (R:(Nat→Prop)→Value→World→Prop) (f:FuncId) (args:Array Value)
  (hR:∀ X X' v u u',R X v u→(∀ k,k<u.heap.size→¬ X k→u'.heap[k]?=u.heap[k]?)→u.heap.size≤u'.heap.size→(∀ k,k<u.heap.size→X' k→X k)→R X' v u')
  (hC:∀ X u,Ext w.drew u→(∀ k,X k→w.heap.size≤k∧k<u.heap.size)→Calls P f args u (fun e u'=>∃ v,e = .returned v∧Ext u u'∧R X v u'))
  (hob:AllOb P kd w.drew (paAll a0 ops kd) R f args ops kd)
  (hcal:kd[ic]?=some .cal) (hil:ic<ops.length)
  (hQ:∀ vc β u,Ext w.drew u→R (Zim kd β (fun _=>true)) vc u→(∀ (i:Nat) t z s cs,kd[i]?=some (.alo t z s cs)→w.heap.size≤β i∧u.heap[β i]?=some (.cells (cs vc) t (0,0))) →
   (∀ (i j:Nat) t z s cs t' z' s' cs',kd[i]?=some (.alo t z s cs)→kd[j]?=some (.alo t' z' s' cs')→i≠j→β i≠β j)→Q .normal (paAll a0 ops kd vc β) u) :
  (Code.region id ops.toArray true).wp P Q a0 w :=
 Zrw hm kd ic hfit R f args hR (fun X u hu hX=>hC X u hu (fun k hk=>⟨(hX k hk).1,(hX k hk).2.1⟩)) hob hcal hil hQ
def RepX (X:Nat→Prop):Nat→World→Value→Value→Value→List Sym→Prop
 | 0,_,_,_,_,_=>False
 | f+1,w,a,b,c,l =>
  (∃ n:Nat,a = .string ⟨#[]⟩∧b = .int .i64 n∧c = .slice none 0 0∧l=[⟨[],n,0⟩]) ∨
  (∃ (nm:List UInt8) (ls:List (List Sym)) (xs:List Value),nm≠[]∧a = .string ⟨nm.toArray⟩∧b = .int .i64 0∧l=⟨nm,0,ls.length⟩::ls.flatten ∧
   w.ownsRow 0 183 3 c ls.length xs∧(∀ k,c.ownBlock=some k→¬ X k) ∧
   ∀ (i:Nat) (l':List Sym),ls[i]?=some l'→∃ a' b' c',xs[i * 3]?=some a'∧xs[i * 3+1]?=some b'∧xs[i * 3+2]?=some c'∧RepX X f w a' b' c' l')
def Rep (X:Nat→Prop) (w:World) (a b c:Value) (l:List Sym):Prop:=∃ f,RepX X f w a b c l
def RowT (X:Nat→Prop) (w:World) (c:Value) (ls:List (List Sym)) (xs:List Value):Prop :=
 w.ownsRow 0 183 3 c ls.length xs∧(∀ k,c.ownBlock=some k→¬ X k) ∧
   ∀ (i:Nat) (l':List Sym),ls[i]?=some l'→∃ a' b' c',xs[i * 3]?=some a'∧xs[i * 3+1]?=some b'∧xs[i * 3+2]?=some c'∧Rep X w a' b' c' l'
theorem RepX.mono {X:Nat→Prop}:∀ {f g:Nat} {w:World} {a b c:Value} {l:List Sym},RepX X f w a b c l→f≤g→RepX X g w a b c l:=by
 intro f
 induction f with
 | zero=>intro g w a b c l h; exact h.elim
 | succ f ih =>
  intro g w a b c l h hg
  cases g with
  | zero=>omega
  | succ g =>
   rcases h with h | ⟨nm,ls,xs,h1,h2,h3,h4,h5,h6,h7⟩
   ·exact Or.inl h
   ·refine Or.inr ⟨nm,ls,xs,h1,h2,h3,h4,h5,h6,fun i l' hl => ?_⟩
    obtain ⟨a',b',c',g1,g2,g3,g4⟩:=h7 i l' hl
    exact ⟨a',b',c',g1,g2,g3,ih g4 (by omega)⟩
theorem RepX.len {X:Nat→Prop}:∀ {f:Nat} {w:World} {a b c:Value} {l:List Sym},RepX X f w a b c l→RepX X l.length w a b c l:=by
 intro f
 induction f with
 | zero=>intro w a b c l h; exact h.elim
 | succ f ih =>
  intro w a b c l h
  rcases h with ⟨n,h1,h2,h3,rfl⟩ | ⟨nm,ls,xs,h1,h2,h3,rfl,h5,h6,h7⟩
  ·exact Or.inl ⟨n,h1,h2,h3,rfl⟩
  ·refine Or.inr ⟨nm,ls,xs,h1,h2,h3,rfl,h5,h6,fun i l' hl => ?_⟩
   obtain ⟨a',b',c',g1,g2,g3,g4⟩:=h7 i l' hl
   exact ⟨a',b',c',g1,g2,g3,(ih g4).mono (Zbk (Qh hl))⟩
theorem Rep.out {X:Nat→Prop} {w:World} {a b c:Value} {l:List Sym} (h:Rep X w a b c l) :
  (∃ n:Nat,a = .string ⟨#[]⟩∧b = .int .i64 n∧c = .slice none 0 0∧l=[⟨[],n,0⟩]) ∨
  (∃ (nm:List UInt8) (ls:List (List Sym)) (xs:List Value),nm≠[]∧a = .string ⟨nm.toArray⟩∧b = .int .i64 0∧l=⟨nm,0,ls.length⟩::ls.flatten∧RowT X w c ls xs):=by
 obtain ⟨f,h⟩:=h
 cases f with
 | zero=>exact h.elim
 | succ f =>
  rcases h with h | ⟨nm,ls,xs,h1,h2,h3,h4,h5,h6,h7⟩
  ·exact Or.inl h
  ·refine Or.inr ⟨nm,ls,xs,h1,h2,h3,h4,h5,h6,fun i l' hl => ?_⟩
   obtain ⟨a',b',c',g1,g2,g3,g4⟩:=h7 i l' hl
   exact ⟨a',b',c',g1,g2,g3,f,g4⟩
theorem Rep.var (X:Nat→Prop) (w:World) (n:Nat):Rep X w (.string ⟨#[]⟩) (.int .i64 n) (.slice none 0 0) (vr n):=⟨1,Or.inl ⟨n,rfl,rfl,rfl,rfl⟩⟩
theorem Rep.name {X:Nat→Prop} {w:World} {nm:List UInt8} {c:Value} {ls:List (List Sym)} {xs:List Value} (hn:nm≠[]) (h:RowT X w c ls xs):Rep X w (.string ⟨nm.toArray⟩) (.int .i64 0) c (⟨nm,0,ls.length⟩::ls.flatten):=by
 refine ⟨ls.flatten.length+1,Or.inr ⟨nm,ls,xs,hn,rfl,rfl,rfl,h.1,h.2.1,fun i l' hl => ?_⟩⟩
 obtain ⟨a',b',c',g1,g2,g3,f,g4⟩:=h.2.2 i l' hl
 exact ⟨a',b',c',g1,g2,g3,g4.len.mono (Zbk (Qh hl))⟩
theorem RepX.on {X Y:Nat→Prop}:∀ {f:Nat} {w w':World} {a b c:Value} {l:List Sym},RepX X f w a b c l→(∀ k,k<w.heap.size→¬ X k→Zeo w k→w'.heap[k]?=w.heap[k]?∧¬ Y k)→RepX Y f w' a b c l:=by
 intro f
 induction f with
 | zero=>intro w w' a b c l h; exact h.elim
 | succ f ih =>
  intro w w' a b c l h hk
  rcases h with h | ⟨nm,ls,xs,h1,h2,h3,h4,h5,h6,h7⟩
  ·exact Or.inl h
  ·refine Or.inr ⟨nm,ls,xs,h1,h2,h3,h4,Zak h5 (fun k e=>(hk k (h5.lt k e).2 (h6 k e) (Zar h5 k e)).1),fun k e=>(hk k (h5.lt k e).2 (h6 k e) (Zar h5 k e)).2,fun i l' hl => ?_⟩
   obtain ⟨a',b',c',g1,g2,g3,g4⟩:=h7 i l' hl
   exact ⟨a',b',c',g1,g2,g3,ih g4 hk⟩
theorem Rep.on {X Y:Nat→Prop} {w w':World} {a b c:Value} {l:List Sym} (h:Rep X w a b c l) (hk:∀ k,k<w.heap.size→¬ X k→Zeo w k→w'.heap[k]?=w.heap[k]?∧¬ Y k):Rep Y w' a b c l:=by
 obtain ⟨f,h⟩:=h
 exact ⟨f,h.on hk⟩
theorem RowT.on {X Y:Nat→Prop} {w w':World} {c:Value} {ls:List (List Sym)} {xs:List Value} (h:RowT X w c ls xs) (hk:∀ k,k<w.heap.size→¬ X k→Zeo w k→w'.heap[k]?=w.heap[k]?∧¬ Y k):RowT Y w' c ls xs:=by
 refine ⟨Zak h.1 (fun k e=>(hk k (h.1.lt k e).2 (h.2.1 k e) (Zar h.1 k e)).1),fun k e=>(hk k (h.1.lt k e).2 (h.2.1 k e) (Zar h.1 k e)).2,fun i l' hl => ?_⟩
 obtain ⟨a',b',c',g1,g2,g3,g4⟩:=h.2.2 i l' hl
 exact ⟨a',b',c',g1,g2,g3,g4.on hk⟩
theorem Ext.of {w w':World} (h:Kept Zbf w w'):Ext w w':=h.below (Qe _) (fun _ e=>e.elim)
theorem Rep.ext {X Y:Nat→Prop} {w w':World} {a b c:Value} {l:List Sym} (h:Rep X w a b c l) (e:Ext w w') (hy:∀ k,k<w.heap.size→Y k→X k):Rep Y w' a b c l :=
 h.on (fun k hk hx _=>⟨e.block k hk,fun hy'=>hx (hy k hk hy')⟩)
theorem RowT.ext {X Y:Nat→Prop} {w w':World} {c:Value} {ls:List (List Sym)} {xs:List Value} (h:RowT X w c ls xs) (e:Ext w w') (hy:∀ k,k<w.heap.size→Y k→X k):RowT Y w' c ls xs :=
 h.on (fun k hk hx _=>⟨e.block k hk,fun hy'=>hx (hy k hk hy')⟩)
theorem Rep.shape {X:Nat→Prop} {w:World} {a b c:Value} {l:List Sym} (h:Rep X w a b c l):∃ (s:ByteArray) (n:Nat) (ca:Option Addr) (cl cc:Nat),a = .string s∧b = .int .i64 n∧c = .slice ca cl cc:=by
 rcases h.out with ⟨n,rfl,rfl,rfl,_⟩ | ⟨nm,ls,xs,_,rfl,rfl,_,h5⟩
 ·exact ⟨_,_,_,_,_,rfl,rfl,rfl⟩
 ·obtain ⟨a,cap,rfl⟩:=Zad h5.1
  exact ⟨_,0,_,_,_,rfl,rfl,rfl⟩
theorem Rep.wf {X:Nat→Prop} {w:World}:∀ (n:Nat) {a b c:Value} {l:List Sym},l.length≤n→Rep X w a b c l→Wf 1 l:=by
 intro n
 induction n with
 | zero =>
  intro a b c l hl h
  rcases h.out with ⟨m,_,_,_,rfl⟩ | ⟨nm,ls,xs,_,_,_,rfl,_⟩ <;> simp at hl
 | succ n ih =>
  intro a b c l hl h
  rcases h.out with ⟨m,_,_,_,rfl⟩ | ⟨nm,ls,xs,h1,_,_,rfl,h5⟩
  ·exact Ztf m
  ·refine ⟨by omega,fun e=>absurd e h1,fun _=>rfl,?_⟩
   have:=Zdd (ls:=ls) (fun l' hl'=>by
    obtain ⟨i,hi,rfl⟩:=List.getElem_of_mem hl'
    obtain ⟨a',b',c',_,_,_,g⟩:=h5.2.2 i _ (Qb hi)
    have:=Zbk hl'
    simp only [Qf] at hl
    exact ih (by omega) g)
   simpa using this
theorem RowT.wf {X:Nat→Prop} {w:World} {c:Value} {ls:List (List Sym)} {xs:List Value} (h:RowT X w c ls xs):∀ l ∈ ls,Wf 1 l:=fun l hl=>by
 obtain ⟨i,hi,rfl⟩:=List.getElem_of_mem hl
 obtain ⟨a',b',c',_,_,_,g⟩:=h.2.2 i _ (Qb hi)
 exact g.wf _ (Qe _)
theorem Zjh {ls:List (List Sym)} {i:Nat} {l:List Sym} (h:ls[i]?=some l) (hw:∀ l ∈ ls,Wf 1 l):i<ls.length∧ls.drop i=l::ls.drop (i+1)∧l.length≤ls.flatten.length∧ls.length≤ls.flatten.length:=by
 obtain ⟨hi,e⟩:=Qa.1 h
 refine ⟨hi,by rw [List.drop_eq_getElem_cons hi,e],Zbk (Qh h),?_⟩
 exact Zcp (Zdd hw)
theorem Ext.undrew {w u:World} (h:Ext w.drew u):Ext w u:=⟨h.os,h.tape,h.output,h.size,h.block⟩
theorem Ext.up {w u:World} (h:Ext w.drew u) {p:Addr} {v:Value} (hc:w.cell? p=some v):u.cell? p=some v:=(h.cell (World.block_lt_of_cell? w p hc)).trans hc
def cellsOf:Value→Array Value
 | .agg cs=>cs
 | _=>#[]
theorem Zjy {w:World} {b:Nat} {z0 z1 z2:Value} {t:TypeId} (h:w.heap[b]?=some (.cells #[z0,z1,z2] t (0,0))) (x y z:Value) :
  (((w.setCell ⟨b,0,none⟩ x).setCell ⟨b,1,none⟩ y).setCell ⟨b,2,none⟩ z).heap[b]?=some (.cells #[x,y,z] t (0,0))∧Kept (fun k=>k=b) w (((w.setCell ⟨b,0,none⟩ x).setCell ⟨b,1,none⟩ y).setCell ⟨b,2,none⟩ z) :=
 ⟨Zai (Zai (Zai h 0 x) 1 y) 2 z,(((Qx (only b) w).put 0 x).put 1 y).put 2 z⟩
theorem box3 {w:World} {b:Nat} {u0 u1 u2:Value} {t:TypeId} (h:w.heap[b]?=some (.cells #[u0,u1,u2] t (0,0))) :
  w.cell? ⟨b,0,none⟩=some u0∧w.cell? ⟨b,1,none⟩=some u1∧w.cell? ⟨b,2,none⟩=some u2∧∀ i,w.frozen? ⟨b,i,none⟩=false :=
 ⟨Zab h 0 _ rfl,Zab h 1 _ rfl,Zab h 2 _ rfl,fun i=>Zae h i⟩
def RT (Y:Nat→Prop) (l:List Sym):(Nat→Prop)→Value→World→Prop:=fun Z r u=>∃ (s:ByteArray) (n:Nat) (ca:Option Addr) (cl cc:Nat),r = .agg #[.string s,.int .i64 n,.slice ca cl cc]∧Rep (fun k=>Y k∨Z k) u (.string s) (.int .i64 n) (.slice ca cl cc) l
theorem Rep.plan {Y X X':Nat→Prop} {u u':World} {a b c:Value} {l:List Sym} (h:Rep (fun k=>Y k∨X k) u a b c l) (hs:∀ k,k<u.heap.size→¬ X k→u'.heap[k]?=u.heap[k]?) (hx:∀ k,k<u.heap.size→X' k→X k):Rep (fun k=>Y k∨X' k) u' a b c l :=
 h.on (fun k hk hn _=>⟨hs k hk (fun hz=>hn (Or.inr hz)),fun h=>hn (by
  rcases h with h | h
  ·exact Or.inl h
  ·exact Or.inr (hx k hk h))⟩)
theorem RT.stable {Y:Nat→Prop} {l:List Sym}:∀ X X' v u u',RT Y l X v u→(∀ k,k<u.heap.size→¬ X k→u'.heap[k]?=u.heap[k]?)→u.heap.size≤u'.heap.size→(∀ k,k<u.heap.size→X' k→X k)→RT Y l X' v u':=by
 rintro X X' v u u' ⟨s,n,ca,cl,cc,rfl,h⟩ hs _ hx
 exact ⟨s,n,ca,cl,cc,rfl,h.plan hs hx⟩
theorem RT.of {Y:Nat→Prop} {l:List Sym} {Z:Nat→Prop} {a b c:Value} {u:World} (h:Rep (fun k=>Y k∨Z k) u a b c l):RT Y l Z (.agg #[a,b,c]) u:=by
 obtain ⟨s,n,ca,cl,cc,rfl,rfl,rfl⟩:=h.shape
 exact ⟨s,n,ca,cl,cc,rfl,h⟩
structure Acc (Y:Nat→Prop) (w:World) (B:Nat) (cv:Value) (n:Nat) (acc:List (List Sym)) (xs:List Value):Prop where
 owns:w.ownsRow B 183 3 cv n xs
 len:acc.length=n
 all:∀ (i:Nat) (l':List Sym),acc[i]?=some l'→∃ a b c,xs[i * 3]?=some a∧xs[i * 3+1]?=some b∧xs[i * 3+2]?=some c∧Rep (fun k=>Y k∨Zap cv k) w a b c l'
theorem Acc.nil (Y:Nat→Prop) (w:World) (B:Nat):Acc Y w B (.slice none 0 0) 0 [] []:=⟨World.ownsRow_nil _ _ _ _,rfl,fun i l' h=>by simp at h⟩
theorem Acc.step {Y:Nat→Prop} {w w1 w3 w4:World} {B n:Nat} {cv cv':Value} {acc:List (List Sym)} {xs:List Value} {a b c:Value} {l:List Sym}
  (h:Acc Y w B cv n acc xs) (e:Ext w w1) (hr:Rep (fun k=>Y k∨Zap cv k) w1 a b c l) (ha:Appended w1 B 183 3 cv (n+1) (xs++[a,b,c]) cv' w3)
  (hk:Kept Y w3 w4) (hB:∀ k,Y k→k<B):Acc Y w4 B cv' (n+1) (acc++[l]) (xs++[a,b,c])∧Kept (fun k=>Y k∨Zap cv k) w1 w4:=by
 have k14:Kept (fun k=>Y k∨Zap cv k) w1 w4:=(ha.kept.mono (fun _ _ e=>Or.inr e)).then hk (fun _ _ e=>Or.inl e)
 have hxl:xs.length=n * 3:=h.owns.1
 have hal:=h.len
 have hcv':∀ k,k<w1.heap.size→Zap cv' k→Zap cv k:=by
  intro k hk1 ho
  rcases ha.where_ with hw | ⟨g,hw,hg⟩
  ·exact hw.symm.trans ho
  ·have:some g=some k:=hw.symm.trans ho
   simp at this hg; omega
 have hon:∀ {a b c:Value} {l:List Sym},Rep (fun k=>Y k∨Zap cv k) w1 a b c l→Rep (fun k=>Y k∨Zap cv' k) w4 a b c l:=fun hr =>
  hr.on (fun k hk1 hn _=>⟨k14.block k hk1 hn,fun hy=>hn (by
   rcases hy with hy | hy
   ·exact Or.inl hy
   ·exact Or.inr (hcv' k hk1 hy))⟩)
 refine ⟨⟨?_,by simp [hal],?_⟩,k14⟩
 ·exact hk.owns ha.owns (fun k hk1 hy=>by
   have h1:=(ha.owns.lt k hk1).1
   have h2:=hB k hy
   omega)
 ·intro i l' hl
  rcases Nat.lt_or_ge i acc.length with hi | hi
  ·rw [Qc hi] at hl
   obtain ⟨a',b',c',x1,x2,x3,g⟩:=h.all i l' hl
   refine ⟨a',b',c',?_,?_,?_,hon (g.ext e (fun k _ h=>h))⟩
   ·rw [Qc (by omega)]; exact x1
   ·rw [Qc (by omega)]; exact x2
   ·rw [Qc (by omega)]; exact x3
  ·have hi':i=acc.length:=by
    have:i<(acc++[l]).length:=(Qa.1 hl).1
    simp at this; omega
   subst hi'
   simp at hl
   subst hl
   rw [hal]
   refine ⟨a,b,c,?_,?_,?_,hon hr⟩
   ·rw [Qd (by omega),hxl]; simp
   ·rw [Qd (by omega),hxl]; simp
   ·rw [Qd (by omega),hxl]; simp
theorem Acc.row {Y X:Nat→Prop} {w w':World} {B n:Nat} {cv:Value} {acc:List (List Sym)} {xs:List Value} (h:Acc Y w B cv n acc xs) (hk:Kept Y w w') (hX:∀ k,X k→Y k) (hB:∀ k,Y k→k<B):RowT X w' cv acc xs:=by
 have hne:∀ k,cv.ownBlock=some k→¬ Y k:=fun k e hy=>by
  have h1:=(h.owns.lt k e).1
  have h2:=hB k hy
  omega
 refine ⟨h.len ▸ Zbb (hk.owns h.owns hne) (Qm _),fun k e hx=>hne k e (hX k hx),fun i l' hl => ?_⟩
 obtain ⟨a',b',c',x1,x2,x3,g⟩:=h.all i l' hl
 exact ⟨a',b',c',x1,x2,x3,g.on (fun k hk1 hn _=>⟨hk.block k hk1 (fun hy=>hn (Or.inl hy)),fun hx=>hn (Or.inl (hX k hx))⟩)⟩
theorem Appended.under {w w1 w3:World} {B:Nat} {e:TypeId} {size n:Nat} {v v':Value} {xs:List Value} (h:Appended w1 B e size v n xs v' w3) (he:Ext w w1) {N:Nat} (hv:∀ j,Zap v j→N≤j) (hN:N≤w.heap.size) (i:Nat) (u:Value) :
  Below N w (w3.setCell ⟨N,i,none⟩ u) :=
 (he.mono hN).trans (Kept.below (S:=fun j=>N≤j) ((h.kept.mono (fun j _ e=>hv j e)).setCell (p:=⟨N,i,none⟩) (fun _=>Qe _) u) (Qq hN he.size) (fun _ h=>h))
abbrev boxed (X:Nat→Prop) (B n:Nat):Nat→Prop:=fun k=>X k∨(B≤k∧k<B+n)
theorem Zdv {X:Nat→Prop} {w:World} {n:Nat} (hX:∀ k,X k→k<w.heap.size) (k:Nat) (h:boxed X w.heap.size n k):k<w.heap.size+n:=by
 rcases h with h | h
 ·have:=hX k h; omega
 ·omega
theorem Zrx {X Z:Nat→Prop} {w wr:World} {n m:Nat} {cv:Value} {acc:List (List Sym)} {xs:List Value} {Y:Nat→Prop} (ha:Acc Y wr (w.heap.size+n) cv m acc xs) (hz:∀ k,Z k→wr.heap.size≤k) (hs:w.heap.size≤wr.heap.size) (k:Nat) (hk:k<w.heap.size) (h:(boxed X w.heap.size n k∨Zap cv k)∨Z k):X k:=by
 rcases h with ((h | h) | h) | h
 ·exact h
 ·omega
 ·have:=(ha.owns.lt k h).1; omega
 ·have:=hz k h; omega
theorem Zok {X:Nat→Prop} {w wr:World} {n m:Nat} {cv:Value} {acc:List (List Sym)} {xs:List Value} {Y:Nat→Prop} (ha:Acc Y wr (w.heap.size+n) cv m acc xs) (hX:∀ k,X k→k<w.heap.size) (hs:w.heap.size+n≤wr.heap.size) (k:Nat) (h:boxed X w.heap.size n k∨Zap cv k):k<wr.heap.size:=by
 rcases h with (h | h) | h
 ·have:=hX k h; omega
 ·omega
 ·exact (ha.owns.lt k h).2
def Yba (n:Nat):Prop:=∀ (w:World) (X:Nat→Prop) (a b c:Value) (l:List Sym) (v:Nat) (ta tb tc:Value) (m:List Sym),l.length≤n→Rep X w a b c l→Rep X w ta tb tc m→(∀ k,X k→k<w.heap.size)→(ap (sub1 v m) l).length≤4000 →
 Calls Tryz.prog 204 #[.agg #[a,b,c],.agg #[.int .i64 v,ta,tb,tc]] w fun e w'=>∃ a' b' c',e = .returned (.agg #[a',b',c'])∧Ext w w'∧Rep X w' a' b' c' (ap (sub1 v m) l)
theorem Ygv (w:World) (X:Nat→Prop) (n v:Nat) (ta tb tc:Value) (m:List Sym) (hm:Rep X w ta tb tc m) :
  Calls Tryz.prog 204 #[.agg #[.string ⟨#[]⟩,.int .i64 n,.slice none 0 0],.agg #[.int .i64 v,ta,tb,tc]] w fun e w'=>∃ a' b' c',e = .returned (.agg #[a',b',c'])∧Ext w w'∧Rep X w' a' b' c' (sub1 v m n):=by
 obtain ⟨s0,n0,c0a,c0l,c0c,rfl,rfl,rfl⟩:=hm.shape
 have Hm:=Zaa hm
 clear hm
 by_cases hq:n=v
 ·have hq':((n:Int) == (v:Int))=true:=by rw [beq_iff_eq]; omega
  have e:sub1 v m n=m:=by unfold sub1; rw [if_pos hq]
  rw [e]
  go_enter Tryz.func204,Tryz.ntmps204
  go_wp2
  refine bodyPost_ret (v := .agg #[.string s0,.int .i64 n0,.slice c0a c0l c0c]) (by simp [results,Tryz.results204,go_sem]) rfl ?_
  exact ⟨_,_,_,rfl,(Ext.of (by repeat' (first | with_reducible(first|exact Qx _ _|apply Kept.drew|apply Kept.drewN|apply Qz|refine Qy ?_ ?_ _)|exact fun h=>absurd h (by simp <;> omega)))),Hm.out.ext ((Ext.of (by repeat' (first | with_reducible(first|exact Qx _ _|apply Kept.drew|apply Kept.drewN|apply Qz|refine Qy ?_ ?_ _)|exact fun h=>absurd h (by simp <;> omega))))) (fun _ _ h=>h)⟩
 ·have hq':((n:Int) == (v:Int))=false:=by rw [Qu]; omega
  have e:sub1 v m n=vr n:=by unfold sub1; rw [if_neg hq]
  rw [e]
  go_enter Tryz.func204,Tryz.ntmps204
  go_wp2
  refine bodyPost_ret (v := .agg #[.string ⟨#[]⟩,.int .i64 n,.slice none 0 0]) (by simp [results,Tryz.results204,go_sem]) rfl ?_
  exact ⟨_,_,_,rfl,(Ext.of (by repeat' (first | with_reducible(first|exact Qx _ _|apply Kept.drew|apply Kept.drewN|apply Qz|refine Qy ?_ ?_ _)|exact fun h=>absurd h (by simp <;> omega)))),Rep.var _ _ _⟩
theorem Ydy (n:Nat) (IH:Yba n) (w:World) (X:Nat→Prop) (nm:List UInt8) (hnm:nm≠[]) (c:Value) (ls:List (List Sym)) (xs:List Value) (v:Nat) (ta tb tc:Value) (m:List Sym)
  (hrow:RowT X w c ls xs) (hm:Rep X w ta tb tc m) (hX:∀ k,X k→k<w.heap.size) (hn:ls.flatten.length≤n) (hbig:(ap (sub1 v m) ls.flatten).length≤3999) :
  Calls Tryz.prog 204 #[.agg #[.string ⟨nm.toArray⟩,.int .i64 0,c],.agg #[.int .i64 v,ta,tb,tc]] w fun e w'=>∃ a' b' c',e = .returned (.agg #[a',b',c'])∧Ext w w'∧Rep X w' a' b' c' (⟨nm,0,ls.length⟩::ap (sub1 v m) ls.flatten):=by
 obtain ⟨s0,n0,c0a,c0l,c0c,rfl,rfl,rfl⟩:=hm.shape
 obtain ⟨ca,ccap,rfl⟩:=Zad hrow.1
 have hwf:=hrow.wf
 have hwm:=hm.wf _ (Qe _)
 have hll:ls.length≤ls.flatten.length:=Zcp (Zdd hwf)
 have hal:=Zhh (Zzu (v:=v) hwm) ls.flatten
 have he:nm.isEmpty=false:=by simpa using hnm
 have Hm:=Zaa hm
 have Hrow:=Zaa hrow
 have Hih:=Zaa IH
 have HX:=Zaa hX
 clear hm hrow IH hX
 go_enter Tryz.func204,Tryz.ntmps204
 go_wp2
 go_loopg [6] (ls.length+1) (fun gk i wr=>∃ (k:Nat) (cv:Value) (ys:List Value),i = .int .i64 k∧k≤ls.length∧ls.length - k<gk∧Ext w wr ∧
   wr.heap[w.heap.size]?=some (.cells #[.string ⟨nm.toArray⟩,.int .i64 0,.slice ca ls.length ccap] 183 (0,0)) ∧
   wr.heap[w.heap.size+1]?=some (.cells #[.int .i64 v,.string s0,.int .i64 n0,.slice c0a c0l c0c] 300 (0,0)) ∧
   wr.heap[w.heap.size+1+1]?=some (.cells #[.string ⟨#[]⟩,.int .i64 0,.slice none 0 0] 183 (0,0)) ∧
   wr.heap[w.heap.size+1+1+1]?=some (.cells #[.string ⟨nm.toArray⟩,.int .i64 0,cv] 183 (0,0)) ∧
   Acc (boxed X w.heap.size 4) wr (w.heap.size+4) cv k ((ls.take k).map (ap (sub1 v m))) ys)
 case atStart =>
  refine ⟨0,.slice none 0 0,[],by go_num,Qm _,by omega,(Ext.of (by repeat' (first | with_reducible(first|exact Qx _ _|apply Kept.drew|apply Kept.drewN|apply Qz|refine Qy ?_ ?_ _)|exact fun h=>absurd h (by simp <;> omega)))),?_,?_,?_,?_,by simpa using Acc.nil _ _ _⟩
  ·exact Zag (Zag (Zag (heap_alloc_new w _) _) _) _
  ·simpa using Zag (Zag (heap_alloc_new (w.alloc _) _) _) _
  ·simpa using Zag (heap_alloc_new ((w.alloc _).alloc _) _) _
  ·simpa using heap_alloc_new (((w.alloc _).alloc _).alloc _) _
 case round =>
  obtain ⟨k,cv,ys,rfl,hk,hg,hext,h0,h1,h2,h3,hacc⟩:=hrel
  obtain ⟨cva,cvcap,rfl⟩:=Zad hacc.owns
  have hsz:=Zac h3
  obtain ⟨c0,c1,c2,cf⟩:=box3 h0
  have d0:wr.cell? ⟨w.heap.size+1,0,none⟩=some (.int .i64 v):=Zab h1 0 _ rfl
  have d1:wr.cell? ⟨w.heap.size+1,1,none⟩=some (.string s0):=Zab h1 1 _ rfl
  have d2:wr.cell? ⟨w.heap.size+1,2,none⟩=some (.int .i64 n0):=Zab h1 2 _ rfl
  have d3:wr.cell? ⟨w.heap.size+1,3,none⟩=some (.slice c0a c0l c0c):=Zab h1 3 _ rfl
  have Hext:=Zaa hext
  have H0:=Zaa h0
  have H1:=Zaa h1
  have H2:=Zaa h2
  have H3:=Zaa h3
  have Hacc:=Zaa hacc
  clear hext h0 h1 h2 h3 hacc
  by_cases hlt:k<ls.length
  ·obtain ⟨l',hl'⟩:∃ l',ls[k]?=some l':=⟨_,Qb hlt⟩
   obtain ⟨_,_,hlf,_⟩:=Zjh hl' hwf
   obtain ⟨a',b',c',x0,x1,x2,hrep⟩:=Hrow.out.2.2 k l' hl'
   obtain ⟨s1,n1,c1a,c1l,c1c,rfl,rfl,rfl⟩:=hrep.shape
   have hrow':=Hrow.out.ext (Y:=X) Hext.out (fun _ _ h=>h)
   obtain ⟨g,cap',cur,hge,hBg,hgb,hcp⟩:=Zan hrow'.1 (by omega)
   simp only [Value.slice.injEq] at hge
   obtain ⟨rfl,_,rfl⟩:=hge
   have y0:wr.cell? ⟨g,k * 3,none⟩=some (.string s1):=Zaf hrow'.1 _ _ x0
   have y1:wr.cell? ⟨g,k * 3+1,none⟩=some (.int .i64 n1):=Zaf hrow'.1 _ _ x1
   have y2:wr.cell? ⟨g,k * 3+2,none⟩=some (.slice c1a c1l c1c):=Zaf hrow'.1 _ _ x2
   have hbl:(ap (sub1 v m) l').length≤4000:=by
    have h1:ap (sub1 v m) l' ∈ ls.map (ap (sub1 v m)):=List.mem_map.2 ⟨l',Qh hl',rfl⟩
    have h2:=Zbk h1
    rw [← Zfk] at h2
    omega
   have HI:Hid (∀ Z u,Ext wr.drew u→(∀ k,Z k→wr.heap.size≤k∧k<u.heap.size)→Calls Tryz.prog 204 #[.agg #[.string s1,.int .i64 n1,.slice c1a c1l c1c],.agg #[.int .i64 v,.string s0,.int .i64 n0,.slice c0a c0l c0c]] u fun e u' =>
     ∃ r,e = .returned r∧Ext u u'∧RT (fun j=>boxed X w.heap.size 4 j∨Zap (.slice cva k cvcap) j) (ap (sub1 v m) l') Z r u'):=fun Z u hu hZ=>by
    have hwu:Ext w u:=Hext.out.trans (hu.undrew.mono Hext.out.size)
    have hz:=Zrx (X:=X) Hacc.out (fun k h=>(hZ k h).1) Hext.out.size
    refine (Hih.out u _ _ _ _ l' v _ _ _ m (by omega) (hrep.ext hwu hz) (Hm.out.ext hwu hz) ?_ hbl).mono ?_
    ·rintro j (h | h)
     ·exact Nat.lt_of_lt_of_le (Zok Hacc.out HX.out (by omega) j h) hu.size
     ·exact (hZ j h).2
    ·rintro e u' ⟨a,b,c,rfl,he,hr⟩
     exact ⟨_,rfl,he,RT.of hr⟩
   have Htk:Hid ((ls.take (k+1)).map (ap (sub1 v m))=(ls.take k).map (ap (sub1 v m))++[ap (sub1 v m) l']):=by
    show _=_
    rw [List.take_add_one,hl']; simp
   clear hgb hrow' hrep x0 x1 x2 hl'
   go_wp2_with fail
   refine Zhc (by kernel_rfl) [.pur (.pointer (some ⟨w.heap.size,2,none⟩)),.pur (.slice (some ⟨g,0,none⟩) ls.length ccap),.pur (.int .i64 k),.pur (.pointer (some ⟨g,k * 3,none⟩)),
    .pur (.agg #[.string s1,.int .i64 n1,.slice c1a c1l c1c]),.pur (.agg #[.int .i64 v,.string s0,.int .i64 n0,.slice c0a c0l c0c]),.cal,.alo 183 #[.string ⟨#[]⟩,.int .i64 0,.slice none 0 0] 8 cellsOf,.sto 7] 6 (by kernel_rfl)
    (RT (fun j=>boxed X w.heap.size 4 j∨Zap (.slice cva k cvcap) j) (ap (sub1 v m) l')) 204 _ RT.stable HI.out ?_ rfl (by decide) ?_
   ·refine ⟨fun vc β u hu => ?_,fun vc β u hu => ?_,fun vc β u hu => ?_,fun vc β u hu => ?_,fun vc β u hu => ?_,fun vc β u hu => ?_,fun vc β u => ?_,fun vc β u => ?_,?_,trivial⟩
    all_goals try simp [pa,Kd.val,go_sem,hu.up c2,hu.up y0,hu.up y1,hu.up y2,hu.up d0,hu.up d1,hu.up d2,hu.up d3,hlt]
    all_goals try simp [pa,Kd.val,go_sem]
    rintro vc β Z u t z s cs he ⟨s2,n2,c2a,c2l,c2c,rfl,hr⟩ hb
    simp at he
    obtain ⟨rfl,rfl,rfl,rfl⟩:=he
    obtain ⟨q0,q1,q2,qf⟩:=box3 hb
    refine ⟨_,?_,Zjy hb (.string s2) (.int .i64 n2) (.slice c2a c2l c2c)⟩
    simp [pa,Kd.val,go_sem,q0,q1,q2,qf]
   rintro vc β w1 hext1 ⟨s2,n2,c2a,c2l,c2c,rfl,hrep1⟩ hbox _
   have hext1:=hext1.undrew
   have h3':=(hext1.block _ hsz).trans H3.out
   have hown1:=(Kept.of_below hext1).owns Hacc.out.owns (fun k hk e=>by have:=(Hacc.out.owns.lt k hk).2; omega)
   have e2:w1.cell? ⟨w.heap.size+1+1+1,2,none⟩=some (.slice cva k cvcap):=Zab h3' 2 _ rfl
   obtain ⟨hb0,hbx⟩:=hbox 7 _ _ _ _ rfl
   obtain ⟨q0,q1,q2,_⟩:=box3 hbx
   have hs1:=hext1.size
   have hbl1:=Zac hbx
   have Hown1:=Zaa hown1
   have Hext1:=Zaa hext1
   have Hrep1:=Zaa hrep1
   have H3':=Zaa h3'
   clear hown1 hext1 hrep1 h3' hbox hbx
   simp only [paAll,pa,Kd.val,if_true,Act.put]
   go_wp2_with (at_builtin; refine Zal _ rfl (.tmp 37) (.tmp 39) 146 rfl (w.heap.size+4) 183 Tryz.infoTerm Tryz.underlying146 rfl (by decide) _ k ys rfl Hown1.out _ rfl rfl rfl Zig ?_ ?_ ?_)
   ·omega
   ·omega
   intro cv' w3 hap3
   obtain ⟨c3a,c3cap,rfl⟩:=Zad hap3.owns
   have hnot:¬ Zap (.slice cva k cvcap) (w.heap.size+1+1+1):=fun e=>by have:=(Hown1.out.lt _ e).1; omega
   have hblk3:=(hap3.kept.block _ (by omega) hnot).trans H3'.out
   have p2:w3.cell? ⟨w.heap.size+1+1+1,2,none⟩=some (.slice cva k cvcap):=Zab hblk3 2 _ rfl
   have pf:∀ i,w3.frozen? ⟨w.heap.size+1+1+1,i,none⟩=false:=fun i=>Zae hblk3 i
   have Hblk3:=Zaa hblk3
   have Hap3:=Zaa hap3
   clear hblk3 hap3 e2 q0 q1 q2
   go_wp2
   go_roundg (ls.length - k)
   case measure=>omega
   case rel =>
    obtain ⟨hacc',hk14⟩:=Hacc.out.step (w4:=w3.setCell ⟨w.heap.size+1+1+1,2,none⟩ (.slice c3a (k+1) c3cap)) Hext1.out (Hrep1.out.on (fun j hj hn _=>⟨rfl,fun h=>hn (Or.inl h)⟩)) Hap3.out
     (Qy (Qx _ w3) (p:=⟨w.heap.size+1+1+1,2,none⟩) (fun _=>Or.inr (by simp only; omega)) _) (Zdv HX.out)
    rw [← Htk.out] at hacc'
    have hkb:=Hap3.out.under (N:=w.heap.size+1+1+1) Hext1.out (fun j e=>by have:=(Hown1.out.lt j e).1; omega) (by omega) 2 (.slice c3a (k+1) c3cap)
    exact ⟨k+1,_,_,by go_num,by omega,by omega,Hext.out.trans (hkb.mono (by omega)),(hkb.block _ (by omega)).trans H0.out,(hkb.block _ (by omega)).trans H1.out,(hkb.block _ (by omega)).trans H2.out,Zai Hblk3.out 2 _,hacc'⟩
  ·have f0:wr.cell? ⟨w.heap.size+1+1+1,0,none⟩=some (.string ⟨nm.toArray⟩):=Zab H3.out 0 _ rfl
   have f1:wr.cell? ⟨w.heap.size+1+1+1,1,none⟩=some (.int .i64 0):=Zab H3.out 1 _ rfl
   have f2:wr.cell? ⟨w.heap.size+1+1+1,2,none⟩=some (.slice cva k cvcap):=Zab H3.out 2 _ rfl
   obtain ⟨r0,r1,r2,rf⟩:=box3 H2.out
   go_wp2
   refine bodyPost_ret (v := .agg #[.string ⟨nm.toArray⟩,.int .i64 0,.slice cva k cvcap]) (by simp [results,Tryz.results204,go_sem,r0,r1,r2,rf]) rfl ?_
   have hek:k=ls.length:=by omega
   subst hek
   have hkp:=(((Qx (only (w.heap.size+1+1)) wr).put 0 (.string ⟨nm.toArray⟩)).put 1 (.int .i64 0)).put 2 (.slice cva ls.length cvcap)
   refine ⟨_,_,_,rfl,Hext.out.trans (hkp.below Hext.out.size (fun j e=>by have e:j=w.heap.size+1+1:=e; omega)),?_⟩
   have hr:=Hacc.out.row (X:=X) (hkp.mono (fun j _ e=>Or.inr (by have e:j=w.heap.size+1+1:=e; omega))) (fun j h=>Or.inl h) (Zdv HX.out)
   rw [List.take_length] at hr
   have:=Rep.name hnm hr
   rw [← Zfk] at this
   simpa using this
theorem Zmp:∀ n,Yba n:=by
 intro n
 induction n with
 | zero =>
  intro w X a b c l v ta tb tc m hl h
  have:=Zcp (h.wf _ (Qe _))
  omega
 | succ n ih =>
  intro w X a b c l v ta tb tc m hl h hm hX hbig
  rcases h.out with ⟨k,rfl,rfl,rfl,rfl⟩ | ⟨nm,ls,xs,h1,rfl,rfl,rfl,h5⟩
  ·have e:ap (sub1 v m) [⟨[],k,0⟩]=sub1 v m k:=Zpj _ _
   rw [e]
   exact Ygv w X k v ta tb tc m hm
  ·have e:ap (sub1 v m) (⟨nm,0,ls.length⟩::ls.flatten)=⟨nm,0,ls.length⟩::ap (sub1 v m) ls.flatten:=by rw [Zca]; simp [ap1,h1]
   rw [e] at hbig ⊢
   simp only [Qf] at hl hbig
   exact Ydy n ih w X nm h1 c ls xs v ta tb tc m h5 hm hX (by omega) (by omega)
def Zvt (n:Nat):Prop:=∀ (w:World) (X:Nat→Prop) (a b c:Value) (l:List Sym),l.length≤n→l.length≤4000→Rep X w a b c l →
 Calls Tryz.prog 205 #[.agg #[a,b,c]] w fun e w'=>e = .returned (.int .i64 l.length)∧Ext w w'
theorem Zvu (n:Nat) (IH:Zvt n) (w:World) (X:Nat→Prop) (sv:ByteArray) (nv:Int) (c:Value) (ls:List (List Sym)) (xs:List Value) (hrow:RowT X w c ls xs) (hn:ls.flatten.length≤n) (hl:ls.flatten.length≤3999) :
  Calls Tryz.prog 205 #[.agg #[.string sv,.int .i64 nv,c]] w fun e w'=>e = .returned (.int .i64 ((ls.flatten.length+1:Nat):Int))∧Ext w w':=by
 obtain ⟨ca,ccap,rfl⟩:=Zad hrow.1
 have hwf:=hrow.wf
 have hll:ls.length≤ls.flatten.length:=Zcp (Zdd hwf)
 have Hrow:=Zaa hrow
 have Hih:=Zaa IH
 clear hrow IH
 go_enter Tryz.func205,Tryz.ntmps205
 go_wp2
 go_loopg [3,4] (ls.length+1) (fun gk m i wr=>∃ (k q:Nat),i = .int .i64 k∧m = .int .i64 ((q+1:Nat):Int)∧q=(ls.take k).flatten.length∧k≤ls.length∧ls.length - k<gk∧Ext w wr ∧
   wr.heap[w.heap.size]?=some (.cells #[.string sv,.int .i64 nv,.slice ca ls.length ccap] 183 (0,0)))
 case atStart=>exact ⟨0,0,by go_num,by go_num,by simp,Qm _,by omega,(Ext.of (by repeat' (first | with_reducible(first|exact Qx _ _|apply Kept.drew|apply Kept.drewN|apply Qz|refine Qy ?_ ?_ _)|exact fun h=>absurd h (by simp <;> omega)))),heap_alloc_new w _⟩
 case round =>
  obtain ⟨k,q,rfl,rfl,hq,hk,hg,hext,h0⟩:=hrel
  obtain ⟨c0,c1,c2,cf⟩:=box3 h0
  have Hext:=Zaa hext
  have H0:=Zaa h0
  have hsz:=Zac h0
  clear hext h0
  have htf:q≤ls.flatten.length:=by
   have h:=congrArg List.length (congrArg List.flatten (List.take_append_drop k ls))
   simp only [List.flatten_append,Qg] at h
   omega
  have Hq:=Zaa hq
  clear hq
  by_cases hlt:k<ls.length
  ·obtain ⟨l',hl'⟩:∃ l',ls[k]?=some l':=⟨_,Qb hlt⟩
   obtain ⟨_,_,hlf,_⟩:=Zjh hl' hwf
   obtain ⟨a',b',c',x0,x1,x2,hrep⟩:=Hrow.out.2.2 k l' hl'
   obtain ⟨s1,n1,c1a,c1l,c1c,rfl,rfl,rfl⟩:=hrep.shape
   have hrow':=Hrow.out.ext (Y:=X) Hext.out (fun _ _ h=>h)
   obtain ⟨g,cap',cur,hge,hBg,hgb,hcp⟩:=Zan hrow'.1 (by omega)
   simp only [Value.slice.injEq] at hge
   obtain ⟨rfl,_,rfl⟩:=hge
   have y0:wr.cell? ⟨g,k * 3,none⟩=some (.string s1):=Zaf hrow'.1 _ _ x0
   have y1:wr.cell? ⟨g,k * 3+1,none⟩=some (.int .i64 n1):=Zaf hrow'.1 _ _ x1
   have y2:wr.cell? ⟨g,k * 3+2,none⟩=some (.slice c1a c1l c1c):=Zaf hrow'.1 _ _ x2
   have HI:=Zaa (Hih.out wr X (.string s1) (.int .i64 n1) (.slice c1a c1l c1c) l' (by omega) (by omega) (hrep.ext Hext.out (fun _ _ h=>h)))
   have Htk:Hid (q+l'.length=(ls.take (k+1)).flatten.length):=by
    show _=_
    rw [List.take_add_one,hl',Hq.out]; simp
   clear hgb hrow' hrep x0 x1 x2 hl'
   go_wp2_with fail
   refine HI.out.mono ?_
   rintro e w1 ⟨rfl,hext1⟩
   have Hext1:=Zaa hext1
   clear hext1
   go_wp2
   go_roundg (ls.length - k)
   case measure=>omega
   case rel=>exact ⟨k+1,q+l'.length,by go_num,by go_num,Htk.out,by omega,by omega,Hext.out.trans (Hext1.out.mono Hext.out.size),(Hext1.out.block _ hsz).trans H0.out⟩
  ·have hek:k=ls.length:=by omega
   subst hek
   have He:Hid (q=ls.flatten.length):=by have:=Hq.out; rw [List.take_length] at this; exact this
   go_wp2
   go_ret
   exact ⟨by rw [← He.out]; rfl,Hext.out⟩
theorem Zgd:∀ n,Zvt n:=by
 intro n
 induction n with
 | zero =>
  intro w X a b c l hl _ h
  have:=Zcp (h.wf _ (Qe _))
  omega
 | succ n ih =>
  intro w X a b c l hl hl4 h
  rcases h.out with ⟨k,rfl,rfl,rfl,rfl⟩ | ⟨nm,ls,xs,h1,rfl,rfl,rfl,h5⟩
  ·exact Zvu n ih w X _ _ (.slice none 0 0) [] [] ⟨World.ownsRow_nil _ _ _ _,fun k e=>by simp [Value.ownBlock] at e,fun i l' h=>by simp at h⟩ (by simp) (by simp)
  ·simp only [Qf] at hl hl4 ⊢
   exact Zvu n ih w X _ _ c ls xs h5 (by omega) (by omega)
def Zol (n:Nat):Prop:=∀ (w:World) (X:Nat→Prop) (a b c:Value) (l:List Sym) (v:Nat),l.length≤n→l.length≤4000→Rep X w a b c l →
 Calls Tryz.prog 203 #[.int .i64 v,.agg #[a,b,c]] w fun e w'=>∃ r:Bool,e = .returned (.bool r)∧Ext w w'∧(r=true↔Occ v l)
theorem Zxx (w:World) (n v:Nat) :
  Calls Tryz.prog 203 #[.int .i64 v,.agg #[.string ⟨#[]⟩,.int .i64 n,.slice none 0 0]] w fun e w'=>∃ r:Bool,e = .returned (.bool r)∧Ext w w'∧(r=true↔Occ v (vr n)):=by
 by_cases hq:n=v
 ·have hq':((n:Int) == (v:Int))=true:=by rw [beq_iff_eq]; omega
  go_enter Tryz.func203,Tryz.ntmps203
  go_wp2
  go_ret
  exact ⟨_,rfl,(Ext.of (by repeat' (first | with_reducible(first|exact Qx _ _|apply Kept.drew|apply Kept.drewN|apply Qz|refine Qy ?_ ?_ _)|exact fun h=>absurd h (by simp <;> omega)))),by simp [Zgb,hq]⟩
 ·have hq':((n:Int) == (v:Int))=false:=by rw [Qu]; omega
  go_enter Tryz.func203,Tryz.ntmps203
  go_wp2
  go_ret
  exact ⟨_,rfl,(Ext.of (by repeat' (first | with_reducible(first|exact Qx _ _|apply Kept.drew|apply Kept.drewN|apply Qz|refine Qy ?_ ?_ _)|exact fun h=>absurd h (by simp <;> omega)))),by simp [Zgb]; omega⟩
theorem Zxy (n:Nat) (IH:Zol n) (w:World) (X:Nat→Prop) (nm:List UInt8) (hnm:nm≠[]) (c:Value) (ls:List (List Sym)) (xs:List Value) (v:Nat) (hrow:RowT X w c ls xs) (hn:ls.flatten.length≤n) (hl:ls.flatten.length≤3999) :
  Calls Tryz.prog 203 #[.int .i64 v,.agg #[.string ⟨nm.toArray⟩,.int .i64 0,c]] w fun e w'=>∃ r:Bool,e = .returned (.bool r)∧Ext w w'∧(r=true↔Occ v ls.flatten):=by
 obtain ⟨ca,ccap,rfl⟩:=Zad hrow.1
 have hwf:=hrow.wf
 have hll:ls.length≤ls.flatten.length:=Zcp (Zdd hwf)
 have he:nm.isEmpty=false:=by simpa using hnm
 have Hrow:=Zaa hrow
 have Hih:=Zaa IH
 clear hrow IH
 go_enter Tryz.func203,Tryz.ntmps203
 go_wp2
 go_loopg [5] (ls.length+1) (fun gk i wr=>∃ (k:Nat),i = .int .i64 k∧k≤ls.length∧ls.length - k<gk∧Ext w wr∧¬ Occ v (ls.take k).flatten ∧
   wr.heap[w.heap.size]?=some (.cells #[.string ⟨nm.toArray⟩,.int .i64 0,.slice ca ls.length ccap] 183 (0,0)))
 case atStart=>exact ⟨0,by go_num,Qm _,by omega,(Ext.of (by repeat' (first | with_reducible(first|exact Qx _ _|apply Kept.drew|apply Kept.drewN|apply Qz|refine Qy ?_ ?_ _)|exact fun h=>absurd h (by simp <;> omega)))),by rintro ⟨s,h,_⟩; simp at h,heap_alloc_new w _⟩
 case round =>
  obtain ⟨k,rfl,hk,hg,hext,hno,h0⟩:=hrel
  obtain ⟨c0,c1,c2,cf⟩:=box3 h0
  have Hext:=Zaa hext
  have H0:=Zaa h0
  have Hno:=Zaa hno
  have hsz:=Zac h0
  clear hext h0 hno
  by_cases hlt:k<ls.length
  ·obtain ⟨l',hl'⟩:∃ l',ls[k]?=some l':=⟨_,Qb hlt⟩
   obtain ⟨_,_,hlf,_⟩:=Zjh hl' hwf
   obtain ⟨a',b',c',x0,x1,x2,hrep⟩:=Hrow.out.2.2 k l' hl'
   obtain ⟨s1,n1,c1a,c1l,c1c,rfl,rfl,rfl⟩:=hrep.shape
   have hrow':=Hrow.out.ext (Y:=X) Hext.out (fun _ _ h=>h)
   obtain ⟨g,cap',cur,hge,hBg,hgb,hcp⟩:=Zan hrow'.1 (by omega)
   simp only [Value.slice.injEq] at hge
   obtain ⟨rfl,_,rfl⟩:=hge
   have y0:wr.cell? ⟨g,k * 3,none⟩=some (.string s1):=Zaf hrow'.1 _ _ x0
   have y1:wr.cell? ⟨g,k * 3+1,none⟩=some (.int .i64 n1):=Zaf hrow'.1 _ _ x1
   have y2:wr.cell? ⟨g,k * 3+2,none⟩=some (.slice c1a c1l c1c):=Zaf hrow'.1 _ _ x2
   have HI:=Zaa (Hih.out wr X (.string s1) (.int .i64 n1) (.slice c1a c1l c1c) l' v (by omega) (by omega) (hrep.ext Hext.out (fun _ _ h=>h)))
   have Hin:Hid (Occ v l'→Occ v ls.flatten):=fun ⟨s,h1,h2⟩=>⟨s,List.mem_flatten.2 ⟨l',Qh hl',h1⟩,h2⟩
   have Htk:Hid (¬ Occ v l'→¬ Occ v (ls.take (k+1)).flatten):=fun h=>by
    rw [List.take_add_one,hl']
    simp only [Option.toList_some,List.flatten_append,List.flatten_cons,List.flatten_nil,Qs,Zcn]
    rintro (h' | h')
    ·exact Hno.out h'
    ·exact h h'
   clear hgb hrow' hrep x0 x1 x2 hl'
   go_wp2_with fail
   refine HI.out.mono ?_
   rintro e w1 ⟨r,rfl,hext1,hr⟩
   have Hext1:=Zaa hext1
   have Hr:=Zaa hr
   clear hext1 hr
   cases r
   ·go_wp2
    go_roundg (ls.length - k)
    case measure=>omega
    case rel=>exact ⟨k+1,by go_num,by omega,by omega,Hext.out.trans (Hext1.out.mono Hext.out.size),Htk.out (fun h=>by simpa using Hr.out.2 h),(Hext1.out.block _ hsz).trans H0.out⟩
   ·go_wp2
    go_ret
    exact ⟨_,rfl,Hext.out.trans (Hext1.out.mono Hext.out.size),by simp only [true_iff]; exact Hin.out (Hr.out.1 trivial)⟩
  ·have hek:k=ls.length:=by omega
   subst hek
   have He:Hid (¬ Occ v ls.flatten):=by have:=Hno.out; rw [List.take_length] at this; exact this
   go_wp2
   go_ret
   exact ⟨_,rfl,Hext.out,by simp only [Bool.false_eq_true,false_iff]; exact He.out⟩
theorem Zom:∀ n,Zol n:=by
 intro n
 induction n with
 | zero =>
  intro w X a b c l v hl _ h
  have:=Zcp (h.wf _ (Qe _))
  omega
 | succ n ih =>
  intro w X a b c l v hl hl4 h
  rcases h.out with ⟨k,rfl,rfl,rfl,rfl⟩ | ⟨nm,ls,xs,h1,rfl,rfl,rfl,h5⟩
  ·exact Zxx w k v
  ·simp only [Qf] at hl hl4
   refine (Zxy n ih w X nm h1 c ls xs v h5 (by omega) (by omega)).mono ?_
   rintro e w' ⟨r,rfl,he,hr⟩
   refine ⟨r,rfl,he,hr.trans ?_⟩
   constructor
   ·rintro ⟨s,h,h'⟩; exact ⟨s,List.mem_cons_of_mem _ h,h'⟩
   ·rintro ⟨s,h,h'⟩
    rcases Qp.1 h with rfl | h
    ·exact absurd h'.1 h1
    ·exact ⟨s,h,h'⟩
def RD (X:Nat→Prop) (l m:List Sym):(Nat→Prop)→Value→World→Prop:=fun Z r u=>∃ (s:ByteArray) (n:Nat) (ca:Option Addr) (cl cc:Nat) (s':ByteArray) (n':Nat) (ca':Option Addr) (cl' cc':Nat) (q:Bool),
 r = .tuple #[.agg #[.string s,.int .i64 n,.slice ca cl cc],.agg #[.string s',.int .i64 n',.slice ca' cl' cc'],.bool q]∧(q=false→l=m) ∧
 (q=true→∃ x y,Rep (fun k=>X k∨Z k) u (.string s) (.int .i64 n) (.slice ca cl cc) x∧Rep (fun k=>X k∨Z k) u (.string s') (.int .i64 n') (.slice ca' cl' cc') y∧Parts l m x y)
theorem RD.stable {Y:Nat→Prop} {l m:List Sym}:∀ X X' v u u',RD Y l m X v u→(∀ k,k<u.heap.size→¬ X k→u'.heap[k]?=u.heap[k]?)→u.heap.size≤u'.heap.size→(∀ k,k<u.heap.size→X' k→X k)→RD Y l m X' v u':=by
 rintro X X' v u u' ⟨s,n,ca,cl,cc,s',n',ca',cl',cc',q,rfl,h1,h2⟩ hs _ hx
 refine ⟨s,n,ca,cl,cc,s',n',ca',cl',cc',q,rfl,h1,fun hq => ?_⟩
 obtain ⟨x,y,h3,h4,h5⟩:=h2 hq
 exact ⟨x,y,h3.plan hs hx,h4.plan hs hx,h5⟩
def Zon (n:Nat):Prop:=∀ (w:World) (X:Nat→Prop) (a b c a' b' c':Value) (l m:List Sym),l.length≤n→l.length≤4000→m.length≤4000→Rep X w a b c l→Rep X w a' b' c' m→(∀ k,X k→k<w.heap.size) →
 Calls Tryz.prog 202 #[.agg #[a,b,c],.agg #[a',b',c']] w fun e w'=>∃ r,e = .returned r∧Ext w w'∧RD X l m (fun _=>False) r w'
theorem Zhw {l m:List Sym} (h1:Wf 1 l) (h2:Wf 1 m) (h:l.head?≠m.head?):Parts l m l m:=⟨⟨[],[],[],by simp,by simp⟩,h1,h2,h⟩
theorem Zgu (w:World) (X:Nat→Prop) (s s':ByteArray) (n n':Nat) (ca ca':Option Addr) (cl cl' cc cc':Nat) (l m:List Sym) (h1:Rep X w (.string s) (.int .i64 n) (.slice ca cl cc) l) (h2:Rep X w (.string s') (.int .i64 n') (.slice ca' cl' cc') m)
  (hp:Parts l m l m) (hc:(¬ s.toList=s'.toList)∨(s.toList=s'.toList∧¬ (cl:Int)=cl')∨(s.toList=s'.toList∧(cl:Int)=cl'∧s'.toList=[]∧((n:Int) != (n':Int))=true)) :
  Calls Tryz.prog 202 #[.agg #[.string s,.int .i64 n,.slice ca cl cc],.agg #[.string s',.int .i64 n',.slice ca' cl' cc']] w fun e w'=>∃ r,e = .returned r∧Ext w w'∧RD X l m (fun _=>False) r w':=by
 have H1:=Zaa h1
 have H2:=Zaa h2
 have Hp:=Zaa hp
 clear h1 h2 hp
 rcases hc with c1 | ⟨c1,c2⟩ | ⟨c1,c2,c3,c4⟩
 ·go_enter Tryz.func202,Tryz.ntmps202
  go_wp2
  go_region
  go_wp2
  refine bodyPost_ret (v := .tuple #[.agg #[.string s,.int .i64 n,.slice ca cl cc],.agg #[.string s',.int .i64 n',.slice ca' cl' cc'],.bool true]) (by simp [results,Tryz.results202,go_sem]) rfl ?_
  refine ⟨_,rfl,(Ext.of (by repeat' (first | with_reducible(first|exact Qx _ _|apply Kept.drew|apply Kept.drewN|apply Qz|refine Qy ?_ ?_ _)|exact fun h=>absurd h (by simp <;> omega)))),s,n,ca,cl,cc,s',n',ca',cl',cc',true,rfl,by simp,fun _=>⟨l,m,H1.out.ext (Ext.of (by repeat' (first | with_reducible(first|exact Qx _ _|apply Kept.drew|apply Kept.drewN|apply Qz|refine Qy ?_ ?_ _)|exact fun h=>absurd h (by simp <;> omega)))) (fun k _ h=>by simpa using h),H2.out.ext (Ext.of (by repeat' (first | with_reducible(first|exact Qx _ _|apply Kept.drew|apply Kept.drewN|apply Qz|refine Qy ?_ ?_ _)|exact fun h=>absurd h (by simp <;> omega)))) (fun k _ h=>by simpa using h),Hp.out⟩⟩
 ·go_enter Tryz.func202,Tryz.ntmps202
  go_wp2
  go_region
  go_wp2
  refine bodyPost_ret (v := .tuple #[.agg #[.string s,.int .i64 n,.slice ca cl cc],.agg #[.string s',.int .i64 n',.slice ca' cl' cc'],.bool true]) (by simp [results,Tryz.results202,go_sem]) rfl ?_
  refine ⟨_,rfl,(Ext.of (by repeat' (first | with_reducible(first|exact Qx _ _|apply Kept.drew|apply Kept.drewN|apply Qz|refine Qy ?_ ?_ _)|exact fun h=>absurd h (by simp <;> omega)))),s,n,ca,cl,cc,s',n',ca',cl',cc',true,rfl,by simp,fun _=>⟨l,m,H1.out.ext (Ext.of (by repeat' (first | with_reducible(first|exact Qx _ _|apply Kept.drew|apply Kept.drewN|apply Qz|refine Qy ?_ ?_ _)|exact fun h=>absurd h (by simp <;> omega)))) (fun k _ h=>by simpa using h),H2.out.ext (Ext.of (by repeat' (first | with_reducible(first|exact Qx _ _|apply Kept.drew|apply Kept.drewN|apply Qz|refine Qy ?_ ?_ _)|exact fun h=>absurd h (by simp <;> omega)))) (fun k _ h=>by simpa using h),Hp.out⟩⟩
 ·go_enter Tryz.func202,Tryz.ntmps202
  go_wp2
  go_region
  go_wp2
  refine bodyPost_ret (v := .tuple #[.agg #[.string s,.int .i64 n,.slice ca cl cc],.agg #[.string s',.int .i64 n',.slice ca' cl' cc'],.bool true]) (by simp [results,Tryz.results202,go_sem]) rfl ?_
  refine ⟨_,rfl,(Ext.of (by repeat' (first | with_reducible(first|exact Qx _ _|apply Kept.drew|apply Kept.drewN|apply Qz|refine Qy ?_ ?_ _)|exact fun h=>absurd h (by simp <;> omega)))),s,n,ca,cl,cc,s',n',ca',cl',cc',true,rfl,by simp,fun _=>⟨l,m,H1.out.ext (Ext.of (by repeat' (first | with_reducible(first|exact Qx _ _|apply Kept.drew|apply Kept.drewN|apply Qz|refine Qy ?_ ?_ _)|exact fun h=>absurd h (by simp <;> omega)))) (fun k _ h=>by simpa using h),H2.out.ext (Ext.of (by repeat' (first | with_reducible(first|exact Qx _ _|apply Kept.drew|apply Kept.drewN|apply Qz|refine Qy ?_ ?_ _)|exact fun h=>absurd h (by simp <;> omega)))) (fun k _ h=>by simpa using h),Hp.out⟩⟩
theorem Zef (l:List UInt8):(⟨l.toArray⟩:ByteArray).toList=l:=by simp
def Zff (i:Nat):Value→Value
 | .tuple xs=>xs.getD i undef
 | _=>undef
theorem Rep.boxes {X Z:Nat→Prop} {B n:Nat} {w w':World} {a b c:Value} {l:List Sym} (h:Rep (fun k=>boxed X B n k∨Z k) w a b c l) (hk:Kept (fun k=>B≤k∧k<B+n) w w'):Rep (fun k=>X k∨False) w' a b c l :=
 h.on (fun k hk' hn _=>⟨hk.block k hk' (fun e=>hn (Or.inl (Or.inr e))),fun hx=>hn (Or.inl (Or.inl (by simpa using hx)))⟩)
theorem Parts.under {l m x y:List Sym} (h:Parts l m x y) (p ra rb:List Sym):Parts (p++l++ra) (p++m++rb) x y:=by
 obtain ⟨q,r1,r2,h1,h2⟩:=h.ex
 refine ⟨⟨p++q,r1++ra,r2++rb,?_,?_⟩,h.wx,h.wy,h.ne⟩
 ·rw [h1]; simp
 ·rw [h2]; simp
theorem Zxz (n:Nat) (IH:Zon n) (w:World) (X:Nat→Prop) (s s':ByteArray) (nv nv':Nat) (c c':Value) (ls ms:List (List Sym)) (xs ys:List Value) (hd:Sym) (h1:RowT X w c ls xs) (h2:RowT X w c' ms ys) (hX:∀ k,X k→k<w.heap.size)
  (hlen:ls.length=ms.length) (hn:ls.flatten.length≤n) (hl:ls.flatten.length≤3999) (hl2:ms.flatten.length≤3999) (c1:s.toList=s'.toList) (c3:¬ s'.toList=[]) :
  Calls Tryz.prog 202 #[.agg #[.string s,.int .i64 nv,c],.agg #[.string s',.int .i64 nv',c']] w fun e w'=>∃ r,e = .returned r∧Ext w w'∧RD X (hd::ls.flatten) (hd::ms.flatten) (fun _=>False) r w':=by
 obtain ⟨ca,ccap,rfl⟩:=Zad h1.1
 obtain ⟨ca',ccap',rfl⟩:=Zad h2.1
 rw [← hlen] at h2 ⊢
 have hwf:=h1.wf
 have hwf2:=h2.wf
 have hll:ls.length≤ls.flatten.length:=Zcp (Zdd hwf)
 have H1:=Zaa h1
 have H2:=Zaa h2
 have Hih:=Zaa IH
 have HX:=Zaa hX
 have Hlen:=Zaa hlen
 clear h1 h2 IH hX hlen
 go_enter Tryz.func202,Tryz.ntmps202
 go_wp2
 go_loopg [7] (ls.length+1) (fun gk i wr=>∃ (k:Nat),i = .int .i64 k∧k≤ls.length∧ls.length - k<gk∧Ext w wr∧ls.take k=ms.take k ∧
   wr.heap[w.heap.size]?=some (.cells #[.string s,.int .i64 nv,.slice ca ls.length ccap] 183 (0,0)) ∧
   wr.heap[w.heap.size+1]?=some (.cells #[.string s',.int .i64 nv',.slice ca' ls.length ccap'] 183 (0,0)) ∧
   wr.heap[w.heap.size+1+1]?=some (.cells #[.string ⟨#[]⟩,.int .i64 0,.slice none 0 0] 183 (0,0)) ∧
   wr.heap[w.heap.size+1+1+1]?=some (.cells #[.string ⟨#[]⟩,.int .i64 0,.slice none 0 0] 183 (0,0)))
 case atStart =>
  refine ⟨0,by go_num,Qm _,by omega,(Ext.of (by repeat' (first | with_reducible(first|exact Qx _ _|apply Kept.drew|apply Kept.drewN|apply Qz|refine Qy ?_ ?_ _)|exact fun h=>absurd h (by simp <;> omega)))),rfl,?_,?_,?_,?_⟩
  ·exact Zag (Zag (Zag (heap_alloc_new w _) _) _) _
  ·simpa using Zag (Zag (heap_alloc_new (w.alloc _) _) _) _
  ·simpa using Zag (heap_alloc_new ((w.alloc _).alloc _) _) _
  ·simpa using heap_alloc_new (((w.alloc _).alloc _).alloc _) _
 case round =>
  obtain ⟨k,rfl,hk,hg,hext,htk,h0,h1,h2,h3⟩:=hrel
  obtain ⟨c0,c1',c2,cf⟩:=box3 h0
  obtain ⟨d0,d1,d2,df⟩:=box3 h1
  obtain ⟨e0,e1,e2,ef⟩:=box3 h2
  obtain ⟨f0,f1,f2,ff⟩:=box3 h3
  have hsz:=Zac h3
  have Hext:=Zaa hext
  have B0:=Zaa h0
  have B1:=Zaa h1
  have B2:=Zaa h2
  have B3:=Zaa h3
  have Htk:=Zaa htk
  clear hext h0 h1 h2 h3 htk
  by_cases hlt:k<ls.length
  ·obtain ⟨l',hl'⟩:∃ l',ls[k]?=some l':=⟨_,Qb hlt⟩
   obtain ⟨m',hm'⟩:∃ m',ms[k]?=some m':=⟨_,Qb (Hlen.out ▸ hlt)⟩
   obtain ⟨_,hdl,hlf,_⟩:=Zjh hl' hwf
   obtain ⟨_,hdm,hmf,_⟩:=Zjh hm' hwf2
   obtain ⟨a',b',c',x0,x1,x2,hrep⟩:=H1.out.2.2 k l' hl'
   obtain ⟨s1,n1,c1a,c1l,c1c,rfl,rfl,rfl⟩:=hrep.shape
   obtain ⟨a',b',c',z0,z1,z2,hrep2⟩:=H2.out.2.2 k m' hm'
   obtain ⟨s2,n2,c2a,c2l,c2c,rfl,rfl,rfl⟩:=hrep2.shape
   have hrow1:=H1.out.ext (Y:=X) Hext.out (fun _ _ h=>h)
   have hrow2:=H2.out.ext (Y:=X) Hext.out (fun _ _ h=>h)
   have ho2:=hrow2.1
   rw [← Hlen.out] at ho2
   obtain ⟨g,cap',cur,hge,hBg,hgb,hcp⟩:=Zan hrow1.1 (by omega)
   simp only [Value.slice.injEq] at hge
   obtain ⟨rfl,_,rfl⟩:=hge
   obtain ⟨g',cap'',cur',hge',hBg',hgb',hcp'⟩:=Zan ho2 (by omega)
   simp only [Value.slice.injEq] at hge'
   obtain ⟨rfl,_,rfl⟩:=hge'
   have y0:wr.cell? ⟨g,k * 3,none⟩=some (.string s1):=Zaf hrow1.1 _ _ x0
   have y1:wr.cell? ⟨g,k * 3+1,none⟩=some (.int .i64 n1):=Zaf hrow1.1 _ _ x1
   have y2:wr.cell? ⟨g,k * 3+2,none⟩=some (.slice c1a c1l c1c):=Zaf hrow1.1 _ _ x2
   have v0:wr.cell? ⟨g',k * 3,none⟩=some (.string s2):=Zaf ho2 _ _ z0
   have v1:wr.cell? ⟨g',k * 3+1,none⟩=some (.int .i64 n2):=Zaf ho2 _ _ z1
   have v2:wr.cell? ⟨g',k * 3+2,none⟩=some (.slice c2a c2l c2c):=Zaf ho2 _ _ z2
   have HI:Hid (∀ Z u,Ext wr.drew u→(∀ k,Z k→wr.heap.size≤k∧k<u.heap.size)→Calls Tryz.prog 202 #[.agg #[.string s1,.int .i64 n1,.slice c1a c1l c1c],.agg #[.string s2,.int .i64 n2,.slice c2a c2l c2c]] u fun e u' =>
     ∃ r,e = .returned r∧Ext u u'∧RD (boxed X w.heap.size 4) l' m' Z r u'):=fun Z u hu hZ=>by
    have hwu:Ext w u:=Hext.out.trans (hu.undrew.mono Hext.out.size)
    have hz:∀ k,k<w.heap.size→(boxed X w.heap.size 4 k∨Z k)→X k:=fun k hk h=>by
     rcases h with (h | h) | h
     ·exact h
     ·omega
     ·have:=(hZ k h).1; omega
    refine (Hih.out u (fun k=>boxed X w.heap.size 4 k∨Z k) _ _ _ _ _ _ l' m' (by omega) (by omega) (by omega) (hrep.ext hwu hz) (hrep2.ext hwu hz) ?_).mono ?_
    ·rintro j (h | h)
     ·have:=Zdv HX.out j h; have:=hu.size; simp only [World.drew] at this; omega
     ·exact (hZ j h).2
    ·rintro e u' ⟨r,rfl,he,s,n,ca,cl,cc,s',n',ca',cl',cc',q,rfl,h3,h4⟩
     refine ⟨_,rfl,he,s,n,ca,cl,cc,s',n',ca',cl',cc',q,rfl,h3,fun hq => ?_⟩
     obtain ⟨x,y,h5,h6,h7⟩:=h4 hq
     exact ⟨x,y,h5.ext (Below.refl _ _) (fun j _ h=>Or.inl h),h6.ext (Below.refl _ _) (fun j _ h=>Or.inl h),h7⟩
   have Hpt:Hid (∀ x y,Parts l' m' x y→Parts (hd::ls.flatten) (hd::ms.flatten) x y):=fun x y h=>by
    have e1:hd::ls.flatten=(hd::(ls.take k).flatten)++l'++(ls.drop (k+1)).flatten:=by
     have:ls.flatten=(ls.take k).flatten++(ls.drop k).flatten:=by rw [← List.flatten_append,List.take_append_drop]
     rw [this,hdl]; simp
    have e2:hd::ms.flatten=(hd::(ls.take k).flatten)++m'++(ms.drop (k+1)).flatten:=by
     have:ms.flatten=(ms.take k).flatten++(ms.drop k).flatten:=by rw [← List.flatten_append,List.take_append_drop]
     rw [this,hdm,Htk.out]; simp
    rw [e1,e2]
    exact h.under _ _ _
   have Hnx:Hid (l'=m'→ls.take (k+1)=ms.take (k+1)):=fun e=>by
    rw [List.take_add_one,List.take_add_one,hl',hm',Htk.out,e]
   clear hgb hgb' hrow1 hrow2 ho2 hrep hrep2 x0 x1 x2 z0 z1 z2 hl' hm' hdl hdm
   go_wp2_with fail
   refine Zhc (by kernel_rfl) [.pur (.pointer (some ⟨w.heap.size,2,none⟩)),.pur (.slice (some ⟨g,0,none⟩) ls.length ccap),.pur (.int .i64 k),.pur (.pointer (some ⟨g,k * 3,none⟩)),.pur (.agg #[.string s1,.int .i64 n1,.slice c1a c1l c1c]),
    .pur (.pointer (some ⟨w.heap.size+1,2,none⟩)),.pur (.slice (some ⟨g',0,none⟩) ls.length ccap'),.pur (.int .i64 k),.pur (.pointer (some ⟨g',k * 3,none⟩)),.pur (.agg #[.string s2,.int .i64 n2,.slice c2a c2l c2c]),
    .cal,.post (fun v=>v),.post (Zff 0),.post (Zff 1),.post (Zff 2),.alo 183 #[.string ⟨#[]⟩,.int .i64 0,.slice none 0 0] 17 (fun v=>cellsOf (Zff 0 v)),.alo 183 #[.string ⟨#[]⟩,.int .i64 0,.slice none 0 0] 18 (fun v=>cellsOf (Zff 1 v)),.sto 15,.sto 16,.post (Zff 2)] 10 (by kernel_rfl)
    (RD (boxed X w.heap.size 4) l' m') 202 _ RD.stable HI.out ?_ rfl (by decide) ?_
   ·refine ⟨fun vc β u hu => ?_,fun vc β u hu => ?_,fun vc β u hu => ?_,fun vc β u hu => ?_,fun vc β u hu => ?_,fun vc β u hu => ?_,fun vc β u hu => ?_,fun vc β u hu => ?_,fun vc β u hu => ?_,fun vc β u hu => ?_,fun vc β u => ?_,?_,?_,?_,?_,fun vc β u => ?_,fun vc β u => ?_,?_,?_,?_,trivial⟩
    all_goals try simp [pa,Kd.val,go_sem,hu.up c2,hu.up y0,hu.up y1,hu.up y2,hu.up d2,hu.up v0,hu.up v1,hu.up v2,hlt]
    all_goals try (simp [pa,Kd.val,go_sem]; done)
    all_goals try (rintro vc β Z u ⟨s,n,ca,cl,cc,s',n',ca',cl',cc',q,rfl,_,_⟩; simp [pa,Kd.val,go_sem,Zff]; done)
    ·rintro vc β Z u t z sx cs he ⟨s,n,ca,cl,cc,s',n',ca',cl',cc',q,rfl,_,_⟩ hb
     simp at he
     obtain ⟨rfl,rfl,rfl,rfl⟩:=he
     obtain ⟨q0,q1,q2,qf⟩:=box3 hb
     refine ⟨_,?_,Zjy hb (.string s) (.int .i64 n) (.slice ca cl cc)⟩
     simp [pa,Kd.val,go_sem,q0,q1,q2,qf,Zff]
    ·rintro vc β Z u t z sx cs he ⟨s,n,ca,cl,cc,s',n',ca',cl',cc',q,rfl,_,_⟩ hb
     simp at he
     obtain ⟨rfl,rfl,rfl,rfl⟩:=he
     obtain ⟨q0,q1,q2,qf⟩:=box3 hb
     refine ⟨_,?_,Zjy hb (.string s') (.int .i64 n') (.slice ca' cl' cc')⟩
     simp [pa,Kd.val,go_sem,q0,q1,q2,qf,Zff]
   rintro vc β w1 hext1 ⟨s3,n3,c3a,c3l,c3c,s4,n4,c4a,c4l,c4c,q,rfl,hq1,hq2⟩ hbox _
   have hext1:=hext1.undrew
   obtain ⟨hb0,hbx⟩:=hbox 15 _ _ _ _ rfl
   obtain ⟨hb0',hbx'⟩:=hbox 16 _ _ _ _ rfl
   obtain ⟨q0,q1,q2,_⟩:=box3 hbx
   obtain ⟨r0,r1,r2,_⟩:=box3 hbx'
   have hs1:=hext1.size
   have Hext1:=Zaa hext1
   have Hq1:=Zaa hq1
   have Hq2:=Zaa hq2
   clear hext1 hbox hbx hbx' hq1 hq2 y0 y1 y2 v0 v1 v2
   simp only [paAll,pa,Kd.val,if_true,Act.put,Zff]
   cases q
   ·go_wp2
    go_roundg (ls.length - k)
    case measure=>omega
    case rel =>
     exact ⟨k+1,by go_num,by omega,by omega,Hext.out.trans (Hext1.out.mono Hext.out.size),Hnx.out (Hq1.out trivial),(Hext1.out.block _ (by omega)).trans B0.out,(Hext1.out.block _ (by omega)).trans B1.out,(Hext1.out.block _ (by omega)).trans B2.out,(Hext1.out.block _ (by omega)).trans B3.out⟩
   ·obtain ⟨x,y,g1,g2,g3⟩:=Hq2.out rfl
    have G1:=Zaa g1
    have G2:=Zaa g2
    have G3:=Zaa (Hpt.out x y g3)
    obtain ⟨p0,p1,p2,pf⟩:=box3 ((Hext1.out.block _ (by omega)).trans B2.out)
    obtain ⟨o0,o1,o2,of'⟩:=box3 ((Hext1.out.block _ (by omega)).trans B3.out)
    clear g1 g2 g3 Hq2
    go_wp2
    go_region
    go_wp2
    refine bodyPost_ret (v := .tuple #[.agg #[.string s3,.int .i64 n3,.slice c3a c3l c3c],.agg #[.string s4,.int .i64 n4,.slice c4a c4l c4c],.bool true]) (by simp [results,Tryz.results202,go_sem,p0,p1,p2,pf,o0,o1,o2,of']) rfl ?_
    refine ⟨_,rfl,(Hext.out.trans (Hext1.out.mono Hext.out.size)).trans (Kept.below (S:=fun k=>w.heap.size≤k∧k<w.heap.size+4) (by repeat' (first | with_reducible(first|exact Qx _ _|apply Kept.drew|apply Kept.drewN|apply Qz|refine Qy ?_ ?_ _)|(intro _; simp only; omega))) (by omega) (fun j h=>h.1)),s3,n3,c3a,c3l,c3c,s4,n4,c4a,c4l,c4c,true,rfl,by simp,fun _=>⟨x,y,G1.out.boxes (by repeat' (first | with_reducible(first|exact Qx _ _|apply Kept.drew|apply Kept.drewN|apply Qz|refine Qy ?_ ?_ _)|(intro _; simp only; omega))),G2.out.boxes (by repeat' (first | with_reducible(first|exact Qx _ _|apply Kept.drew|apply Kept.drewN|apply Qz|refine Qy ?_ ?_ _)|(intro _; simp only; omega))),G3.out⟩⟩
  ·have hek:k=ls.length:=by omega
   subst hek
   have He:Hid (ls=ms):=by have:=Htk.out; rw [List.take_length,Hlen.out,List.take_length] at this; exact this
   have q0:=c0
   go_wp2
   go_region
   go_wp2
   refine bodyPost_ret (v := .tuple #[.agg #[.string s,.int .i64 nv,.slice ca ls.length ccap],.agg #[.string s',.int .i64 nv',.slice ca' ls.length ccap'],.bool false]) (by simp [results,Tryz.results202,go_sem,e0,e1,e2,ef,f0,f1,f2,ff]) rfl ?_
   refine ⟨_,rfl,Hext.out.trans (Kept.below (S:=fun k=>w.heap.size≤k∧k<w.heap.size+4) (by repeat' (first | with_reducible(first|exact Qx _ _|apply Kept.drew|apply Kept.drewN|apply Qz|refine Qy ?_ ?_ _)|(intro _; simp only; omega))) (by omega) (fun j h=>h.1)),s,nv,ca,_,ccap,s',nv',ca',_,ccap',false,rfl,fun _=>by rw [He.out],by simp⟩
theorem Ztt (w:World) (X:Nat→Prop) (n:Nat) :
  Calls Tryz.prog 202 #[.agg #[.string ⟨#[]⟩,.int .i64 n,.slice none 0 0],.agg #[.string ⟨#[]⟩,.int .i64 n,.slice none 0 0]] w fun e w'=>∃ r,e = .returned r∧Ext w w'∧RD X (vr n) (vr n) (fun _=>False) r w':=by
 go_enter Tryz.func202,Tryz.ntmps202
 go_wp2
 go_loopg [7] 1 (fun gk i wr=>i = .int .i64 0∧0<gk∧Ext w wr ∧
   wr.heap[w.heap.size]?=some (.cells #[.string ⟨#[]⟩,.int .i64 n,.slice none 0 0] 183 (0,0)) ∧
   wr.heap[w.heap.size+1]?=some (.cells #[.string ⟨#[]⟩,.int .i64 n,.slice none 0 0] 183 (0,0)) ∧
   wr.heap[w.heap.size+1+1]?=some (.cells #[.string ⟨#[]⟩,.int .i64 0,.slice none 0 0] 183 (0,0)) ∧
   wr.heap[w.heap.size+1+1+1]?=some (.cells #[.string ⟨#[]⟩,.int .i64 0,.slice none 0 0] 183 (0,0)))
 case atStart =>
  refine ⟨rfl,by omega,(Ext.of (by repeat' (first | with_reducible(first|exact Qx _ _|apply Kept.drew|apply Kept.drewN|apply Qz|refine Qy ?_ ?_ _)|exact fun h=>absurd h (by simp <;> omega)))),?_,?_,?_,?_⟩
  ·exact Zag (Zag (Zag (heap_alloc_new w _) _) _) _
  ·simpa using Zag (Zag (heap_alloc_new (w.alloc _) _) _) _
  ·simpa using Zag (heap_alloc_new ((w.alloc _).alloc _) _) _
  ·simpa using heap_alloc_new (((w.alloc _).alloc _).alloc _) _
 case round =>
  obtain ⟨rfl,hg,hext,h0,h1,h2,h3⟩:=hrel
  obtain ⟨c0,c1,c2,cf⟩:=box3 h0
  obtain ⟨d0,d1,d2,df⟩:=box3 h1
  obtain ⟨e0,e1,e2,ef⟩:=box3 h2
  obtain ⟨f0,f1,f2,ff⟩:=box3 h3
  have Hext:=Zaa hext
  have hs:=hext.size
  clear hext h0 h1 h2 h3
  go_wp2
  go_region
  go_wp2
  refine bodyPost_ret (v := .tuple #[.agg #[.string ⟨#[]⟩,.int .i64 n,.slice none 0 0],.agg #[.string ⟨#[]⟩,.int .i64 n,.slice none 0 0],.bool false]) (by simp [results,Tryz.results202,go_sem,e0,e1,e2,ef,f0,f1,f2,ff]) rfl ?_
  refine ⟨_,rfl,Hext.out.trans (Kept.below (S:=fun k=>w.heap.size≤k∧k<w.heap.size+4) (by repeat' (first | with_reducible(first|exact Qx _ _|apply Kept.drew|apply Kept.drewN|apply Qz|refine Qy ?_ ?_ _)|(intro _; simp only; omega))) (by omega) (fun j h=>h.1)),⟨#[]⟩,n,none,0,0,⟨#[]⟩,n,none,0,0,false,rfl,fun _=>rfl,by simp⟩
theorem Zya:∀ n,Zon n:=by
 intro n
 induction n with
 | zero =>
  intro w X a b c a' b' c' l m hl _ _ h
  have:=Zcp (h.wf _ (Qe _))
  omega
 | succ n ih =>
  intro w X a b c a' b' c' l m hl hl4 hm4 h h' hX
  have w1:=h.wf _ (Qe _)
  have w2:=h'.wf _ (Qe _)
  rcases h.out with ⟨k,rfl,rfl,rfl,rfl⟩ | ⟨nm,ls,xs,h1,rfl,rfl,rfl,h5⟩
  ·rcases h'.out with ⟨k',rfl,rfl,rfl,rfl⟩ | ⟨nm',ls',xs',h1',rfl,rfl,rfl,h5'⟩
   ·by_cases hk:k=k'
    ·subst hk; exact Ztt w X k
    ·exact Zgu w X _ _ k k' _ _ _ _ _ _ _ _ h h' (Zhw w1 w2 (by simp; exact hk)) (Or.inr (Or.inr ⟨rfl,rfl,Zef [],by rw [bne_iff_ne]; omega⟩))
   ·obtain ⟨ca,ccap,rfl⟩:=Zad h5'.1
    refine Zgu w X _ _ k 0 _ _ _ _ _ _ _ _ h h' (Zhw w1 w2 (by simp; intro e; exact absurd e h1')) (Or.inl ?_)
    intro e
    have e2:([]:List UInt8)=nm':=(Zef []).symm.trans (e.trans (Zef nm'))
    exact h1' e2.symm
  ·obtain ⟨ca,ccap,rfl⟩:=Zad h5.1
   rcases h'.out with ⟨k',rfl,rfl,rfl,rfl⟩ | ⟨nm',ls',xs',h1',rfl,rfl,rfl,h5'⟩
   ·refine Zgu w X _ _ 0 k' _ _ _ _ _ _ _ _ h h' (Zhw w1 w2 (by simp; intro e; exact absurd e h1)) (Or.inl ?_)
    intro e
    exact h1 ((Zef nm).symm.trans (e.trans (Zef [])))
   ·obtain ⟨ca',ccap',rfl⟩:=Zad h5'.1
    by_cases hn:nm=nm'
    ·subst hn
     by_cases hlen:ls.length=ls'.length
     ·have:=Zxz n ih w X ⟨nm.toArray⟩ ⟨nm.toArray⟩ 0 0 _ _ ls ls' xs xs' ⟨nm,0,ls.length⟩ h5 h5' hX hlen (by simp only [Qf] at hl; omega) (by simp only [Qf] at hl4; omega) (by simp only [Qf] at hm4; omega) rfl (by rw [Zef]; exact h1)
      have e:(⟨nm,0,ls'.length⟩:Sym)=⟨nm,0,ls.length⟩:=by rw [hlen]
      rw [e]
      exact this
     ·exact Zgu w X _ _ 0 0 _ _ _ _ _ _ _ _ h h' (Zhw w1 w2 (by simp; exact hlen)) (Or.inr (Or.inl ⟨rfl,by omega⟩))
    ·refine Zgu w X _ _ 0 0 _ _ _ _ _ _ _ _ h h' (Zhw w1 w2 (by simp; intro e; exact absurd e hn)) (Or.inl ?_)
     rw [Zef,Zef]
     exact hn
def Zyb:Kd→Bool
 | .pur _=>true
 | .cal=>true
 | _=>false
def Zlr (ops:List Oper) (kd:List Kd) (ic fi:Nat):Bool :=
 ops.length == kd.length &&
 (List.range ops.length).all fun i=>match ops[i]?,kd[i]? with
  | some o,some q =>
   o.guard.isNone && (match o.op with | .select .. => false | _=>true) &&
   (o.after.all fun e => !Region.binds .any e || e.on<i) &&
   ((List.range ops.length).all fun j=>match ops[j]? with
    | some p=>match p.dst with
     | some d=>((j == i) || (o.dst != some d)) && (!(o.looksAt ops.toArray).contains d || Zcy o j)
     | none=>true
    | none=>true) &&
   (match q with
    | .pur _=>(List.range ops.length).any fun j=>i<j && (match ops[j]?,kd[j]? with | some p,some r=>Zcy p i && Zyb r | _,_=>false)
    | .cal=>i == ic
    | .post _=>(List.range i).any fun j=>Zcy o j && (match kd[j]? with | some r=>Zdb r | none=>false)
    | .alo .. => false
    | .sto _=>i == fi && o.dst.isNone && ((List.range i).any fun j=>Zcy o j && (match kd[j]? with | some r=>Zdb r | none=>false)))
  | _,_=>false
structure LastAt (ops:List Oper) (kd:List Kd) (ic fi i:Nat) (o:Oper) (q:Kd):Prop where
 gd:o.guard=none
 sel:∀ cs b,o.op ≠ .select cs b
 low:∀ e ∈ o.after,Region.binds .any e=true→e.on<i
 dst:∀ j p d,ops[j]?=some p→p.dst=some d→j=i∨o.dst≠some d
 look:∀ j p d,ops[j]?=some p→p.dst=some d→d ∈ o.looksAt ops.toArray→Zcy o j=true
 pur:∀ c,q = .pur c→∃ j p r,i<j∧ops[j]?=some p∧kd[j]?=some r∧Zcy p i=true∧Zyb r=true
 cal:q = .cal→i=ic
 post:Zcs q=true→∃ j r,Zcy o j=true∧kd[j]?=some r∧Zdb r=true
 alo:∀ t z s cs,q ≠ .alo t z s cs
 sto:∀ k,q = .sto k→i=fi∧o.dst=none
theorem Ztu {ops:List Oper} {kd:List Kd} {ic fi:Nat} (h:Zlr ops kd ic fi=true) {i:Nat} {o:Oper} (ho:ops[i]?=some o):∃ q,kd[i]?=some q∧LastAt ops kd ic fi i o q:=by
 unfold Zlr at h
 simp only [Bool.and_eq_true,List.all_eq_true,List.mem_range,beq_iff_eq] at h
 obtain ⟨hl,h⟩:=h
 have hi:=(Qa.1 ho).1
 have h:=h i hi
 rw [ho] at h
 cases hq:kd[i]? with
 | none=>rw [hq] at h; simp at h
 | some q =>
  rw [hq] at h
  simp only [Bool.and_eq_true,List.all_eq_true,List.mem_range] at h
  obtain ⟨⟨⟨⟨h1,h2⟩,h3⟩,h4⟩,h5⟩:=h
  have hpost:∀ (b:Bool),((List.range i).any fun j=>Zcy o j && (match kd[j]? with | some r=>Zdb r | none=>false))=true→∃ j r,Zcy o j=true∧kd[j]?=some r∧Zdb r=true:=by
   intro _ h
   simp only [List.any_eq_true,List.mem_range,Bool.and_eq_true] at h
   obtain ⟨j,_,h6,h7⟩:=h
   cases hr:kd[j]? with
   | none=>rw [hr] at h7; simp at h7
   | some r=>rw [hr] at h7; exact ⟨j,r,h6,hr,h7⟩
  refine ⟨q,rfl,?_,?_,?_,?_,?_,?_,?_,?_,?_,?_⟩
  ·simpa using h1
  ·intro cs b e; rw [e] at h2; simp at h2
  ·intro e he hb
   have:=Array.all_eq_true_iff_forall_mem.1 h3 e he
   simpa [hb] using this
  ·intro j p d hp hd
   have:=h4 j (Qa.1 hp).1
   rw [hp] at this
   simp only [hd,Bool.and_eq_true,Bool.or_eq_true,beq_iff_eq,bne_iff_ne] at this
   exact this.1
  ·intro j p d hp hd hm
   have:=h4 j (Qa.1 hp).1
   rw [hp] at this
   simp only [hd,Bool.and_eq_true,Bool.or_eq_true,beq_iff_eq,bne_iff_ne] at this
   rcases this.2 with h | h
   ·simp [hm] at h
   ·exact h
  ·intro c e
   subst e
   simp only [List.any_eq_true,List.mem_range,Bool.and_eq_true] at h5
   obtain ⟨j,hj,h6,h7⟩:=h5
   have hp:ops[j]?=some ops[j]:=Qb hj
   cases hr:kd[j]? with
   | none=>rw [hp,hr] at h7; simp at h7
   | some r =>
    rw [hp,hr] at h7
    simp only [Bool.and_eq_true] at h7
    exact ⟨j,_,r,by simpa using h6,hp,hr,h7.1,h7.2⟩
  ·intro e; subst e; simpa using h5
  ·intro hp
   cases q with
   | post g=>exact hpost true h5
   | sto k =>
    simp only [Bool.and_eq_true] at h5
    exact hpost true h5.2
   | _=>simp [Zcs] at hp
  ·intro t z s cs e; subst e; simp at h5
  ·intro k e
   subst e
   simp only [Bool.and_eq_true,beq_iff_eq] at h5
   exact ⟨h5.1.1,by simpa using h5.1.2⟩
def ObL (P:Program) (w0:World) (FA:Value→Act) (R R':Value→World→Prop) (f:FuncId) (args:Array Value) (o:Oper):Kd→Prop
 | .pur c=>∀ vc,(execOp (FA vc).eval o).run P w0 = .ok (.value c) w0
 | .post g=>∀ vc w,R vc w∨R' vc w→(execOp (FA vc).eval o).run P w = .ok (.value (g vc)) w
 | .cal=>∀ vc,(execOp (FA vc).eval o).run P w0 = .ok (.enter f args) w0
 | .alo .. => True
 | .sto _=>∀ vc w,R vc w→∃ w',(execOp (FA vc).eval o).run P w = .ok .skip w'∧R' vc w'
def AllObL (P:Program) (w0:World) (FA:Value→Act) (R R':Value→World→Prop) (f:FuncId) (args:Array Value):List Oper→List Kd→Prop
 | o::os,q::qs=>ObL P w0 FA R R' f args o q∧AllObL P w0 FA R R' f args os qs
 | _,_=>True
theorem AllObL.at {P:Program} {w0:World} {FA:Value→Act} {R R':Value→World→Prop} {f:FuncId} {args:Array Value}:∀ {ops:List Oper} {ks:List Kd},AllObL P w0 FA R R' f args ops ks →
  ∀ {i:Nat} {o:Oper} {q:Kd},ops[i]?=some o→ks[i]?=some q→ObL P w0 FA R R' f args o q:=by
 intro ops
 induction ops with
 | nil=>intro ks _ i o q h; simp at h
 | cons p os ih =>
  intro ks h i o q ho hq
  cases ks with
  | nil=>simp at hq
  | cons r qs =>
   cases i with
   | zero=>simp at ho hq; subst ho hq; exact h.1
   | succ i=>exact ih h.2 (by simpa using ho) (by simpa using hq)
abbrev noB:Nat→Nat:=fun _=>0
structure LastPlan (ops:List Oper) (kd:List Kd) (ic fi:Nat) (a0:Act) (w0:World) (R R':Value→World→Prop) (L:Array Bool) (a:Act) (w:World):Prop where
 size:L.size=ops.length
 closed:∀ (i:Nat) o,ops[i]?=some o→L.getD i false=true→∀ j,Zcy o j=true→L.getD j false=true
 st:∃ vc,a=pa a0 vc noB (fun j=>L.getD j false) 0 ops kd∧(L.getD ic false=false→w=w0)∧(L.getD ic false=true→(L.getD fi false=false→R vc w)∧(L.getD fi false=true→R vc w∨R' vc w)∧(L.getD fi false=true→(∃ k,kd[fi]?=some (.sto k))→R' vc w)) ∧
  (∀ (i:Nat) q,kd[i]?=some q→L.getD i false=true→Zcs q=true→L.getD ic false=true)
theorem Zji {P:Program} {ops:List Oper} {id:Nat} {Q:Exit→Act→World→Prop} {a0:Act} {w:World} (hm:P.follows .mixedOrders=true) (kd:List Kd) (ic fi:Nat) (hfit:Zlr ops kd ic fi=true)
  (R R':Value→World→Prop) (f:FuncId) (args:Array Value)
  (hC:Calls P f args w.drew (fun e u'=>∃ v,e = .returned v∧R v u'))
  (hob:AllObL P w.drew (fun vc=>paAll a0 ops kd vc noB) R R' f args ops kd)
  (hcal:kd[ic]?=some .cal) (hil:ic<ops.length) (hfi:(∃ k,kd[fi]?=some (.sto k))∨(ops.length≤fi∧∀ v u,R v u→R' v u))
  (hQ:∀ vc u,R' vc u→Q .normal (paAll a0 ops kd vc noB) u) :
  (Code.region id ops.toArray true).wp P Q a0 w:=by
 have hlen:ops.length=kd.length:=by
  unfold Zlr at hfit
  simp only [Bool.and_eq_true,beq_iff_eq] at hfit
  exact hfit.1
 have hkat:∀ {i':Nat} {q':Kd},kd[i']?=some q'→∃ o',ops[i']?=some o'∧LastAt ops kd ic fi i' o' q':=fun {i' q'} h1=>by
  have ho:=Qb (l:=ops) (i:=i') (by have:=(Qa.1 h1).1; omega)
  obtain ⟨q2,hq2,hF2⟩:=Ztu hfit ho
  rw [h1] at hq2; simp at hq2; subst hq2
  exact ⟨_,ho,hF2⟩
 refine wp_region_any hm (Zjx (J:=LastPlan ops kd ic fi a0 w.drew R R') ?_ ?_ _ _ _ _ ?_ ?_)
 ·intro L a u i hr hJ
  obtain ⟨hsz,hcl,vc,rfl,hw0,hcR,hpost⟩:=hJ
  obtain ⟨h0,o,ho',_⟩:=mem_ready.1 hr
  have ho:ops[i]?=some o:=by simpa using ho'
  have hi:i<ops.length:=(Qa.1 ho).1
  have hil:i<L.size:=by omega
  have hun:L.getD i false=false:=by simp [hil] at h0 ⊢; exact h0
  obtain ⟨q,hq,hF⟩:=Ztu hfit ho
  have hOb:=hob.at ho hq
  have hexec:execOp (pa a0 vc noB (fun j=>L.getD j false) 0 ops kd).eval o=execOp (paAll a0 ops kd vc noB).eval o:=by
   refine execOp_congr o hF.sel (fun x hx=>Zpu (fun j p hp hl d hd e => ?_))
   subst e
   have hw:=hF.look j p d hp hd (List.mem_append_left _ (List.mem_filterMap.2 ⟨.tmp d,by simpa using hx,rfl⟩))
   have:=Zbu hr ho hw
   simp only [Nat.zero_add] at hl
   rw [hl] at this
   simp at this
  have hwant:Region.wanted o (yielded ops.toArray (pa a0 vc noB (fun j=>L.getD j false) 0 ops kd).tmps)=true:=by simp [Region.wanted,hF.gd]
  have hL:=Zhb hil
  have hput:∀ vc',(∀ j r,kd[j]?=some r→L.getD j false=true→r.val vc noB j=r.val vc' noB j) →
    (pa a0 vc noB (fun j=>L.getD j false) 0 ops kd).put o.dst (q.val vc' noB i)=pa a0 vc' noB (fun j=>(L.setIfInBounds i true).getD j false) 0 ops kd:=by
   intro vc' hv
   have e1:pa a0 vc noB (fun j=>L.getD j false) 0 ops kd=pa a0 vc' noB (fun j=>L.getD j false) 0 ops kd:=Zei (fun j r hr'=>by
    simp only [Nat.zero_add]
    exact ⟨trivial,fun hl=>hv j r hr' hl⟩)
   rw [e1]
   have e2:=Zvs (a0:=a0) (vc:=vc') (β:=noB) (lst:=fun j=>L.getD j false) (k:=0) ho hq (by simpa using hun) hF.dst
   simp only [Nat.zero_add] at e2
   rw [← e2]
   exact Zei (fun j r hr'=>⟨by simp only [Nat.zero_add,hL],fun _=>rfl⟩)
  have hold:∀ j,L.getD j false=true→(L.setIfInBounds i true).getD j false=true:=fun j h=>by rw [hL,h]; rfl
  have hnew:∀ j,j≠i→(L.setIfInBounds i true).getD j false=L.getD j false:=fun j h=>by
   rw [hL]
   have:(j == i)=false:=by rw [Qu]; exact h
   simp [this]
  have hne:∀ {i':Nat} {q':Kd},kd[i']?=some q'→q'≠q→i'≠i:=fun {i' q'} h1 h2 e=>by
   subst e; rw [hq] at h1; exact h2 (Option.some.inj h1).symm
  have hcl':∀ (i':Nat) o',ops[i']?=some o'→(L.setIfInBounds i true).getD i' false=true→∀ j,Zcy o' j=true→(L.setIfInBounds i true).getD j false=true:=by
   intro i' o' h1 h2 j hj
   by_cases e:i'=i
   ·subst e
    rw [ho] at h1; simp at h1; subst h1
    exact hold _ (Zbu hr ho hj)
   ·exact hold _ (hcl i' o' h1 ((hnew i' e).symm.trans h2) j hj)
  have hpost':Zcs q=false→∀ (i':Nat) q',kd[i']?=some q'→(L.setIfInBounds i true).getD i' false=true→Zcs q'=true→(L.setIfInBounds i true).getD ic false=true:=fun hp i' q' h1 h2 h3 =>
   hold _ (hpost i' q' h1 ((hnew i' (hne h1 (fun e=>by rw [e,hp] at h3; simp at h3))).symm.trans h2) h3)
  have hcall:Zcs q=true→L.getD ic false=true:=fun hp=>by
   obtain ⟨j,r,h1,h2,h3⟩:=hF.post hp
   have hj:=Zbu hr ho h1
   cases r with
   | post g=>exact hpost j _ h2 hj rfl
   | cal =>
    obtain ⟨o',_,hF'⟩:=hkat h2
    have:=hF'.cal rfl
    rw [← this]; exact hj
   | _=>simp [Zdb] at h3
  -- the reads stand ahead of the call
  have hahead:∀ (n:Nat) (i':Nat) c,ops.length - i'≤n→kd[i']?=some (.pur c)→L.getD ic false=true→L.getD i' false=true:=by
   intro n
   induction n with
   | zero =>
    intro i' c hn h1 _
    have:=(Qa.1 h1).1
    omega
   | succ n ih =>
    intro i' c hn h1 h2
    obtain ⟨o',_,hF'⟩:=hkat h1
    obtain ⟨j,p,r,h3,h4,h5,h6,h7⟩:=hF'.pur c rfl
    have hjl:L.getD j false=true:=by
     cases r with
     | pur c'=>exact ih j c' (by omega) h5 h2
     | cal =>
      obtain ⟨o2,_,hF2⟩:=hkat h5
      rw [hF2.cal rfl]; exact h2
     | _=>simp [Zyb] at h7
    exact hcl j p h4 hjl i' h6
  unfold wpOp
  simp only [ho']
  rw [if_pos hwant]
  refine Or.inl ?_
  unfold Oper.wp
  rw [hexec]
  cases q with
  | pur c =>
   have hnc:L.getD ic false=false:=by
    cases h:L.getD ic false with
    | false=>rfl
    | true =>
     have:=hahead _ i c (Qe _) hq h
     rw [hun] at this; simp at this
   have hic:ic≠i:=hne hcal (by simp)
   have hu:=hw0 hnc
   subst hu
   rw [hOb vc]
   refine ⟨by simpa using hsz,hcl',vc,hput vc (fun _ _ _ _=>rfl),fun _=>rfl,?_,hpost' rfl⟩
   intro h
   rw [hnew ic hic,hnc] at h
   simp at h
  | post g =>
   have hic:=hcall rfl
   have hfn:fi≠i:=by
    rcases hfi with ⟨k,hk⟩ | ⟨hk,_⟩
    ·exact hne hk (by simp)
    ·omega
   have hS:R vc u∨R' vc u:=by
    cases h:L.getD fi false with
    | false=>exact Or.inl ((hcR hic).1 h)
    | true=>exact (hcR hic).2.1 h
   rw [hOb vc u hS]
   refine ⟨by simpa using hsz,hcl',vc,hput vc (fun _ _ _ _=>rfl),?_,?_,fun i' q' _ _ _=>hold _ hic⟩
   ·intro h
    have:=hold _ hic
    rw [h] at this; simp at this
   ·intro _
    rw [hnew fi hfn]
    exact hcR hic
  | cal =>
   have hie:=hF.cal rfl
   have hnc:L.getD ic false=false:=by rw [← hie]; exact hun
   have hu:=hw0 hnc
   subst hu
   rw [hOb vc]
   refine hC.mono ?_
   rintro e u' ⟨v,rfl,hr'⟩
   have hff:L.getD fi false=false:=by
    rcases hfi with ⟨k,hk⟩ | ⟨hk,_⟩
    ·cases h:L.getD fi false with
     | false=>rfl
     | true =>
      have:=hpost fi _ hk h rfl
      rw [hnc] at this; simp at this
    ·have:¬ fi<L.size:=by omega
     simp [this]
   have hfn:fi≠i:=by
    rcases hfi with ⟨k,hk⟩ | ⟨hk,_⟩
    ·exact hne hk (by simp)
    ·omega
   refine ⟨by simpa using hsz,hcl',v,hput v ?_,?_,?_,?_⟩
   ·intro j r h1 h2
    cases r with
    | post g =>
     have:=hpost j _ h1 h2 rfl
     rw [hnc] at this; simp at this
    | cal =>
     obtain ⟨o',_,hF'⟩:=hkat h1
     have:=hF'.cal rfl
     rw [this,hnc] at h2; simp at h2
    | _=>rfl
   ·intro h
    rw [← hie,hL] at h
    simp at h
   ·intro _
    rw [hnew fi hfn,hff]
    exact ⟨fun _=>hr',fun h=>by simp at h,fun h=>by simp at h⟩
   ·intro i' q' _ _ _
    rw [← hie,hL]; simp
  | alo t z s cs=>exact absurd rfl (hF.alo t z s cs)
  | sto k =>
   have hic:=hcall rfl
   obtain ⟨hif,hdn⟩:=hF.sto k rfl
   obtain ⟨w',hrun,hR'⟩:=hOb vc u ((hcR hic).1 (by rw [← hif]; exact hun))
   rw [hrun]
   refine ⟨by simpa using hsz,hcl',vc,hput vc (fun _ _ _ _=>rfl),?_,?_,fun i' q' _ _ _=>hold _ hic⟩
   ·intro h
    have:=hold _ hic
    rw [h] at this; simp at this
   ·intro _
    refine ⟨fun h => ?_,fun _=>Or.inr hR',fun _ _=>hR'⟩
    rw [← hif,hL] at h
    simp at h
 ·intro L a u hr hJ
  obtain ⟨hsz,hcl,vc,rfl,hw0,hcR,hpost⟩:=hJ
  have hall:∀ i,i<ops.length→L.getD i false=true:=by
   intro i
   induction i using Nat.strongRecOn with
   | _ i ih =>
    intro hi
    cases hl:L.getD i false with
    | true=>rfl
    | false =>
     exfalso
     have ho:ops[i]?=some ops[i]:=Qb hi
     obtain ⟨q,hq,hF⟩:=Ztu hfit ho
     have:i ∈ Region.ready .any ops.toArray L:=by
      refine mem_ready.2 ⟨?_,ops[i],by simp,fun e he hb=>ih e.on (hF.low e he hb) (by have:=hF.low e he hb; omega)⟩
      have hi':i<L.size:=by omega
      simp [hi'] at hl ⊢
      exact hl
     rw [hr] at this
     simp at this
  have e:pa a0 vc noB (fun j=>L.getD j false) 0 ops kd=paAll a0 ops kd vc noB:=Zei (fun j r hr'=>⟨by
   simp only [Nat.zero_add]
   exact hall j (by have:=(Qa.1 hr').1; omega),fun _=>rfl⟩)
  rw [e]
  have hR:=hcR (hall ic hil)
  refine hQ vc u ?_
  rcases hfi with ⟨k,hk⟩ | ⟨hk,hRR⟩
  ·exact hR.2.2 (hall fi (by have:=(Qa.1 hk).1; omega)) ⟨k,hk⟩
  ·refine hRR _ _ (hR.1 ?_)
   have:¬ fi<L.size:=by omega
   simp [this]
 ·have:(ops.toArray).size=ops.length:=by simp
  unfold unl
  exact Qq (List.length_filter_le _ _) (by simp)
 ·have hz:∀ j,(Array.replicate ops.toArray.size false).getD j false=false:=fun j=>by
   simp only [Array.getD_eq_getD_getElem?,Array.getElem?_replicate]
   split <;> rfl
  refine ⟨by simp,?_,undef,?_,fun _=>rfl,?_,?_⟩
  ·intro i o _ h; rw [hz] at h; simp at h
  ·have:∀ (k:Nat) (os:List Oper) (qs:List Kd),pa a0 undef noB (fun j=>(Array.replicate ops.toArray.size false).getD j false) k os qs=a0:=by
    intro k os
    induction os generalizing k with
    | nil=>intro qs; simp [pa]
    | cons o os ih =>
     intro qs
     cases qs with
     | nil=>simp [pa]
     | cons q qs=>rw [pa,hz]; simp only [Bool.false_eq_true,if_false]; exact ih _ _
   exact (this _ _ _).symm
  ·intro h; rw [hz] at h; simp at h
  ·intro i q _ h; rw [hz] at h; simp at h
end Go.Proofs.YtlmjilpjmgjjcaaGreatDoor
