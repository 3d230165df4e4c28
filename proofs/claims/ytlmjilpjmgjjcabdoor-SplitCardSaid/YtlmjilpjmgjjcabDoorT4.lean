/-
  PROVED HERE: plain facts: how a search goes on by tries and steps, and what stays true of it (no program, no memory; the conditions stand in each statement).
-/
import Derived.Test.YtlmjilpjmgjjcabDoorT3
import Derived.Laws.OwnMore
import Derived.Orders
import Derived.BigQuiet
import Derived.Deep.QuietTactic
import Derived.Deep.RegionWith
import Derived.Lib.ItoaLen
import Derived.Shelf.LaysM
import Derived.Shelf.Strconv.Itoa3
import Derived.Lib.AppendIntMem
set_option linter.unusedSimpArgs false
set_option linter.unusedVariables false
set_option maxRecDepth 10000
set_option maxHeartbeats 4000000
namespace Go.Proofs.YtlmjilpjmgjjcabDoor
open Go.RowKit
def Zsz (w:World) (size:Nat) (xv:Value) (m:Nat) (news:List Value):Prop :=
 news.length=m * size∧(∀ u ∈ news,u.oneCell'=true)∧((m=0∧xv = .slice none 0 0)∨∃ a c,xv = .slice (some a) m c∧∀ j u,news[j]?=some u→w.cell? (a.add j)=some u)
theorem Zpx {P:Program} (w:World) (t ty:TypeId) (base:Nat) (e:TypeId) {z:Value} {size bytes:Nat}
  (hinfo:(P.info? e).map (fun i=>(i.zero,i.size,i.bytes))=some (some z,size,bytes)) (ht:P.underlying t=some (.slice e)) (hzs:z.cells.size=size) (hsz:0<size)
  (v:Value) (n:Nat) (xs:List Value) (hown:w.ownsRow base e size v n xs) (xv:Value) (m:Nat) (news:List Value) (hx:Zsz w size xv m news)
  (hbig:(n+m) * (bytes+1)≤140737488355328) (hbase:base≤w.heap.size) :
  ∃ v' w',(Builtin.append_ #[t,t] ty #[v,xv]).run P w = .ok v' w'∧Appended w base e size v (n+m) (xs++news) v' w':=by
 obtain ⟨i,hi,hz,hsi,hby⟩:=info_parts hinfo
 have hb1:n+m≤140737488355328:=Qq (Nat.le_mul_of_pos_right (n+m) (Nat.succ_pos bytes)) hbig
 have hb2:(n+m) * bytes≤140737488355328:=Qq (Nat.mul_le_mul_left _ (Nat.le_succ _)) hbig
 have h63:n+m≤maxLen:=by simp only [maxLen]; omega
 obtain ⟨hl,h1,⟨rfl,rfl⟩ | ⟨a,c,rfl,hnews⟩⟩:=hx
 ·have hn:news=[]:=List.eq_nil_of_length_eq_zero (by simpa using hl)
  subst hn
  exact ⟨v,w,run_append_owned_none w base t ty e i size ht hi v n xs hown,by simpa using hown,Qx _ _,Or.inl rfl⟩
 ·obtain ⟨v',w',hr,hA,hB,hC⟩:=run_append_own (P:=P) w base t ty e i z size bytes ht hi hz hsi hby hzs hsz v n xs hown a m c news hl hnews h1 h63 hb2 hbase
  refine ⟨v',w',hr,hA,Kept.of_grown hB |>.mono (fun k _ h=>h),?_⟩
  rcases Nat.eq_zero_or_pos m with rfl | hm
  ·rcases hown.2 with ⟨rfl,rfl⟩ | ⟨g,cap,cur,rfl,hbg,hg,hnc,hcm,hcs,htake⟩
   ·have:=hC.2 ⟨rfl,rfl⟩
    rw [this]; exact Or.inl rfl
   ·have hfit:n * i.size+news.length≤cur.size:=by rw [hl,hcs,hsi]; simp; exact Nat.mul_le_mul_right _ hnc
    have hr':=run_append_room (P:=P) w t ty e i ht hi g n cap cur hg a 0 c news (by rw [hsi]; exact hl) hnews h1 (by omega) hfit
    rw [hr'] at hr
    injection hr with h2 h3
    subst h2
    exact Or.inl rfl
  ·subst hsi hby
   rcases Zgb (P:=P) w base t ty e i z ht hi hz v n xs hown a m c news hl hm hnews h1 h63 hb2 v' w' hr with h | h
   ·exact .inl h
   ·exact .inr ⟨_,h,Qe _⟩
theorem Zta {P:Program} {o:Oper} {a:Act} {K:Act→World→Prop} {Q:Exit→Act→World→Prop} (w:World) (s x:Operand) (t:TypeId)
  (ho:o.op = .call { callee := .builtin .append,args:=#[s,x],argTypes:=#[t,t] })
  (base:Nat) (e:TypeId) {z:Value} {size bytes:Nat}
  (hinfo:(P.info? e).map (fun i=>(i.zero,i.size,i.bytes))=some (some z,size,bytes)) (ht:P.underlying t=some (.slice e)) (hzs:z.cells.size=size) (hsz:0<size)
  (v:Value) (n:Nat) (xs:List Value) (hs:a.eval s=v) (hown:w.ownsRow base e size v n xs) (xv:Value) (m:Nat) (news:List Value) (hx:a.eval x=xv) (hr:Zsz w size xv m news)
  (hbig:(n+m) * (bytes+1)≤140737488355328) (hbase:base≤w.heap.size)
  (h:∀ v' w',Appended w base e size v (n+m) (xs++news) v' w'→K (a.put o.dst v') w'):o.wp P a w K Q:=by
 obtain ⟨v',w',hrun,hA⟩:=Zpx (P:=P) w t o.type base e hinfo ht hzs hsz v n xs hown xv m news hr hbig hbase
 unfold Oper.wp
 simp [execOp,ho,resolve,invoke,builtin,hs,hx,hrun,Result.andThen]
 exact h v' w' hA
theorem Zhc {P:Program} {ops:Array Oper} {rest:List Oper} {o:Oper} {a:Act} {Q:Exit→Act→World→Prop} (w:World) (hgd:o.guard=none) (s x:Operand) (t:TypeId)
  (ho:o.op = .call { callee := .builtin .append,args:=#[s,x],argTypes:=#[t,t] })
  (base:Nat) (e:TypeId) {z:Value} {size bytes:Nat}
  (hinfo:(P.info? e).map (fun i=>(i.zero,i.size,i.bytes))=some (some z,size,bytes)) (ht:P.underlying t=some (.slice e)) (hzs:z.cells.size=size) (hsz:0<size)
  (v:Value) (n:Nat) (xs:List Value) (hs:a.eval s=v) (hown:w.ownsRow base e size v n xs) (xv:Value) (m:Nat) (news:List Value) (hx:a.eval x=xv) (hr:Zsz w size xv m news)
  (hbig:(n+m) * (bytes+1)≤140737488355328) (hbase:base≤w.heap.size)
  (h:∀ v' w',Appended w base e size v (n+m) (xs++news) v' w'→wpList P ops Q rest (a.put o.dst v') w'):wpList P ops Q (o::rest) a w :=
 wpList_plain hgd fun _ hK=>Zta w s x t ho base e hinfo ht hzs hsz v n xs hs hown xv m news hx hr hbig hbase fun v' w' h2=>hK _ _ (h v' w' h2)
theorem Zob {w:World} {B:Nat} {e:TypeId} {size n:Nat} {v:Value} {xs:List Value} (h:w.ownsRow B e size v n xs) (h1:∀ u ∈ xs,u.oneCell'=true):Zsz w size v n xs:=by
 refine ⟨h.1,h1,?_⟩
 rcases h.2 with ⟨rfl,rfl⟩ | ⟨g,cap,cur,rfl,_⟩
 ·exact Or.inl ⟨rfl,rfl⟩
 ·exact Or.inr ⟨⟨g,0,none⟩,cap,rfl,fun j u hu=>h.cells (g:=g) rfl j u hu⟩
abbrev Ext (w w':World):Prop:=Below w.heap.size w w'
section inv
variable {P:Program} {ops:Array Oper} {Q:Exit→Act→World→Prop} {md:Region.Mode}
def unl (ops:Array Oper) (L:Array Bool):Nat:=((List.range ops.size).filter (fun i => !L.getD i true)).length
theorem Zoc {α:Type} {p q:α→Bool} {l:List α} (h:∀ x ∈ l,q x=true→p x=true) {x:α} (hx:x ∈ l) (hp:p x=true) (hq:q x=false):(l.filter q).length<(l.filter p).length:=by
 induction l with
 | nil=>simp at hx
 | cons y l ih =>
  have hle:(l.filter q).length≤(l.filter p).length:=by
   clear ih hx
   induction l with
   | nil=>simp
   | cons z l ih =>
    have h1:=h z (by simp)
    have h2:=ih (fun u hu=>h u (by
     rcases Qp.1 hu with rfl | hu
     ·simp
     ·simp [hu]))
    simp only [List.filter_cons]
    split
    ·rename_i hz
     rw [if_pos (h1 hz)]; simp; omega
    ·split <;> simp <;> omega
  simp only [List.filter_cons]
  rcases Qp.1 hx with rfl | hx
  ·rw [hp,hq]; simp; omega
  ·have:=ih (fun u hu=>h u (by simp [hu])) hx
   split
   ·rename_i hy
    rw [if_pos (h y (by simp) hy)]; simp; omega
   ·split <;> simp <;> omega
theorem Zwe {L:Array Bool} {i:Nat} (hi:i<ops.size) (hl:L.getD i true=false):unl ops (L.setIfInBounds i true)<unl ops L:=by
 have hil:i<L.size:=by
  rcases Nat.lt_or_ge i L.size with h | h
  ·exact h
  ·simp [Array.getElem?_eq_none h] at hl
 refine Zoc (x:=i) (fun j _ hj => ?_) (List.mem_range.2 hi) (by simp at hl ⊢; exact hl) (by simp [hil])
 by_cases e:i=j
 ·subst e; simp [hil] at hj
 ·rw [getD_set_ne true e] at hj; exact hj
theorem Zkd {J:Array Bool→Act→World→Prop} (hs:∀ L a w i,i ∈ Region.ready md ops L→J L a w→wpOp P ops Q i (J (L.setIfInBounds i true)) a w)
  (hf:∀ L a w,Region.ready md ops L=[]→J L a w→Q .normal a w):∀ (fuel:Nat) (L:Array Bool) (a:Act) (w:World),unl ops L≤fuel→J L a w→wpAny P md ops Q fuel L a w:=by
 intro fuel
 induction fuel with
 | zero =>
  intro L a w hu hJ
  have hr:Region.ready md ops L=[]:=by
   cases h:Region.ready md ops L with
   | nil=>rfl
   | cons i r =>
    have hi:i ∈ Region.ready md ops L:=by rw [h]; simp
    obtain ⟨h0,o,ho,_⟩:=mem_ready.1 hi
    have:=Zwe (ops:=ops) (Array.getElem?_eq_some_iff.1 ho).1 h0
    omega
  exact ⟨hr,hf L a w hr hJ⟩
 | succ fuel ih =>
  intro L a w hu hJ
  refine ⟨fun hr=>hf L a w hr hJ,fun i hi=>wpOp_mono (fun a' w' h=>ih _ a' w' ?_ h) (hs L a w i hi hJ)⟩
  obtain ⟨h0,o,ho,_⟩:=mem_ready.1 hi
  have:=Zwe (ops:=ops) (Array.getElem?_eq_some_iff.1 ho).1 h0
  omega
end inv
inductive Kd where
 | pur (c:Value)
 | post (g:Value→Value)
 | cal
 | alo (t:TypeId) (z:Array Value) (s:Nat) (cs:Value→Array Value)
 | sto (i:Nat)
def Kd.val (vc:Value) (β:Nat→Nat) (i:Nat):Kd→Value
 | .pur c=>c
 | .post g=>g vc
 | .cal=>vc
 | .alo .. => .pointer (some ⟨β i,0,none⟩)
 | .sto _=>undef
def pa (a0:Act) (vc:Value) (β:Nat→Nat) (lst:Nat→Bool):Nat→List Oper→List Kd→Act
 | _,[],_=>a0
 | _,_,[]=>a0
 | k,o::os,q::qs=>if lst k then (pa a0 vc β lst (k+1) os qs).put o.dst (q.val vc β k) else pa a0 vc β lst (k+1) os qs
abbrev paAll (a0:Act) (ops:List Oper) (kd:List Kd) (vc:Value) (β:Nat→Nat):Act:=pa a0 vc β (fun _=>true) 0 ops kd
def Zcs:Kd→Bool
 | .post _=>true
 | .sto _=>true
 | _=>false
def Zdz:Kd→Bool
 | .post _=>true
 | .cal=>true
 | _=>false
def Zdb (o:Oper) (j:Nat):Bool:=o.after.any fun e=>Region.binds .any e && e.on == j
def Zgq (ops:List Oper) (kd:List Kd) (ic:Nat):Bool :=
 ops.length == kd.length &&
 (List.range ops.length).all fun i=>match ops[i]?,kd[i]? with
  | some o,some q =>
   o.guard.isNone && (match o.op with | .select .. => false | _=>true) &&
   (o.after.all fun e => !Region.binds .any e || e.on<i) &&
   ((List.range ops.length).all fun j=>match ops[j]? with
    | some p=>match p.dst with
     | some d=>((j == i) || (o.dst != some d)) && (!(o.looksAt ops.toArray).contains d || Zdb o j)
     | none=>true
    | none=>true) &&
   (match q with
    | .pur _=>true
    | .cal=>i == ic
    | .post _=>(List.range i).any fun j=>Zdb o j && (match kd[j]? with | some r=>Zdz r | none=>false)
    | .alo _ _ s _=>match kd[s]? with | some (.sto k)=>k == i | _=>false
    | .sto k=>o.dst.isNone && Zdb o k && ((List.range i).any fun j=>Zdb o j && (match kd[j]? with | some r=>Zdz r | none=>false)) && (match kd[k]? with | some (.alo _ _ s _)=>s == i | _=>false))
  | _,_=>false
theorem Zek {a0:Act} {vc vc':Value} {β β':Nat→Nat} {lst lst':Nat→Bool}:∀ {ops:List Oper} {kd:List Kd} {k:Nat},(∀ j q,kd[j]?=some q→lst (k+j)=lst' (k+j)∧(lst (k+j)=true→q.val vc β (k+j)=q.val vc' β' (k+j))) →
  pa a0 vc β lst k ops kd=pa a0 vc' β' lst' k ops kd:=by
 intro ops
 induction ops with
 | nil=>intro kd k _; simp [pa]
 | cons o os ih =>
  intro kd k h
  cases kd with
  | nil=>simp [pa]
  | cons q qs =>
   have h0:=h 0 q rfl
   simp only [Nat.add_zero] at h0
   have ih':=ih (kd:=qs) (k:=k+1) (fun j r hr=>by
    have:=h (j+1) r (by simpa using hr)
    have e:k+1+j=k+(j+1):=by omega
    rw [e]; exact this)
   rw [pa,pa,ih',← h0.1]
   split
   ·rename_i hk; rw [h0.2 hk]
   ·rfl
theorem Zpy {a0:Act} {vc:Value} {β:Nat→Nat} {lst:Nat→Bool} {x:Operand}:∀ {ops:List Oper} {kd:List Kd} {k:Nat},(∀ j o,ops[j]?=some o→lst (k+j)=false→∀ d,o.dst=some d→x ≠ .tmp d) →
  (pa a0 vc β lst k ops kd).eval x=(pa a0 vc β (fun _=>true) k ops kd).eval x:=by
 intro ops
 induction ops with
 | nil=>intro kd k _; simp [pa]
 | cons o os ih =>
  intro kd k h
  cases kd with
  | nil=>simp [pa]
  | cons q qs =>
   have ih':=ih (kd:=qs) (k:=k+1) (fun j r hr hl=>by
    have e:k+1+j=k+(j+1):=by omega
    rw [e] at hl
    exact h (j+1) r (by simpa using hr) hl)
   rw [pa,pa]
   simp only [if_true]
   by_cases hx:∃ d,o.dst=some d∧x = .tmp d
   ·obtain ⟨d,hd,rfl⟩:=hx
    cases hk:lst k
    ·exact absurd rfl (h 0 o rfl hk d hd)
    ·simp only [if_true]
     rw [hd]
     have hsz:∀ (lst':Nat→Bool) (k':Nat) (os':List Oper) (qs':List Kd),(pa a0 vc β lst' k' os' qs').tmps.size=a0.tmps.size:=by
      intro lst' k' os'
      induction os' generalizing k' with
      | nil=>intro qs'; simp [pa]
      | cons o' os' ih2 =>
       intro qs'
       cases qs' with
       | nil=>simp [pa]
       | cons q' qs' =>
        rw [pa]
        split
        ·cases o'.dst <;> simp [Act.put,ih2]
        ·exact ih2 _ _
     simp only [Act.eval,Act.put,Array.getD_eq_getD_getElem?]
     rcases Nat.lt_or_ge d a0.tmps.size with hd' | hd'
     ·rw [Array.getElem?_setIfInBounds_self_of_lt (by rw [hsz]; exact hd'),Array.getElem?_setIfInBounds_self_of_lt (by rw [hsz]; exact hd')]
     ·rw [Array.getElem?_eq_none (by simp [hsz]; omega),Array.getElem?_eq_none (by simp [hsz]; omega)]
   ·have hne:∀ d,o.dst=some d→x ≠ .tmp d:=fun d hd e=>hx ⟨d,hd,e⟩
    rw [Act.eval_put hne]
    split
    ·rw [Act.eval_put hne]; exact ih'
    ·exact ih'
theorem Zwf {a0:Act} {vc:Value} {β:Nat→Nat} {lst:Nat→Bool}:∀ {ops:List Oper} {kd:List Kd} {k i:Nat} {o:Oper} {q:Kd},ops[i]?=some o→kd[i]?=some q→lst (k+i)=false →
  (∀ j p d,ops[j]?=some p→p.dst=some d→j=i∨o.dst≠some d)→pa a0 vc β (fun j=>lst j || j == k+i) k ops kd=(pa a0 vc β lst k ops kd).put o.dst (q.val vc β (k+i)):=by
 intro ops
 induction ops with
 | nil=>intro kd k i o q h; simp at h
 | cons p os ih =>
  intro kd k i o q ho hq hl hd
  cases kd with
  | nil=>simp at hq
  | cons r qs =>
   cases i with
   | zero =>
    simp at ho hq
    subst ho hq
    simp only [Nat.add_zero] at hl ⊢
    rw [pa,pa]
    simp only [hl,Bool.false_or,BEq.rfl,if_true,Bool.false_eq_true,if_false]
    congr 1
    refine Zek (fun j s hs=>⟨?_,fun _=>rfl⟩)
    have:(k+1+j == k)=false:=by rw [Qu]; omega
    simp [this]
   | succ i =>
    have e:k+(i+1)=k+1+i:=by omega
    have ih':=ih (kd:=qs) (k:=k+1) (i:=i) (o:=o) (q:=q) (by simpa using ho) (by simpa using hq) (by rw [← e]; exact hl) (fun j p' d hp hd'=>by
     rcases hd (j+1) p' d (by simpa using hp) hd' with h | h
     ·exact Or.inl (by omega)
     ·exact Or.inr h)
    rw [e]
    rw [pa,pa,ih']
    have hk:(k == k+1+i)=false:=by rw [Qu]; omega
    simp only [hk,Bool.or_false]
    split
    ·refine Act.put_comm _ _ _ (fun d hd' e' => ?_)
     rcases hd 0 p d rfl e' with h | h
     ·omega
     ·exact h hd'
    ·rfl
def Ob (P:Program) (kd:List Kd) (w0:World) (FA:Value→(Nat→Nat)→Act) (R:(Nat→Prop)→Value→World→Prop) (f:FuncId) (args:Array Value) (o:Oper):Kd→Prop
 | .pur c=>∀ vc β w,Ext w0 w→(execOp (FA vc β).eval o).run P w = .ok (.value c) w
 | .post g=>∀ vc β X w,R X vc w→(execOp (FA vc β).eval o).run P w = .ok (.value (g vc)) w
 | .cal=>∀ vc β w,(execOp (FA vc β).eval o).run P w = .ok (.enter f args) w
 | .alo t z _ _=>∀ vc β w,(execOp (FA vc β).eval o).run P w = .ok (.value (.pointer (some ⟨w.heap.size,0,none⟩))) (w.alloc (.cells z t))
 | .sto i=>∀ vc β X w t z s cs,kd[i]?=some (.alo t z s cs)→R X vc w→w.heap[β i]?=some (.cells z t (0,0)) →
   ∃ w',(execOp (FA vc β).eval o).run P w = .ok .skip w'∧w'.heap[β i]?=some (.cells (cs vc) t (0,0))∧Kept (fun k=>k=β i) w w'
def AllOb (P:Program) (kd:List Kd) (w0:World) (FA:Value→(Nat→Nat)→Act) (R:(Nat→Prop)→Value→World→Prop) (f:FuncId) (args:Array Value):List Oper→List Kd→Prop
 | o::os,q::qs=>Ob P kd w0 FA R f args o q∧AllOb P kd w0 FA R f args os qs
 | _,_=>True
theorem AllOb.at {P:Program} {kd:List Kd} {w0:World} {FA:Value→(Nat→Nat)→Act} {R:(Nat→Prop)→Value→World→Prop} {f:FuncId} {args:Array Value}:∀ {ops:List Oper} {ks:List Kd},AllOb P kd w0 FA R f args ops ks →
  ∀ {i:Nat} {o:Oper} {q:Kd},ops[i]?=some o→ks[i]?=some q→Ob P kd w0 FA R f args o q:=by
 intro ops
 induction ops with
 | nil=>intro ks _ i o q h; simp at h
 | cons p os ih =>
  intro ks h i o q ho hq
  cases ks with
  | nil=>simp at hq
  | cons r qs =>
   cases i with
   | zero=>simp at ho hq; subst ho hq; exact h.1
   | succ i=>exact ih h.2 (by simpa using ho) (by simpa using hq)
def Zgr (kd:List Kd) (β:Nat→Nat) (lst:Nat→Bool):Nat→Prop:=fun k=>∃ i t z s cs,kd[i]?=some (.alo t z s cs)∧lst i=true∧k=β i
structure Plan (P:Program) (ops:List Oper) (kd:List Kd) (ic:Nat) (a0:Act) (w0:World) (R:(Nat→Prop)→Value→World→Prop) (L:Array Bool) (a:Act) (w:World):Prop where
 size:L.size=ops.length
 ext:Ext w0 w
 st:∃ vc β,a=pa a0 vc β (fun j=>L.getD j false) 0 ops kd∧(L.getD ic false=true→R (Zgr kd β (fun j=>L.getD j false)) vc w) ∧
  (∀ (i:Nat) q,kd[i]?=some q→L.getD i false=true→Zcs q=true→L.getD ic false=true) ∧
  (∀ (i:Nat) t z s cs,kd[i]?=some (.alo t z s cs)→L.getD i false=true→w0.heap.size≤β i∧w.heap[β i]?=some (.cells (if L.getD s false then cs vc else z) t (0,0))) ∧
  (∀ (i j:Nat) t z s cs t' z' s' cs',kd[i]?=some (.alo t z s cs)→kd[j]?=some (.alo t' z' s' cs')→L.getD i false=true→L.getD j false=true→i≠j→β i≠β j) ∧
  (∀ (i k:Nat),kd[i]?=some (.sto k)→L.getD i false=true→L.getD k false=true)
theorem Zhl {L:Array Bool} {i:Nat} (hi:i<L.size) (j:Nat):(L.setIfInBounds i true).getD j false=(L.getD j false || j == i):=by
 by_cases e:i=j
 ·subst e; simp [hi]
 ·rw [getD_set_ne false e]
  have:(j == i)=false:=by rw [Qu]; omega
  simp [this]
structure FitsAt (ops:List Oper) (kd:List Kd) (ic i:Nat) (o:Oper) (q:Kd):Prop where
 gd:o.guard=none
 sel:∀ cs b,o.op ≠ .select cs b
 low:∀ e ∈ o.after,Region.binds .any e=true→e.on<i
 dst:∀ j p d,ops[j]?=some p→p.dst=some d→j=i∨o.dst≠some d
 look:∀ j p d,ops[j]?=some p→p.dst=some d→d ∈ o.looksAt ops.toArray→Zdb o j=true
 cal:q = .cal→i=ic
 post:Zcs q=true→∃ j r,Zdb o j=true∧kd[j]?=some r∧Zdz r=true
 alo:∀ t z s cs,q = .alo t z s cs→kd[s]?=some (.sto i)
 sto:∀ k,q = .sto k→o.dst=none∧Zdb o k=true∧∃ t z cs,kd[k]?=some (.alo t z i cs)
theorem Zmt {ops:List Oper} {kd:List Kd} {ic:Nat} (h:Zgq ops kd ic=true) {i:Nat} {o:Oper} (ho:ops[i]?=some o):∃ q,kd[i]?=some q∧FitsAt ops kd ic i o q:=by
 unfold Zgq at h
 simp only [Bool.and_eq_true,List.all_eq_true,List.mem_range,beq_iff_eq] at h
 obtain ⟨hl,h⟩:=h
 have hi:=(Qa.1 ho).1
 have h:=h i hi
 rw [ho] at h
 cases hq:kd[i]? with
 | none=>rw [hq] at h; simp at h
 | some q =>
  rw [hq] at h
  simp only [Bool.and_eq_true,List.all_eq_true,List.mem_range] at h
  obtain ⟨⟨⟨⟨h1,h2⟩,h3⟩,h4⟩,h5⟩:=h
  refine ⟨q,rfl,?_,?_,?_,?_,?_,?_,?_,?_,?_⟩
  ·simpa using h1
  ·intro cs b e; rw [e] at h2; simp at h2
  ·intro e he hb
   have:=Array.all_eq_true_iff_forall_mem.1 h3 e he
   simpa [hb] using this
  ·intro j p d hp hd
   have:=h4 j (Qa.1 hp).1
   rw [hp] at this
   simp only [hd,Bool.and_eq_true,Bool.or_eq_true,beq_iff_eq,bne_iff_ne] at this
   exact this.1
  ·intro j p d hp hd hm
   have:=h4 j (Qa.1 hp).1
   rw [hp] at this
   simp only [hd,Bool.and_eq_true,Bool.or_eq_true,beq_iff_eq,bne_iff_ne] at this
   rcases this.2 with h | h
   ·simp [hm] at h
   ·exact h
  ·intro e; subst e; simpa using h5
  ·intro hp
   cases q with
   | post g =>
    simp only [List.any_eq_true,List.mem_range,Bool.and_eq_true] at h5
    obtain ⟨j,_,h6,h7⟩:=h5
    cases hr:kd[j]? with
    | none=>rw [hr] at h7; simp at h7
    | some r=>rw [hr] at h7; exact ⟨j,r,h6,hr,h7⟩
   | sto k =>
    simp only [List.any_eq_true,List.mem_range,Bool.and_eq_true] at h5
    obtain ⟨⟨_,j,_,h6,h7⟩,_⟩:=h5
    cases hr:kd[j]? with
    | none=>rw [hr] at h7; simp at h7
    | some r=>rw [hr] at h7; exact ⟨j,r,h6,hr,h7⟩
   | _=>simp [Zcs] at hp
  ·intro t z s cs e
   subst e
   simp only at h5
   split at h5
   ·rename_i k hk; simp at h5; subst h5; exact hk
   ·simp at h5
  ·intro k e
   subst e
   simp only [List.any_eq_true,List.mem_range,Bool.and_eq_true] at h5
   obtain ⟨⟨⟨h6,h7⟩,_⟩,h8⟩:=h5
   refine ⟨by simpa using h6,h7,?_⟩
   split at h8
   ·rename_i t z s cs hk; simp at h8; subst h8; exact ⟨t,z,cs,hk⟩
   ·simp at h8
theorem Zbz {ops:List Oper} {L:Array Bool} {i j:Nat} {o:Oper} (hr:i ∈ Region.ready .any ops.toArray L) (ho:ops[i]?=some o) (hw:Zdb o j=true):L.getD j false=true:=by
 obtain ⟨_,o',ho',h⟩:=mem_ready.1 hr
 have:o'=o:=by simpa [ho] using ho'.symm
 subst this
 obtain ⟨e,he,hb⟩:=Array.any_eq_true'.1 hw
 simp only [Bool.and_eq_true,beq_iff_eq] at hb
 rw [← hb.2]
 exact h e he hb.1
theorem Ztb {ops:List Oper} {kd:List Kd} {ic:Nat} (hfit:Zgq ops kd ic=true) {L:Array Bool} (hs:L.size=ops.length) (hr:Region.ready .any ops.toArray L=[]):∀ i,i<ops.length→L.getD i false=true:=by
 intro i
 induction i using Nat.strongRecOn with
 | _ i ih =>
  intro hi
  cases hl:L.getD i false with
  | true=>rfl
  | false =>
   exfalso
   have ho:ops[i]?=some ops[i]:=Qb hi
   obtain ⟨q,hq,hF⟩:=Zmt hfit ho
   have:i ∈ Region.ready .any ops.toArray L:=by
    refine mem_ready.2 ⟨?_,ops[i],by simp,fun e he hb=>ih e.on (hF.low e he hb) (by have:=hF.low e he hb; omega)⟩
    have hi':i<L.size:=by omega
    simp [hi'] at hl ⊢
    exact hl
   rw [hr] at this
   simp at this
theorem Zod {P:Program} {ops:List Oper} {id:Nat} {Q:Exit→Act→World→Prop} {a0:Act} {w:World} (hm:P.follows .mixedOrders=true) (kd:List Kd) (ic:Nat) (hfit:Zgq ops kd ic=true)
  (R:(Nat→Prop)→Value→World→Prop) (f:FuncId) (args:Array Value)
  (hR:∀ X X' v u u',R X v u→(∀ k,k<u.heap.size→¬ X k→u'.heap[k]?=u.heap[k]?)→u.heap.size≤u'.heap.size→(∀ k,k<u.heap.size→X' k→X k)→R X' v u')
  (hC:∀ X u,Ext w.drew u→(∀ k,X k→w.heap.size≤k∧k<u.heap.size∧∃ (i:Nat) (t:TypeId) (z:Array Value) (s:Nat) (cs:Value→Array Value) (cl:Array Value),kd[i]?=some (.alo t z s cs)∧u.heap[k]?=some (.cells cl t (0,0)))→Calls P f args u (fun e u'=>∃ v,e = .returned v∧Ext u u'∧R X v u'))
  (hob:AllOb P kd w.drew (paAll a0 ops kd) R f args ops kd)
  (hcal:kd[ic]?=some .cal) (hil:ic<ops.length)
  (hQ:∀ vc β u,Ext w.drew u→R (Zgr kd β (fun _=>true)) vc u→(∀ (i:Nat) t z s cs,kd[i]?=some (.alo t z s cs)→w.heap.size≤β i∧u.heap[β i]?=some (.cells (cs vc) t (0,0))) →
   (∀ (i j:Nat) t z s cs t' z' s' cs',kd[i]?=some (.alo t z s cs)→kd[j]?=some (.alo t' z' s' cs')→i≠j→β i≠β j)→Q .normal (paAll a0 ops kd vc β) u) :
  (Code.region id ops.toArray true).wp P Q a0 w:=by
 have hlen:ops.length=kd.length:=by
  unfold Zgq at hfit
  simp only [Bool.and_eq_true,beq_iff_eq] at hfit
  exact hfit.1
 refine wp_region_any hm (Zkd (J:=Plan P ops kd ic a0 w.drew R) ?_ ?_ _ _ _ _ ?_ ?_)
 ·intro L a u i hr hJ
  obtain ⟨hsz,hext,vc,β,rfl,hcR,hpost,hbox,hdist,hsto⟩:=hJ
  obtain ⟨h0,o,ho',_⟩:=mem_ready.1 hr
  have ho:ops[i]?=some o:=by simpa using ho'
  have hi:i<ops.length:=(Qa.1 ho).1
  have hil:i<L.size:=by omega
  have hun:L.getD i false=false:=by simp [hil] at h0 ⊢; exact h0
  obtain ⟨q,hq,hF⟩:=Zmt hfit ho
  have hOb:=hob.at ho hq
  have hexec:execOp (pa a0 vc β (fun j=>L.getD j false) 0 ops kd).eval o=execOp (paAll a0 ops kd vc β).eval o:=by
   refine execOp_congr o hF.sel (fun x hx=>Zpy (fun j p hp hl d hd e => ?_))
   subst e
   have hw:=hF.look j p d hp hd (List.mem_append_left _ (List.mem_filterMap.2 ⟨.tmp d,by simpa using hx,rfl⟩))
   have:=Zbz hr ho hw
   simp only [Nat.zero_add] at hl
   rw [hl] at this
   simp at this
  have hwant:Region.wanted o (yielded ops.toArray (pa a0 vc β (fun j=>L.getD j false) 0 ops kd).tmps)=true:=by simp [Region.wanted,hF.gd]
  have hL:=Zhl hil
  have hput:∀ vc' β',(∀ j r,kd[j]?=some r→L.getD j false=true→r.val vc β j=r.val vc' β' j) →
    (pa a0 vc β (fun j=>L.getD j false) 0 ops kd).put o.dst (q.val vc' β' i)=pa a0 vc' β' (fun j=>(L.setIfInBounds i true).getD j false) 0 ops kd:=by
   intro vc' β' hv
   have e1:pa a0 vc β (fun j=>L.getD j false) 0 ops kd=pa a0 vc' β' (fun j=>L.getD j false) 0 ops kd:=Zek (fun j r hr'=>by
    simp only [Nat.zero_add]
    exact ⟨trivial,fun hl=>hv j r hr' hl⟩)
   rw [e1]
   have e2:=Zwf (a0:=a0) (vc:=vc') (β:=β') (lst:=fun j=>L.getD j false) (k:=0) ho hq (by simpa using hun) hF.dst
   simp only [Nat.zero_add] at e2
   rw [← e2]
   exact Zek (fun j r hr'=>⟨by simp only [Nat.zero_add,hL],fun _=>rfl⟩)
  have hicn:∀ r,kd[ic]?=some r→r = .cal:=fun r h=>by rw [hcal] at h; exact (Option.some.inj h).symm
  have hold:∀ j,L.getD j false=true→(L.setIfInBounds i true).getD j false=true:=fun j h=>by rw [hL,h]; rfl
  have hnew:∀ j,j≠i→(L.setIfInBounds i true).getD j false=L.getD j false:=fun j h=>by
   rw [hL]
   have:(j == i)=false:=by rw [Qu]; exact h
   simp [this]
  unfold wpOp
  simp only [ho']
  rw [if_pos hwant]
  refine Or.inl ?_
  unfold Oper.wp
  rw [hexec]
  have hpl:∀ (i':Nat) q',kd[i']?=some q'→(L.setIfInBounds i true).getD i' false=true→Zcs q'=true→i'≠i→(L.setIfInBounds i true).getD ic false=true:=fun i' q' h1 h2 h3 hne =>
   hold _ (hpost i' q' h1 (by rw [hnew i' hne] at h2; exact h2) h3)
  have hkat:∀ {i':Nat} {q':Kd},kd[i']?=some q'→∃ o',FitsAt ops kd ic i' o' q':=fun {i' q'} h1=>by
   obtain ⟨q2,hq2,hF2⟩:=Zmt hfit (Qb (l:=ops) (i:=i') (by have:=(Qa.1 h1).1; omega))
   rw [h1] at hq2; simp at hq2; subst hq2
   exact ⟨_,hF2⟩
  have hne:∀ {i':Nat} {q':Kd},kd[i']?=some q'→q'≠q→i'≠i:=fun {i' q'} h1 h2 e=>by
   subst e; rw [hq] at h1; exact h2 (Option.some.inj h1).symm
  have hvars:(∀ t z s cs,q ≠ .alo t z s cs)→∀ k,Zgr kd β (fun j=>(L.setIfInBounds i true).getD j false) k→Zgr kd β (fun j=>L.getD j false) k:=by
   rintro hna k ⟨i',t,z,s,cs,h1,h2,rfl⟩
   have:i'≠i:=hne h1 (fun e=>hna t z s cs e.symm)
   exact ⟨i',t,z,s,cs,h1,(hnew i' this).symm.trans h2,rfl⟩
  have hdist':(∀ t z s cs,q ≠ .alo t z s cs)→∀ (i' j':Nat) t z s cs t' z' s' cs',kd[i']?=some (.alo t z s cs)→kd[j']?=some (.alo t' z' s' cs')→(L.setIfInBounds i true).getD i' false=true→(L.setIfInBounds i true).getD j' false=true→i'≠j'→β i'≠β j':=by
   intro hna i' j' t z s cs t' z' s' cs' h1 h2 h3 h4
   rw [hnew i' (hne h1 (fun e=>hna _ _ _ _ e.symm))] at h3
   rw [hnew j' (hne h2 (fun e=>hna _ _ _ _ e.symm))] at h4
   exact hdist i' j' t z s cs t' z' s' cs' h1 h2 h3 h4
  have hbox':(∀ t z s cs,q ≠ .alo t z s cs)→(∀ k,q ≠ .sto k)→∀ (i':Nat) t z s cs,kd[i']?=some (.alo t z s cs)→(L.setIfInBounds i true).getD i' false=true→w.drew.heap.size≤β i'∧u.heap[β i']?=some (.cells (if (L.setIfInBounds i true).getD s false then cs vc else z) t (0,0)):=by
   intro hna hns i' t z s cs h1 h2
   obtain ⟨o',hF'⟩:=hkat h1
   have hs:s≠i:=hne (hF'.alo t z s cs rfl) (fun e=>hns _ e.symm)
   rw [hnew s hs]
   exact hbox i' t z s cs h1 ((hnew i' (hne h1 (fun e=>hna _ _ _ _ e.symm))).symm.trans h2)
  have hsto':(∀ k,q ≠ .sto k)→∀ (i' k:Nat),kd[i']?=some (.sto k)→(L.setIfInBounds i true).getD i' false=true→(L.setIfInBounds i true).getD k false=true:=fun hns i' k h1 h2 =>
   hold _ (hsto i' k h1 ((hnew i' (hne h1 (fun e=>hns _ e.symm))).symm.trans h2))
  have hpost':Zcs q=false→∀ (i':Nat) q',kd[i']?=some q'→(L.setIfInBounds i true).getD i' false=true→Zcs q'=true→(L.setIfInBounds i true).getD ic false=true:=fun hp i' q' h1 h2 h3 =>
   hpl i' q' h1 h2 h3 (hne h1 (fun e=>by rw [e,hp] at h3; simp at h3))
  have hcl:Zcs q=true→L.getD ic false=true:=fun hp=>by
   obtain ⟨j,r,h1,h2,h3⟩:=hF.post hp
   have hj:=Zbz hr ho h1
   cases r with
   | post g=>exact hpost j _ h2 hj rfl
   | cal =>
    obtain ⟨o',hF'⟩:=hkat h2
    have:=hF'.cal rfl
    rw [← this]; exact hj
   | _=>simp [Zdz] at h3
  cases q with
  | pur c =>
   rw [hOb vc β u hext]
   have hic:ic≠i:=hne hcal (by simp)
   refine ⟨by simpa using hsz,hext,vc,β,hput vc β (fun _ _ _ _=>rfl),?_,hpost' rfl,hbox' (by simp) (by simp),hdist' (by simp),hsto' (by simp)⟩
   intro h
   rw [hnew ic hic] at h
   exact hR _ _ vc u u (hcR h) (fun _ _ _=>rfl) (Qe _) (fun k _=>hvars (by simp) k)
  | post g =>
   have hic:=hcl rfl
   rw [hOb vc β _ u (hcR hic)]
   refine ⟨by simpa using hsz,hext,vc,β,hput vc β (fun _ _ _ _=>rfl),?_,fun i' q' _ _ _=>hold _ hic,hbox' (by simp) (by simp),hdist' (by simp),hsto' (by simp)⟩
   intro h
   exact hR _ _ vc u u (hcR hic) (fun _ _ _=>rfl) (Qe _) (fun k _=>hvars (by simp) k)
  | cal =>
   have hie:=hF.cal rfl
   rw [hOb vc β u]
   refine (hC (Zgr kd β (fun j=>L.getD j false)) u hext ?_).mono ?_
   ·rintro k ⟨i',t,z,s,cs,h1,h2,rfl⟩
    have:=hbox i' t z s cs h1 h2
    exact ⟨this.1,(Array.getElem?_eq_some_iff.1 this.2).1,i',t,z,s,cs,_,h1,this.2⟩
   ·rintro e u' ⟨v,rfl,he,hr'⟩
    refine ⟨by simpa using hsz,hext.trans (he.mono hext.size),v,β,hput v β ?_,?_,?_,?_,hdist' (by simp),hsto' (by simp)⟩
    ·intro j r h1 h2
     cases r with
     | post g =>
      have:=hpost j _ h1 h2 rfl
      rw [← hie,hun] at this; simp at this
     | cal =>
      obtain ⟨o',hF'⟩:=hkat h1
      have:=hF'.cal rfl
      rw [this,← hie,hun] at h2; simp at h2
     | _=>rfl
    ·intro _
     exact hR _ _ v u' u' hr' (fun _ _ _=>rfl) (Qe _) (fun k _=>hvars (by simp) k)
    ·intro i' q' _ _ _
     rw [← hie,hL]; simp
    ·intro i' t z s cs h1 h2
     have hi':=hne h1 (by simp)
     have hb:=hbox i' t z s cs h1 ((hnew i' hi').symm.trans h2)
     refine ⟨hb.1,(he.block _ (Array.getElem?_eq_some_iff.1 hb.2).1).trans ?_⟩
     obtain ⟨o',hF'⟩:=hkat h1
     have hks:=hF'.alo t z s cs rfl
     have hs:s≠i:=hne hks (by simp)
     have hsl:L.getD s false=false:=by
      cases hsl:L.getD s false with
      | false=>rfl
      | true =>
       have:=hpost s _ hks hsl rfl
       rw [← hie,hun] at this; simp at this
     rw [hnew s hs,hsl]
     rw [hsl] at hb
     exact hb.2
  | alo t z s cs =>
   have hic:ic≠i:=hne hcal (by simp)
   rw [hOb vc β u]
   have hkat':=hF.alo t z s cs rfl
   have hs:s≠i:=hne hkat' (by simp)
   have hsl:L.getD s false=false:=by
    cases hsl:L.getD s false with
    | false=>rfl
    | true =>
     have:=hsto s i hkat' hsl
     rw [hun] at this; simp at this
   have hβ:∀ j,j≠i→(fun j=>if j=i then u.heap.size else β j) j=β j:=fun j h=>by simp [h]
   have hβi:(fun j=>if j=i then u.heap.size else β j) i=u.heap.size:=by simp
   have hp:=hput vc (fun j=>if j=i then u.heap.size else β j) (fun j r h1 h2=>by
    have hj:j≠i:=fun e=>by rw [e,hun] at h2; simp at h2
    cases r with
    | alo=>simp only [Kd.val]; rw [if_neg hj]
    | _=>rfl)
   simp only [Kd.val,if_true] at hp
   have hlt:∀ (i':Nat) t z s cs,kd[i']?=some (.alo t z s cs)→L.getD i' false=true→β i'<u.heap.size:=fun i' t z s cs h1 h2=>(Array.getElem?_eq_some_iff.1 (hbox i' t z s cs h1 h2).2).1
   refine ⟨by simpa using hsz,hext.alloc hext.size _,vc,(fun j=>if j=i then u.heap.size else β j),hp,?_,?_,?_,?_,hsto' (by simp)⟩
   ·intro h
    rw [hnew ic hic] at h
    refine hR _ _ vc u _ (hcR h) (fun k hk _=>Below.heap_alloc _ _ _ hk) (by simp) ?_
    rintro k hk ⟨i',t,z,s,cs,h1,h2,rfl⟩
    by_cases e:i'=i
    ·subst e; simp at hk
    ·rw [hβ i' e]
     exact ⟨i',t,z,s,cs,h1,(hnew i' e).symm.trans h2,rfl⟩
   ·exact hpost' rfl
   ·intro i' t' z' s' cs' h1 h2
    by_cases e:i'=i
    ·subst e
     rw [hq] at h1
     simp only [Qo,Kd.alo.injEq] at h1
     obtain ⟨rfl,rfl,rfl,rfl⟩:=h1
     rw [hβi,hnew s hs,hsl]
     exact ⟨hext.size,heap_alloc_new u _⟩
    ·rw [hβ i' e]
     have hl':=(hnew i' e).symm.trans h2
     have hb:=hbox i' t' z' s' cs' h1 hl'
     have hs':s'≠i:=by
      obtain ⟨o',hF'⟩:=hkat h1
      exact hne (hF'.alo t' z' s' cs' rfl) (by simp)
     rw [hnew s' hs']
     exact ⟨hb.1,(Below.heap_alloc _ _ _ (hlt i' t' z' s' cs' h1 hl')).trans hb.2⟩
   ·intro i' j' t' z' s' cs' t'' z'' s'' cs'' h1 h2 h3 h4 hij
    by_cases e:i'=i
    ·have e':j'≠i:=fun h=>hij (e.trans h.symm)
     rw [e,hβi,hβ j' e']
     have:=hlt j' _ _ _ _ h2 ((hnew j' e').symm.trans h4)
     omega
    ·rw [hβ i' e]
     by_cases e':j'=i
     ·rw [e',hβi]
      have:=hlt i' _ _ _ _ h1 ((hnew i' e).symm.trans h3)
      omega
     ·rw [hβ j' e']
      exact hdist i' j' _ _ _ _ _ _ _ _ h1 h2 ((hnew i' e).symm.trans h3) ((hnew j' e').symm.trans h4) hij
  | sto k =>
   have hic:=hcl rfl
   obtain ⟨hdn,hwk,t,z,cs,hkk⟩:=hF.sto k rfl
   have hkl:=Zbz hr ho hwk
   have hbk:=hbox k t z i cs hkk hkl
   rw [hun] at hbk
   obtain ⟨w',hrun,hnewb,hkept⟩:=hOb vc β _ u t z i cs hkk (hcR hic) hbk.2
   rw [hrun]
   have hki:k≠i:=hne hkk (by simp)
   refine ⟨by simpa using hsz,hext.trans (hkept.below hext.size (fun j e=>by rw [e]; exact hbk.1)),vc,β,hput vc β (fun _ _ _ _=>rfl),?_,fun i' q' _ _ _=>hold _ hic,?_,hdist' (by simp),?_⟩
   ·intro _
    refine hR _ _ vc u w' (hcR hic) (fun j hj hn=>hkept.block j hj (fun e=>hn ⟨k,t,z,i,cs,hkk,hkl,e⟩)) hkept.size (fun j _=>hvars (by simp) j)
   ·intro i' t' z' s' cs' h1 h2
    have e:i'≠i:=hne h1 (by simp)
    have hl':=(hnew i' e).symm.trans h2
    by_cases ek:i'=k
    ·subst ek
     rw [hkk] at h1
     simp only [Qo,Kd.alo.injEq] at h1
     obtain ⟨rfl,rfl,rfl,rfl⟩:=h1
     rw [hL]
     simp only [BEq.rfl,Bool.or_true,if_true]
     exact ⟨hbk.1,hnewb⟩
    ·have hb:=hbox i' t' z' s' cs' h1 hl'
     have hs':s'≠i:=fun e'=>by
      obtain ⟨o',hF'⟩:=hkat h1
      have:=hF'.alo t' z' s' cs' rfl
      rw [e',hq] at this
      simp at this
      exact ek this.symm
     rw [hnew s' hs']
     exact ⟨hb.1,(hkept.block _ (Array.getElem?_eq_some_iff.1 hb.2).1 (hdist i' k _ _ _ _ _ _ _ _ h1 hkk hl' hkl ek)).trans hb.2⟩
   ·intro i' k' h1 h2
    by_cases e:i'=i
    ·subst e
     rw [hq] at h1
     simp at h1
     subst h1
     exact hold _ hkl
    ·exact hold _ (hsto i' k' h1 ((hnew i' e).symm.trans h2))
 ·intro L a u hr hJ
  obtain ⟨hsz,hext,vc,β,rfl,hcR,hpost,hbox,hdist,hsto⟩:=hJ
  have hall:=Ztb hfit hsz hr
  have e:pa a0 vc β (fun j=>L.getD j false) 0 ops kd=paAll a0 ops kd vc β:=Zek (fun j r hr'=>⟨by
   simp only [Nat.zero_add]
   exact hall j (by have:=(Qa.1 hr').1; omega),fun _=>rfl⟩)
  rw [e]
  have hk:∀ (i:Nat) t z s cs,kd[i]?=some (.alo t z s cs)→L.getD i false=true∧L.getD s false=true:=fun i t z s cs h=>by
   have hi:=(Qa.1 h).1
   obtain ⟨q2,hq2,hF2⟩:=Zmt hfit (Qb (l:=ops) (i:=i) (by omega))
   rw [h] at hq2; simp at hq2; subst hq2
   have:=(Qa.1 (hF2.alo t z s cs rfl)).1
   exact ⟨hall i (by omega),hall s (by omega)⟩
  refine hQ vc β u hext ?_ ?_ ?_
  ·refine hR _ _ vc u u (hcR (hall ic hil)) (fun _ _ _=>rfl) (Qe _) ?_
   rintro k _ ⟨i',t,z,s,cs,h1,h2,rfl⟩
   exact ⟨i',t,z,s,cs,h1,(hk i' t z s cs h1).1,rfl⟩
  ·intro i t z s cs h
   have:=hbox i t z s cs h (hk i t z s cs h).1
   rw [(hk i t z s cs h).2] at this
   exact this
  ·intro i j t z s cs t' z' s' cs' h1 h2
   exact hdist i j t z s cs t' z' s' cs' h1 h2 (hk i t z s cs h1).1 (hk j t' z' s' cs' h2).1
 ·have:(ops.toArray).size=ops.length:=by simp
  unfold unl
  exact Qq (List.length_filter_le _ _) (by simp)
 ·have hz:∀ j,(Array.replicate ops.toArray.size false).getD j false=false:=fun j=>by
   simp only [Array.getD_eq_getD_getElem?,Array.getElem?_replicate]
   split <;> rfl
  refine ⟨by simp,Below.refl _ _,undef,fun _=>0,?_,?_,?_,?_,?_,?_⟩
  ·have:∀ (k:Nat) (os:List Oper) (qs:List Kd),pa a0 undef (fun _=>0) (fun j=>(Array.replicate ops.toArray.size false).getD j false) k os qs=a0:=by
    intro k os
    induction os generalizing k with
    | nil=>intro qs; simp [pa]
    | cons o os ih =>
     intro qs
     cases qs with
     | nil=>simp [pa]
     | cons q qs=>rw [pa,hz]; simp only [Bool.false_eq_true,if_false]; exact ih _ _
   exact (this _ _ _).symm
  ·intro h; rw [hz] at h; simp at h
  ·intro i q _ h; rw [hz] at h; simp at h
  ·intro i t z s cs _ h; rw [hz] at h; simp at h
  ·intro i j t z s cs t' z' s' cs' _ _ h; rw [hz] at h; simp at h
  ·intro i k _ h; rw [hz] at h; simp at h
theorem Zpz {P:Program} {ops:List Oper} {id:Nat} {Q:Exit→Act→World→Prop} {a0:Act} {w:World} (hm:P.follows .mixedOrders=true) (kd:List Kd) (ic:Nat) (hfit:Zgq ops kd ic=true)
  (R:(Nat→Prop)→Value→World→Prop) (f:FuncId) (args:Array Value)
  (hR:∀ X X' v u u',R X v u→(∀ k,k<u.heap.size→¬ X k→u'.heap[k]?=u.heap[k]?)→u.heap.size≤u'.heap.size→(∀ k,k<u.heap.size→X' k→X k)→R X' v u')
  (hC:∀ X u,Ext w.drew u→(∀ k,X k→w.heap.size≤k∧k<u.heap.size)→Calls P f args u (fun e u'=>∃ v,e = .returned v∧Ext u u'∧R X v u'))
  (hob:AllOb P kd w.drew (paAll a0 ops kd) R f args ops kd)
  (hcal:kd[ic]?=some .cal) (hil:ic<ops.length)
  (hQ:∀ vc β u,Ext w.drew u→R (Zgr kd β (fun _=>true)) vc u→(∀ (i:Nat) t z s cs,kd[i]?=some (.alo t z s cs)→w.heap.size≤β i∧u.heap[β i]?=some (.cells (cs vc) t (0,0))) →
   (∀ (i j:Nat) t z s cs t' z' s' cs',kd[i]?=some (.alo t z s cs)→kd[j]?=some (.alo t' z' s' cs')→i≠j→β i≠β j)→Q .normal (paAll a0 ops kd vc β) u) :
  (Code.region id ops.toArray true).wp P Q a0 w :=
 Zod hm kd ic hfit R f args hR (fun X u hu hX=>hC X u hu (fun k hk=>⟨(hX k hk).1,(hX k hk).2.1⟩)) hob hcal hil hQ
theorem Ext.of {w w':World} (h:Kept Zcn w w'):Ext w w':=h.below (Qe _) (fun _ e=>e.elim)
theorem Ext.undrew {w u:World} (h:Ext w.drew u):Ext w u:=⟨h.os,h.tape,h.output,h.size,h.block⟩
theorem Ext.up {w u:World} (h:Ext w.drew u) {p:Addr} {v:Value} (hc:w.cell? p=some v):u.cell? p=some v:=(h.cell (World.block_lt_of_cell? w p hc)).trans hc
def cellsOf:Value→Array Value
 | .agg cs=>cs
 | _=>#[]
theorem box3 {w:World} {b:Nat} {u0 u1 u2:Value} {t:TypeId} (h:w.heap[b]?=some (.cells #[u0,u1,u2] t (0,0))) :
  w.cell? ⟨b,0,none⟩=some u0∧w.cell? ⟨b,1,none⟩=some u1∧w.cell? ⟨b,2,none⟩=some u2∧∀ i,w.frozen? ⟨b,i,none⟩=false :=
 ⟨Zaa h 0 _ rfl,Zaa h 1 _ rfl,Zaa h 2 _ rfl,fun i=>Zae h i⟩
def Zqa (i:Nat):Value→Value
 | .tuple xs=>xs.getD i undef
 | _=>undef
def Yaz:Kd→Bool
 | .pur _=>true
 | .cal=>true
 | _=>false
def ObL (P:Program) (w0:World) (FA:Value→Act) (R R':Value→World→Prop) (f:FuncId) (args:Array Value) (o:Oper):Kd→Prop
 | .pur c=>∀ vc,(execOp (FA vc).eval o).run P w0 = .ok (.value c) w0
 | .post g=>∀ vc w,R vc w∨R' vc w→(execOp (FA vc).eval o).run P w = .ok (.value (g vc)) w
 | .cal=>∀ vc,(execOp (FA vc).eval o).run P w0 = .ok (.enter f args) w0
 | .alo .. => True
 | .sto _=>∀ vc w,R vc w→∃ w',(execOp (FA vc).eval o).run P w = .ok .skip w'∧R' vc w'
def AllObL (P:Program) (w0:World) (FA:Value→Act) (R R':Value→World→Prop) (f:FuncId) (args:Array Value):List Oper→List Kd→Prop
 | o::os,q::qs=>ObL P w0 FA R R' f args o q∧AllObL P w0 FA R R' f args os qs
 | _,_=>True
theorem AllObL.at {P:Program} {w0:World} {FA:Value→Act} {R R':Value→World→Prop} {f:FuncId} {args:Array Value}:∀ {ops:List Oper} {ks:List Kd},AllObL P w0 FA R R' f args ops ks →
  ∀ {i:Nat} {o:Oper} {q:Kd},ops[i]?=some o→ks[i]?=some q→ObL P w0 FA R R' f args o q:=by
 intro ops
 induction ops with
 | nil=>intro ks _ i o q h; simp at h
 | cons p os ih =>
  intro ks h i o q ho hq
  cases ks with
  | nil=>simp at hq
  | cons r qs =>
   cases i with
   | zero=>simp at ho hq; subst ho hq; exact h.1
   | succ i=>exact ih h.2 (by simpa using ho) (by simpa using hq)
abbrev noB:Nat→Nat:=fun _=>0
structure LastPlan (ops:List Oper) (kd:List Kd) (ic fi:Nat) (a0:Act) (w0:World) (R R':Value→World→Prop) (L:Array Bool) (a:Act) (w:World):Prop where
 size:L.size=ops.length
 closed:∀ (i:Nat) o,ops[i]?=some o→L.getD i false=true→∀ j,Zdb o j=true→L.getD j false=true
 st:∃ vc,a=pa a0 vc noB (fun j=>L.getD j false) 0 ops kd∧(L.getD ic false=false→w=w0)∧(L.getD ic false=true→(L.getD fi false=false→R vc w)∧(L.getD fi false=true→R vc w∨R' vc w)∧(L.getD fi false=true→(∃ k,kd[fi]?=some (.sto k))→R' vc w)) ∧
  (∀ (i:Nat) q,kd[i]?=some q→L.getD i false=true→Zcs q=true→L.getD ic false=true)
structure CellS where
 sym:Sym
 kids:List Nat
 up:Nat
def turn (cs:List CellS) (x y:Nat):List CellS:=cs.modify x (fun c => { c with up:=y })
theorem Zrj (cs:List CellS) (x y:Nat):(turn cs x y).length=cs.length:=by simp [turn]
theorem Zmu (cs:List CellS) (x y i:Nat):(turn cs x y)[i]?=(cs[i]?).map (fun c=>if x=i then { c with up:=y } else c):=by
 simp only [turn,List.getElem?_modify]
 cases cs[i]? with
 | none=>rfl
 | some c=>simp
def UpOk (cs:List CellS) (ρ rk:Nat→Nat):Prop:=∀ (i:Nat) c,cs[i]?=some c→c.up<cs.length∧ρ c.up=ρ i∧(c.up=i→ρ i=i)∧(c.up≠i→rk c.up<rk i)
theorem UpOk.root {cs:List CellS} {ρ rk:Nat→Nat} (h:UpOk cs ρ rk):∀ (n i:Nat) c,rk i≤n→cs[i]?=some c→∃ c',cs[ρ i]?=some c'∧c'.up=ρ i∧ρ (ρ i)=ρ i:=by
 intro n
 induction n with
 | zero =>
  intro i c hn hc
  obtain ⟨h1,h2,h3,h4⟩:=h i c hc
  by_cases e:c.up=i
  ·rw [h3 e]; exact ⟨c,hc,e,h3 e⟩
  ·have:=h4 e; omega
 | succ n ih =>
  intro i c hn hc
  obtain ⟨h1,h2,h3,h4⟩:=h i c hc
  by_cases e:c.up=i
  ·rw [h3 e]; exact ⟨c,hc,e,h3 e⟩
  ·have:=h4 e
   rw [← h2]
   exact ih c.up _ (by omega) (Qb h1)
theorem UpOk.rt {cs:List CellS} {ρ rk:Nat→Nat} (h:UpOk cs ρ rk):Rt cs.length ρ:=by
 refine ⟨fun i hi => ?_,fun i hi => ?_⟩
 ·obtain ⟨c',h1,_,_⟩:=h.root _ i _ (Qe _) (Qb hi)
  exact (Qa.1 h1).1
 ·obtain ⟨c',_,_,h3⟩:=h.root _ i _ (Qe _) (Qb hi)
  exact h3
def Zfg (cs:List CellS):Nat:=((List.range cs.length).filter (fun i=>((cs[i]?).map (fun c=>c.up == i)).getD false)).length
theorem Zoe {cs:List CellS} {x y:Nat} {c:CellS} (hx:cs[x]?=some c) (hr:c.up=x) (hne:x≠y):Zfg (turn cs x y)<Zfg cs:=by
 unfold Zfg
 rw [Zrj]
 refine Zoc (x:=x) (fun i _ hi => ?_) (List.mem_range.2 (Qa.1 hx).1) (by simp [hx,hr]) ?_
 ·rw [Zmu] at hi
  cases hc:cs[i]? with
  | none=>rw [hc] at hi; simp at hi
  | some d =>
   rw [hc] at hi
   simp only [Option.map_some,Option.getD_some,beq_iff_eq] at hi ⊢
   split at hi
   ·rename_i e; subst e; simp at hi; exact absurd hi.symm hne
   ·exact hi
 ·rw [Zmu,hx]
  simp
  exact fun e=>hne e.symm
theorem UpOk.turn {cs:List CellS} {ρ rk:Nat→Nat} (h:UpOk cs ρ rk) {x y:Nat} (hx:x<cs.length) (hy:y<cs.length) (rx:ρ x=x) (ry:ρ y=y) (hne:x≠y) :
  UpOk (YtlmjilpjmgjjcabDoor.turn cs x y) (mg ρ x y) (fun i=>if ρ i=x then rk i+rk y+1 else rk i):=by
 intro i c hc
 rw [Zmu] at hc
 cases hd:cs[i]? with
 | none=>rw [hd] at hc; simp at hc
 | some d =>
  rw [hd] at hc
  simp only [Option.map_some,Qo] at hc
  obtain ⟨h1,h2,h3,h4⟩:=h i d hd
  rw [Zrj]
  by_cases e:x=i
  ·subst e
   rw [if_pos rfl] at hc
   subst hc
   refine ⟨hy,?_,fun e=>absurd e.symm hne,fun _ => ?_⟩
   ·unfold mg
    rw [rx,ry,if_pos rfl,if_neg (fun e=>hne e.symm)]
   ·simp only [rx,ry,if_true]
    rw [if_neg (fun e=>hne e.symm)]; omega
  ·rw [if_neg e] at hc
   subst hc
   refine ⟨h1,?_,fun e' => ?_,fun e' => ?_⟩
   ·unfold mg; rw [h2]
   ·have:=h3 e'
    unfold mg
    rw [this,if_neg (fun e''=>e e''.symm)]
   ·have:=h4 e'
    simp only [h2]
    split <;> omega
theorem Zja (w:World) (g n cap i:Nat) (u:Value):Kept (Zbs (.slice (some ⟨g,0,none⟩) n cap)) w (w.setCell ⟨g,i,none⟩ u):=(Qx _ w).setCell (p:=⟨g,i,none⟩) (fun _=>(rfl:some g=some g)) u
theorem Zof {l:List Nat} {k n:Nat} (h:l[k]?=some n):l.take (k+1)=l.take k++[n]:=by rw [List.take_add_one,h]; rfl
theorem Zrk {w:World} {B e size n:Nat} {v:Value} {xs:List Value} (h:w.ownsRow B e size v n xs):∀ k,Zbs v k→∃ cl fr,w.heap[k]?=some (.cells cl e fr):=fun k hk=>by
 rcases h.2 with ⟨rfl,_⟩ | ⟨g,cap,cur,rfl,_,hg,_⟩
 ·simp [Zbs,Value.ownBlock] at hk
 ·simp [Zbs,Value.ownBlock] at hk
  subst hk
  exact ⟨_,_,hg⟩
def OfTy (S:Nat→Prop) (w:World) (t:TypeId):Prop:=∀ k,S k→∃ cl fr,w.heap[k]?=some (.cells cl t fr)
theorem OfTy.block {S:Nat→Prop} {w w':World} {t t':TypeId} {k:Nat} {cl:Array Value} {fr:Nat × Nat} (hS:OfTy S w t) (hk:Kept S w w') (h:w.heap[k]?=some (.cells cl t' fr)) (ht:t'≠t):w'.heap[k]?=some (.cells cl t' fr) :=
 (hk.block k (Zab h) (fun hs=>by
  obtain ⟨cl',fr',h1⟩:=hS k hs
  rw [h] at h1
  simp at h1
  exact ht h1.2.1)).trans h
theorem OfTy.row {S:Nat→Prop} {w w':World} {t B e size n:Nat} {v:Value} {xs:List Value} (hS:OfTy S w t) (hk:Kept S w w') (h:w.ownsRow B e size v n xs) (ht:e≠t):w'.ownsRow B e size v n xs :=
 Zak h (fun k hj=>by
  obtain ⟨cl,fr,h1⟩:=Zrk h k hj
  rw [hS.block hk h1 ht,h1])
def Zmv (c:Int) (n:Nat):Nat:=((if c<0 then -(c+1) else c) % (n:Int)).toNat
theorem Zyp (c:Int) (n:Nat) (hn:0<n):Zmv c n<n:=by
 have h1:=Int.emod_nonneg (if c<0 then -(c+1) else c) (show (n:Int)≠0 by omega)
 have h2:=Int.emod_lt_of_pos (if c<0 then -(c+1) else c) (show (0:Int)<n by omega)
 unfold Zmv
 omega
theorem Zyq (c:Int) (n:Nat) (w:World) (hc : -9223372036854775808≤c∧c<9223372036854775808) (hn:0<n∧n<1000000) :
  Calls Tryd.prog 10 #[.int .i64 c,.int .i64 n] w fun e w'=>e = .returned (.int .i64 (Zmv c n))∧w'=w:=by
 have hn0:¬ (n:Int)=0:=by omega
 obtain ⟨hc1,hc2⟩:=hc
 obtain ⟨hn1,hn2⟩:=hn
 by_cases h0:c<0
 ·have e : -((c+1).tmod n)=(Zmv c n:Int):=by
   unfold Zmv
   rw [if_pos h0,← Int.neg_tmod,Int.tmod_eq_emod_of_nonneg (by omega),Int.toNat_of_nonneg (Int.emod_nonneg _ hn0)]
  go_enter Tryd.func10,Tryd.ntmps10
  go_wp2
  go_ret
  exact ⟨by first | rfl | (rw [← e]; rfl) | simp [e],rfl⟩
 ·have e:c.tmod n=(Zmv c n:Int):=by
   unfold Zmv
   rw [if_neg h0,Int.tmod_eq_emod_of_nonneg (by omega),Int.toNat_of_nonneg (Int.emod_nonneg _ hn0)]
  have e':c % n=(Zmv c n:Int):=by rw [← e,Int.tmod_eq_emod_of_nonneg (by omega)]
  go_enter Tryd.func10,Tryd.ntmps10
  go_wp2
  go_ret
  exact ⟨by first | rfl | (rw [← e]; rfl) | (rw [← e']; rfl) | simp [e,e'],rfl⟩
structure RawAt (w:World) (B b:Nat) (ra:Option Addr) (rl rc:Nat) (at':Nat):Prop where
 le:B≤b
 box:w.heap[b]?=some (.cells #[.slice ra rl rc,.int .i64 at'] 25 (0,0))
 far:at'≤rl
 len:rl≤9223372036854775807
 cells:∀ i,i<rl→∃ (k off:Nat) (c:Int),ra=some ⟨k,off,none⟩∧k<B∧w.cell? ⟨k,off+i,none⟩=some (.int .i64 c) ∧ -9223372036854775808≤c∧c<9223372036854775808
def Zct (w:World) (B b:Nat) (ra:Option Addr) (rl rc:Nat):Prop:=∃ at',RawAt w B b ra rl rc at'
theorem RawAt.put {w w':World} {B b:Nat} {ra:Option Addr} {rl rc at' at2:Nat} (h:RawAt w B b ra rl rc at') (hK:Kept (only b) w w') (hb:w'.heap[b]?=some (.cells #[.slice ra rl rc,.int .i64 at2] 25 (0,0))) (h2:at2≤rl):RawAt w' B b ra rl rc at2:=by
 refine ⟨h.le,hb,h2,h.len,fun i hi => ?_⟩
 obtain ⟨k,off,c,h1,h3,h4,h5⟩:=h.cells i hi
 exact ⟨k,off,c,h1,h3,hK.cell h4 (fun e=>by have e:k=b:=e; have:=h.le; omega),h5⟩
theorem Zdu (w:World) (B b:Nat) (ra:Option Addr) (rl rc:Nat) (h:Zct w B b ra rl rc) (n:Nat) (hn:0<n∧n≤100) :
  Calls Tryd.prog 18 #[.pointer (some ⟨b,0,none⟩),.int .i64 n] w fun e w'=>∃ v:Nat,v<n∧e = .returned (.int .i64 v)∧Kept (only b) w w'∧Zct w' B b ra rl rc:=by
 obtain ⟨p,h⟩:=h
 have c0:=Zaa h.box 0 _ rfl
 have c1:=Zaa h.box 1 _ rfl
 have hb:=Zab h.box
 have hf:=fun i=>Zae h.box i
 have hfar:=h.far
 have hlen:=h.len
 have HR:=Zac h
 by_cases hlt:p<rl
 ·obtain ⟨k,off,c,rfl,hk,hc,hc1,hc2⟩:=h.cells p hlt
  have hkb:k<w.heap.size:=by have:=h.le; omega
  have HP:=Zac (fun u=>Zyq c n u ⟨hc1,hc2⟩ ⟨hn.1,by omega⟩)
  have hpl:=Zyp c n hn.1
  obtain ⟨v,hv⟩:∃ v,v=Zmv c n:=⟨_,rfl⟩
  rw [← hv] at HP hpl
  have hI:¬ (rl:Int)≤(p:Int):=by omega
  have hI2:decide ((rl:Int)≤(p:Int))=false:=by simpa using hI
  clear h hv
  go_enter Tryd.func18,Tryd.ntmps18
  go_wp2_with fail
  go_quiet (fail)
  go_wp2_with fail
  have d0:(w.drewN nq).cell? ⟨b,0,none⟩=some (.slice (some ⟨k,off,none⟩) rl rc):=c0
  have d1:(w.drewN nq).cell? ⟨b,1,none⟩=some (.int .i64 p):=c1
  have dc:(w.drewN nq).cell? ⟨k,off+p,none⟩=some (.int .i64 c):=hc
  have df:∀ i,(w.drewN nq).frozen? ⟨b,i,none⟩=false:=hf
  have db:b<(w.drewN nq).heap.size:=hb
  have HK:Hid (Kept (only b) w (w.drewN nq)):=(Qx _ _).drewN nq
  have HB:Hid ((w.drewN nq).heap[b]?=some (.cells #[.slice (some ⟨k,off,none⟩) rl rc,.int .i64 p] 25 (0,0))):=HR.out.box
  clear c0 c1 hc hf hb hkb
  generalize w.drewN nq=W at d0 d1 dc df db HK HB ⊢
  go_quiet ((go_at_call 10; exact Calls.quiet_of_same (HP.out _)))
  go_wp2
  go_ret
  have hKe:∀ u:Value,Kept (only b) W (W.setCell ⟨b,1,none⟩ u):=fun u=>(Qx _ _).put 1 u
  refine ⟨v,hpl,rfl,?_,p+1,?_⟩
  ·exact HK.out.trans (by repeat (first | with_reducible exact Qx _ _ | with_reducible apply Kept.drewN | with_reducible apply Kept.put))
  ·refine HR.out.put (HK.out.trans (by repeat (first | with_reducible exact Qx _ _ | with_reducible apply Kept.drewN | with_reducible apply Kept.put))) ?_ (by omega)
   exact Zah HB.out 1 _
 ·have hI:(rl:Int)≤(p:Int):=by omega
  have hI2:decide ((rl:Int)≤(p:Int))=true:=by simpa using hI
  clear h
  go_enter Tryd.func18,Tryd.ntmps18
  go_wp2_with fail
  go_quiet (fail)
  go_wp2
  go_ret
  exact ⟨0,hn.1,rfl,(Qx _ _).drewN _,p,HR.out.put ((Qx _ _).drewN _) HR.out.box hfar⟩
def Yba (w:World) (B b:Nat) (ra:Option Addr) (rl rc:Nat) (S Len:Nat) (e:Ending) (w':World):Prop:=∃ t:GT,t.ok=true∧t.size≤S∧t.text.length≤Len∧e = .returned (.string ⟨t.text.toArray⟩)∧Kept (only b) w w'∧Zct w' B b ra rl rc
def tS:Nat→Nat
 | 0=>1
 | d+1=>1+2 * tS d
def tL:Nat→Nat
 | 0=>3
 | d+1=>4+2 * tL d
theorem Ybb:(⟨#[88,89,90]⟩:ByteArray).extract 0 1=⟨#[88]⟩∧(⟨#[88,89,90]⟩:ByteArray).extract 1 2=⟨#[89]⟩∧(⟨#[88,89,90]⟩:ByteArray).extract 2 3=⟨#[90]⟩:=by
 refine ⟨?_,?_,?_⟩ <;> rw [Lib.extract_eq] <;> rfl
theorem Yah (s:List UInt8) (t:GT):(⟨(GT.f s t).text.toArray⟩:ByteArray)=⟨(s++[40]).toArray⟩++⟨t.text.toArray⟩++⟨#[41]⟩:=by
 show _=⟨(s++[40]).toArray⟩++⟨t.text.toArray⟩++(⟨[41].toArray⟩:ByteArray)
 rw [Zbg,Zbg]
 simp [GT.text]
theorem Yai (s:List UInt8) (t u:GT):(⟨(GT.g s t u).text.toArray⟩:ByteArray)=⟨(s++[40]).toArray⟩++⟨t.text.toArray⟩++⟨#[44]⟩++⟨u.text.toArray⟩++⟨#[41]⟩:=by
 show _=⟨(s++[40]).toArray⟩++⟨t.text.toArray⟩++(⟨[44].toArray⟩:ByteArray)++⟨u.text.toArray⟩++(⟨[41].toArray⟩:ByteArray)
 rw [Zbg,Zbg,Zbg,Zbg]
 simp [GT.text]
theorem Zyr (B b:Nat) (ra:Option Addr) (rl rc:Nat):∀ (d:Nat),d≤2→∀ (w:World),Zct w B b ra rl rc→Calls Tryd.prog 32 #[.pointer (some ⟨b,0,none⟩),.int .i64 d] w (Yba w B b ra rl rc (tS d) (tL d)):=by
 obtain ⟨x0,x1,x2⟩:=Ybb
 intro d
 induction d with
 | zero =>
  intro hd w h
  have HT:=Zac (Zdu w B b ra rl rc h 5 ⟨by omega,by omega⟩)
  clear h
  go_enter Tryd.func32,Tryd.ntmps32
  go_wp2_with fail
  refine HT.out.mono ?_
  rintro e w1 ⟨v,hv,rfl,hK,hR⟩
  have HK:Hid (Kept (only b) w w1∧Zct w1 B b ra rl rc):=⟨hK,hR⟩
  clear hK hR HT
  rcases (by omega:v=0∨v=1∨v=2∨v=3∨v=4) with rfl | rfl | rfl | rfl | rfl
  ·go_wp2
   go_ret
   exact ⟨.v [88],by decide +kernel,by decide,by decide,by first | rfl | (simp [GT.text,x0]),HK.out.1,HK.out.2⟩
  ·go_wp2
   go_ret
   exact ⟨.v [89],by decide +kernel,by decide,by decide,by first | rfl | (simp [GT.text,x1]),HK.out.1,HK.out.2⟩
  ·go_wp2
   go_ret
   exact ⟨.v [90],by decide +kernel,by decide,by decide,by first | rfl | (simp [GT.text,x2]),HK.out.1,HK.out.2⟩
  ·go_wp2
   go_ret
   exact ⟨.n [122],by decide +kernel,by decide,by decide,rfl,HK.out.1,HK.out.2⟩
  ·go_wp2
   go_ret
   exact ⟨.n [110,105,108],by decide +kernel,by decide,by decide,rfl,HK.out.1,HK.out.2⟩
 | succ d ih =>
  intro hd w h
  have HT:=Zac (Zdu w B b ra rl rc h 7 ⟨by omega,by omega⟩)
  have IH:=Zac (ih (by omega))
  have hdi:((d+1:Nat):Int) - 1=(d:Int):=by omega
  have hdp:(0:Int)<((d+1:Nat):Int):=by omega
  have hLb:tL d≤24:=by rcases (by omega:d=0∨d=1) with rfl | rfl <;> decide
  clear h ih
  go_enter Tryd.func32,Tryd.ntmps32
  go_wp2_with fail
  refine HT.out.mono ?_
  rintro e w1 ⟨v,hv,rfl,hK,hR⟩
  have HK:Hid (Kept (only b) w w1∧Zct w1 B b ra rl rc):=⟨hK,hR⟩
  clear hK hR HT
  rcases (by omega:v=0∨v=1∨v=2∨v=3∨v=4∨v=5∨v=6) with rfl | rfl | rfl | rfl | rfl | rfl | rfl
  ·go_wp2
   go_ret
   exact ⟨.v [88],by decide +kernel,by simp [GT.size,tS],by simp [GT.text,tL]; omega,by first | rfl | (simp [GT.text,x0]),HK.out.1,HK.out.2⟩
  ·go_wp2
   go_ret
   exact ⟨.v [89],by decide +kernel,by simp [GT.size,tS],by simp [GT.text,tL]; omega,by first | rfl | (simp [GT.text,x1]),HK.out.1,HK.out.2⟩
  ·go_wp2
   go_ret
   exact ⟨.v [90],by decide +kernel,by simp [GT.size,tS],by simp [GT.text,tL]; omega,by first | rfl | (simp [GT.text,x2]),HK.out.1,HK.out.2⟩
  ·go_wp2
   go_ret
   exact ⟨.n [122],by decide +kernel,by simp [GT.size,tS],by simp [GT.text,tL]; omega,rfl,HK.out.1,HK.out.2⟩
  ·go_wp2
   go_ret
   exact ⟨.n [110,105,108],by decide +kernel,by simp [GT.size,tS],by simp [GT.text,tL]; omega,rfl,HK.out.1,HK.out.2⟩
  ·have H1:=Zac (IH.out w1 HK.out.2)
   go_wp2_with fail
   refine H1.out.mono ?_
   rintro e w2 ⟨t,h1,h2,h3,rfl,hK2,hR2⟩
   have HK2:Hid (Kept (only b) w w2∧Zct w2 B b ra rl rc):=⟨HK.out.1.trans hK2,hR2⟩
   have Ht:=Zac (Yah [115] t)
   clear hK2 hR2 H1
   go_wp2
   go_ret
   exact ⟨.f [115] t,by simp [GT.ok,h1]; decide +kernel,by simp [GT.size,tS]; omega,by simp [GT.text,tL]; omega,by rw [Ht.out]; rfl,HK2.out.1,HK2.out.2⟩
  ·have H1:=Zac (IH.out w1 HK.out.2)
   go_wp2_with fail
   refine H1.out.mono ?_
   rintro e w2 ⟨t,h1,h2,h3,rfl,hK2,hR2⟩
   have HK2:Hid (Kept (only b) w w2∧Zct w2 B b ra rl rc):=⟨HK.out.1.trans hK2,hR2⟩
   have H2:=Zac (IH.out w2 hR2)
   clear hK2 hR2 H1
   go_wp2_with fail
   refine H2.out.mono ?_
   rintro e w3 ⟨u,k1,k2,k3,rfl,hK3,hR3⟩
   have HK3:Hid (Kept (only b) w w3∧Zct w3 B b ra rl rc):=⟨HK2.out.1.trans hK3,hR3⟩
   have Ht:=Zac (Yai [102] t u)
   clear hK3 hR3 H2
   go_wp2
   go_ret
   exact ⟨.g [102] t u,by simp [GT.ok,h1,k1]; decide +kernel,by simp [GT.size,tS]; omega,by simp [GT.text,tL]; omega,by rw [Ht.out]; rfl,HK3.out.1,HK3.out.2⟩
def Zys (w:World) (B b:Nat) (ra:Option Addr) (rl rc:Nat) (e:Ending) (w':World):Prop:=∃ t:GT,t.fine=true∧t.text.length≤38∧e = .returned (.string ⟨t.text.toArray⟩)∧Kept (only b) w w'∧Zct w' B b ra rl rc
theorem Zip (w:World) (B b:Nat) (ra:Option Addr) (rl rc:Nat) (h:Zct w B b ra rl rc):Calls Tryd.prog 19 #[.pointer (some ⟨b,0,none⟩)] w (Zys w B b ra rl rc):=by
 have HT:=Zac (Zdu w B b ra rl rc h 3 ⟨by omega,by omega⟩)
 have IH:=Zac (fun d hd=>Zyr B b ra rl rc d hd)
 clear h
 go_enter Tryd.func19,Tryd.ntmps19
 go_wp2_with fail
 refine HT.out.mono ?_
 rintro e w1 ⟨v,hv,rfl,hK,hR⟩
 have HK:Hid (Kept (only b) w w1∧Zct w1 B b ra rl rc):=⟨hK,hR⟩
 clear hK hR HT
 rcases (by omega:v=0∨v=1∨v=2) with rfl | rfl | rfl
 ·go_wp2
  go_ret
  exact ⟨.n [115,116,111,112],by decide +kernel,by decide,rfl,HK.out.1,HK.out.2⟩
 ·have H1:=Zac (IH.out 2 (by omega) w1 HK.out.2)
  go_wp2_with fail
  refine H1.out.mono ?_
  rintro e w2 ⟨t,h1,h2,h3,rfl,hK2,hR2⟩
  have HK2:Hid (Kept (only b) w w2∧Zct w2 B b ra rl rc):=⟨HK.out.1.trans hK2,hR2⟩
  have Ht:=Zac (Yah [112] t)
  have h2':t.size≤7:=h2
  have h3':t.text.length≤24:=h3
  clear hK2 hR2 H1 h2 h3
  go_wp2
  go_ret
  have hw:Zje Zdj [112]=true:=by decide +kernel
  exact ⟨.f [112] t,by unfold GT.fine; rw [Bool.and_eq_true,Bool.and_eq_true]; exact ⟨rfl,by simp only [GT.ok]; rw [hw,h1]; rfl,by rw [decide_eq_true_eq]; simp only [GT.size]; omega⟩,by simp [GT.text]; omega,by rw [Ht.out]; rfl,HK2.out.1,HK2.out.2⟩
 ·have H1:=Zac (IH.out 2 (by omega) w1 HK.out.2)
  go_wp2_with fail
  refine H1.out.mono ?_
  rintro e w2 ⟨t,h1,h2,h3,rfl,hK2,hR2⟩
  have HK2:Hid (Kept (only b) w w2∧Zct w2 B b ra rl rc):=⟨HK.out.1.trans hK2,hR2⟩
  have H2:=Zac (IH.out 1 (by omega) w2 hR2)
  have h2':t.size≤7:=h2
  have h3':t.text.length≤24:=h3
  clear hK2 hR2 H1 h2 h3
  go_wp2_with fail
  refine H2.out.mono ?_
  rintro e w3 ⟨u,k1,k2,k3,rfl,hK3,hR3⟩
  have HK3:Hid (Kept (only b) w w3∧Zct w3 B b ra rl rc):=⟨HK2.out.1.trans hK3,hR3⟩
  have Ht:=Zac (Yai [113] t u)
  have k2':u.size≤3:=k2
  have k3':u.text.length≤10:=k3
  clear hK3 hR3 H2 k2 k3
  go_wp2
  go_ret
  have hw:Zje Zdj [113]=true:=by decide +kernel
  exact ⟨.g [113] t u,by unfold GT.fine; rw [Bool.and_eq_true,Bool.and_eq_true]; exact ⟨rfl,by simp only [GT.ok]; rw [hw,h1,k1]; rfl,by rw [decide_eq_true_eq]; simp only [GT.size]; omega⟩,by simp [GT.text]; omega,by rw [Ht.out]; rfl,HK3.out.1,HK3.out.2⟩
theorem Zle:∀ (r:List GT) (t u:GT),Zdm t (r++[u])=Zdm t r++(44::u.text):=by
 intro r
 induction r with
 | nil=>intro t u; rfl
 | cons x r ih=>intro t u; simp [Zdm,ih]
def Zwg (w:World) (B b:Nat) (ra:Option Addr) (rl rc:Nat) (e:Ending) (w':World):Prop:=∃ (t:GT) (r:List GT),t.fine=true∧(∀ u ∈ r,u.fine=true)∧r.length≤1∧(Zdm t r).length≤77∧e = .returned (.string ⟨(Zdm t r).toArray⟩)∧Kept (only b) w w'∧Zct w' B b ra rl rc
theorem Zyt (t:GT) (r:List GT) (u:GT):(⟨(Zdm t (r++[u])).toArray⟩:ByteArray)=⟨(Zdm t r).toArray⟩++⟨#[44]⟩++⟨u.text.toArray⟩:=by
 show _=⟨(Zdm t r).toArray⟩++(⟨[44].toArray⟩:ByteArray)++⟨u.text.toArray⟩
 rw [Zbg,Zbg,Zle]
 simp
theorem Zlf (w:World) (B b:Nat) (ra:Option Addr) (rl rc:Nat) (h:Zct w B b ra rl rc):Calls Tryd.prog 20 #[.pointer (some ⟨b,0,none⟩),.int .i64 2,.string ⟨#[44]⟩] w (Zwg w B b ra rl rc):=by
 have HS:=Zac (Zip w B b ra rl rc h)
 clear h
 go_enter Tryd.func20,Tryd.ntmps20
 go_wp2_with fail
 refine HS.out.mono ?_
 rintro e w1 ⟨t,ht,hl,rfl,hK,hR⟩
 have HK:Hid (Kept (only b) w w1∧Zct w1 B b ra rl rc):=⟨hK,hR⟩
 have HT:=Zac (Zdu w1 B b ra rl rc hR 2 ⟨by omega,by omega⟩)
 clear hK hR HS
 go_wp2_with fail
 refine HT.out.mono ?_
 rintro e w2 ⟨v,hv,rfl,hK2,hR2⟩
 have HK2:Hid (Kept (only b) w w2∧Zct w2 B b ra rl rc):=⟨HK.out.1.trans hK2,hR2⟩
 have Ht:=Zac ht
 clear hK2 hR2 HT ht
 go_wp2
 go_loopw [7,8] (fun sv i u=>∃ (r:List GT) (k:Nat),i = .int .i64 k∧sv = .string ⟨(Zdm t r).toArray⟩∧k+r.length≤1∧(∀ x ∈ r,x.fine=true)∧(Zdm t r).length≤38+39 * r.length∧Kept (only b) w u∧Zct u B b ra rl rc) (fun _ i _=>(intOf i).toNat)
 case atStart=>exact ⟨[],v,rfl,rfl,by simp; omega,by simp,by simpa [Zdm] using hl,HK2.out.1,HK2.out.2⟩
 case round =>
  obtain ⟨r,k,rfl,rfl,hkr,hf,hbl,hKu,hRu⟩:=hrel
  have HKu:Hid (Kept (only b) w wr∧Zct wr B b ra rl rc):=⟨hKu,hRu⟩
  have Hf:=Zac hf
  by_cases h0:k=0
  ·subst h0
   clear hKu hRu hf
   go_wp2
   go_ret
   exact ⟨t,r,Ht.out,Hf.out,by omega,by omega,rfl,HKu.out.1,HKu.out.2⟩
  ·have HS2:=Zac (Zip wr B b ra rl rc hRu)
   have hI:(0:Int)<(k:Int):=by omega
   clear hKu hRu hf
   go_wp2_with fail
   refine HS2.out.mono ?_
   rintro e w3 ⟨u,hu,hul,rfl,hK3,hR3⟩
   have HK3:Hid (Kept (only b) w w3∧Zct w3 B b ra rl rc):=⟨HKu.out.1.trans hK3,hR3⟩
   have Hb:=Zac (Zyt t r u)
   have Hu:=Zac hu
   clear hK3 hR3 hu
   go_wp2
   go_roundw
   case rel =>
    have hk1:((k - 1:Nat):Int)=(k:Int) - 1:=by omega
    refine ⟨r++[u],k - 1,by rw [hk1],by rw [Hb.out],by simp; omega,fun x hx => ?_,by rw [Zle]; simp; omega,HK3.out.1,HK3.out.2⟩
    rcases Qk.1 hx with hx | hx
    ·exact Hf.out x hx
    ·simp at hx
     subst hx
     exact Hu.out
   case measure=>simp [intOf]; omega
theorem Zog (w:World) (B b:Nat) (ra:Option Addr) (rl rc:Nat) (h:Zct w B b ra rl rc):Calls Tryd.prog 8 #[.pointer (some ⟨b,0,none⟩)] w fun e w'=>(∃ s:List UInt8,(∃ a,Zfo ⟨s.toArray⟩=some a)∧e = .returned (.string ⟨s.toArray⟩))∧Kept (only b) w w'∧Zct w' B b ra rl rc:=by
 have HS:=Zac (Zlf w B b ra rl rc h)
 clear h
 go_enter Tryd.func8,Tryd.ntmps8
 go_wp2_with fail
 refine HS.out.mono ?_
 rintro e w1 ⟨t,r,ht,hr,hrl,hl,rfl,hK,hR⟩
 have HA:=Zac (Yay t r ht hr (by omega) (by simp; omega))
 have HK:Hid (Kept (only b) w w1∧Zct w1 B b ra rl rc):=⟨hK,hR⟩
 have He:Hid ((⟨(Zdm t r++[46]).toArray⟩:ByteArray)=⟨(Zdm t r).toArray⟩++⟨#[46]⟩):=by show _=_; rw [← Zbg]
 clear hK hR HS ht hr
 go_wp2
 go_ret
 exact ⟨⟨_,HA.out,by rw [He.out]; rfl⟩,HK.out.1,HK.out.2⟩
theorem Zyu:∀ {g:Nat} {ts:List Tok} {acc cs:List Cls},Zfe g ts acc=some cs→acc.length≤cs.length:=by
 intro g
 induction g with
 | zero=>intro ts acc cs h; simp [Zfe] at h
 | succ g ih =>
  intro ts acc cs h
  cases ts with
  | nil=>simp [Zfe] at h
  | cons t ts =>
   rw [Zfe] at h
   split at h
   ·simp at h; subst h; exact Qe _
   ·split at h
    ·simp at h
    ·have:=ih h
     simp at this
     omega
theorem Zwh (P:List (GT × List GT)) (hP:P≠[]) (hc:∀ c ∈ P,ClFine c) (hl:P.length≤24) (hs:(Zdg P).length≤800):∃ cs,Zdk ⟨(Zdg P).toArray⟩=some cs∧cs≠[]:=by
 obtain ⟨cs,h⟩:=Zyo P hc hl hs
 refine ⟨cs,h,?_⟩
 cases P with
 | nil=>exact absurd rfl hP
 | cons c P =>
  have hk:ksOf (Zdg (c::P)) 0=clK c.1 c.2++ksOf (Zdg P) (0+(clT c.1 c.2).length):=by
   rw [show Zdg (c::P)=clT c.1 c.2++Zdg P by simp [Zdg],Zoa c (hc c (by simp))]
  obtain ⟨l,r,hkd⟩:∃ l r,clK c.1 c.2=(1,l)::r:=by
   have ha:=(GT.fine_iff (hc c (by simp)).head).1
   obtain ⟨a,b⟩:=c
   cases a with
   | v s=>simp [GT.atom] at ha
   | n s=>cases b <;> exact ⟨_,_,rfl⟩
   | f s t=>cases b <;> exact ⟨_,_,rfl⟩
   | g s t u=>cases b <;> exact ⟨_,_,rfl⟩
  rw [hkd] at hk
  unfold ksOf at hk
  cases ht:toks (Zdg (c::P)) 0 with
  | nil=>rw [ht] at hk; simp at hk
  | cons t ts =>
   rw [ht] at hk
   simp only [List.map_cons,List.cons_append,List.cons.injEq,Prod.mk.injEq] at hk
   unfold Zdk at h
   split at h
   ·simp at h
   ·split at h
    ·simp at h
    ·unfold Zax at h
     rw [show (⟨(Zdg (c::P)).toArray⟩:ByteArray).data.toList=Zdg (c::P) from rfl,ht,List.cons_append,Zfe,if_neg (by rw [hk.1.1]; decide)] at h
     split at h
     ·simp at h
     ·have:=Zyu h
      rintro rfl
      simp at this
theorem Zgs (P:List (GT × List GT)) (a:GT) (c:List GT):Zdg (P++[(a,c)])=Zdg P++clT a c:=by simp [Zdg]
theorem Yck (P:List (GT × List GT)) (a:GT):(⟨(Zdg (P++[(a,[])])).toArray⟩:ByteArray)=⟨(Zdg P).toArray⟩++⟨a.text.toArray⟩++⟨#[46]⟩:=by
 show _=⟨(Zdg P).toArray⟩++⟨a.text.toArray⟩++(⟨[46].toArray⟩:ByteArray)
 rw [Zbg,Zbg,Zgs]
 simp [clT]
theorem Ybc (P:List (GT × List GT)) (a t:GT) (r:List GT):(⟨(Zdg (P++[(a,t::r)])).toArray⟩:ByteArray)=⟨(Zdg P).toArray⟩++⟨a.text.toArray⟩++⟨#[58,45]⟩++⟨(Zdm t r).toArray⟩++⟨#[46]⟩:=by
 show _=⟨(Zdg P).toArray⟩++⟨a.text.toArray⟩++(⟨[58,45].toArray⟩:ByteArray)++⟨(Zdm t r).toArray⟩++(⟨[46].toArray⟩:ByteArray)
 rw [Zbg,Zbg,Zbg,Zbg,Zgs]
 simp [clT]
theorem Zqb (w:World) (B b:Nat) (ra:Option Addr) (rl rc:Nat) (h:Zct w B b ra rl rc):Calls Tryd.prog 7 #[.pointer (some ⟨b,0,none⟩)] w fun e w'=>(∃ (s:List UInt8) (n:Nat),(∃ cs,Zdk ⟨s.toArray⟩=some cs∧cs≠[])∧n≤5∧e = .returned (.tuple #[.string ⟨s.toArray⟩,.int .i64 n]))∧Kept (only b) w w'∧Zct w' B b ra rl rc:=by
 have HT:=Zac (Zdu w B b ra rl rc h 5 ⟨by omega,by omega⟩)
 clear h
 go_enter Tryd.func7,Tryd.ntmps7
 go_wp2_with fail
 refine HT.out.mono ?_
 rintro e w1 ⟨v,hv,rfl,hK,hR⟩
 have HK:Hid (Kept (only b) w w1∧Zct w1 B b ra rl rc):=⟨hK,hR⟩
 clear hK hR HT
 obtain ⟨n,hn,hn5,hn1⟩:∃ n:Nat,(1:Int)+(v:Int)=(n:Int)∧n≤5∧1≤n:=⟨1+v,by omega,by omega,by omega⟩
 go_wp2
 go_loopw [4,6] (fun sv i u=>∃ (P:List (GT × List GT)),P.length≤n∧i = .int .i64 P.length∧sv = .string ⟨(Zdg P).toArray⟩∧(∀ c ∈ P,ClFine c)∧(Zdg P).length≤118 * P.length∧Kept (only b) w u∧Zct u B b ra rl rc) (fun _ i _=>n - (intOf i).toNat)
 case atStart=>exact ⟨[],by simp,rfl,rfl,by simp,by simp [Zdg],HK.out.1,HK.out.2⟩
 case round =>
  obtain ⟨P,hP,rfl,rfl,hf,hbl,hKu,hRu⟩:=hrel
  have HKu:Hid (Kept (only b) w wr∧Zct wr B b ra rl rc):=⟨hKu,hRu⟩
  have Hf:=Zac hf
  by_cases hlt:P.length<n
  ·have HS:=Zac (Zip wr B b ra rl rc hRu)
   clear hKu hRu hf
   go_wp2_with fail
   refine HS.out.mono ?_
   rintro e w3 ⟨a,ha,hal,rfl,hK3,hR3⟩
   have HK3:Hid (Kept (only b) w w3∧Zct w3 B b ra rl rc):=⟨HKu.out.1.trans hK3,hR3⟩
   have HT3:=Zac (Zdu w3 B b ra rl rc hR3 2 ⟨by omega,by omega⟩)
   have Ha:=Zac ha
   clear hK3 hR3 ha HS
   go_wp2_with fail
   refine HT3.out.mono ?_
   rintro e w4 ⟨v4,hv4,rfl,hK4,hR4⟩
   have HK4:Hid (Kept (only b) w w4∧Zct w4 B b ra rl rc):=⟨HK3.out.1.trans hK4,hR4⟩
   rcases (by omega:v4=0∨v4=1) with rfl | rfl
   ·have He:=Zac (Yck P a)
    clear hK4 hR4 HT3
    go_wp2
    go_roundw
    case rel =>
     refine ⟨P++[(a,[])],by simp; omega,by simp,by rw [He.out],fun c hc => ?_,by rw [Zgs]; simp [clT]; omega,HK4.out.1,HK4.out.2⟩
     rcases Qk.1 hc with hc | hc
     ·exact Hf.out c hc
     ·simp at hc
      subst hc
      exact ⟨Ha.out,by simp,by simp⟩
    case measure=>simp [intOf]; omega
   ·have HS4:=Zac (Zlf w4 B b ra rl rc hR4)
    clear hK4 hR4 HT3
    go_wp2_with fail
    refine HS4.out.mono ?_
    rintro e w5 ⟨t,r,ht,hr,hrl,hbl5,rfl,hK5,hR5⟩
    have HK5:Hid (Kept (only b) w w5∧Zct w5 B b ra rl rc):=⟨HK4.out.1.trans hK5,hR5⟩
    have He:=Zac (Ybc P a t r)
    have Ht:Hid (t.fine=true∧∀ u ∈ r,u.fine=true):=⟨ht,hr⟩
    clear hK5 hR5 HS4 ht hr
    go_wp2
    go_roundw
    case rel =>
     refine ⟨P++[(a,t::r)],by simp; omega,by simp,by rw [He.out],fun c hc => ?_,by rw [Zgs]; simp [clT]; omega,HK5.out.1,HK5.out.2⟩
     rcases Qk.1 hc with hc | hc
     ·exact Hf.out c hc
     ·simp at hc
      subst hc
      refine ⟨Ha.out,fun x hx => ?_,by simp; omega⟩
      rcases Qp.1 hx with rfl | hx
      ·exact Ht.out.1
      ·exact Ht.out.2 x hx
    case measure=>simp [intOf]; omega
  ·have HL:=Zac (Zwh P (fun e=>by subst e; simp at hlt; omega) hf (by omega) (by omega))
   clear hKu hRu hf
   go_wp2
   go_ret2
   exact ⟨⟨Zdg P,n,HL.out,hn5,rfl⟩,HKu.out.1,HKu.out.2⟩
def fresh (st:List Nat):Nat:=(st.filter (fun n=>n == 0)).length
def on (st:List Nat):Nat→Prop:=fun i=>st[i]?=some 1
theorem Known.congr {G:Gr} {ρ:Nat→Nat} {D D':Nat→Prop} {T T':Nat→List Sym} (h:Known G ρ D T) (hd:∀ i,D' i↔D i) (ht:∀ i,D i→T' i=T i):Known G ρ D' T':=by
 refine ⟨fun r hr=>h.lt r ((hd r).1 hr),fun r hr => ?_,fun r hr k hk=>(hd _).2 (h.kid r ((hd r).1 hr) k hk)⟩
 have hr':=(hd r).1 hr
 rw [ht r hr',h.tm r hr']
 congr 2
 exact List.map_congr_left (fun k hk=>(ht _ (h.kid r hr' k hk)).symm)
theorem Zea {w w':World} {M:Nat} {cs:Array Value} {t:TypeId} {fr:Nat × Nat} {B:Nat} {e:TypeId} {size n:Nat} {v:Value} {xs:List Value} (h:w.ownsRow B e size v n xs) (hM:w.heap[M]?=some (.cells cs t fr)) (ht:e≠t) (hk:Kept (fun k=>k=M) w w'):w'.ownsRow B e size v n xs :=
 hk.owns h (fun k hk' e'=>by subst e'; exact Zaf h ht hM hk')
end Go.Proofs.YtlmjilpjmgjjcabDoor
namespace Go.Proofs.YtlmjilpjmgjjcabDoor
theorem Zlg {τ:Nat→List Sym} (hτ:Ts τ) {φ:Sym→Sym}:∀ {l:List Sym},ap τ l=l.map φ→∀ s ∈ l,s.name≠[]→φ s=s:=by
 intro l
 induction l with
 | nil=>intro _ s hs; simp at hs
 | cons t l ih =>
  intro e s hs hn
  rw [Zcc,List.map_cons] at e
  have l1:1≤(ap1 τ t).length:=by
   unfold ap1; split
   ·exact Zdp (hτ _)
   ·simp
  have l2:=Zhu hτ l
  have l3:=congrArg List.length e
  simp only [Qg,Qf,Ql] at l3
  have hh:=List.append_inj (s₁:=ap1 τ t) (s₂:=[φ t]) (t₁:=ap τ l) (t₂:=l.map φ) (by simpa using e) (by simp; omega)
  rcases Qp.1 hs with rfl | hs
  ·have:=hh.1
   unfold ap1 at this
   rw [if_neg hn] at this
   simpa using this.symm
  ·exact ih hh.2 s hs hn
def offN (N:List (List UInt8)) (s:Sym):Sym:=if s.name=[]∨s.name ∈ N then s else ⟨s.name++[0],s.num,s.args⟩
theorem Ycl {N:List (List UInt8)}:∀ {l:List Sym} {k:Nat},Wf k l→Wf k (l.map (offN N)):=by
 intro l
 induction l with
 | nil=>intro k h; exact h
 | cons s l ih =>
  intro k h
  obtain ⟨h1,h2,h3,h4⟩:=h
  have e1:(offN N s).args=s.args:=by unfold offN; split <;> rfl
  have e2:(offN N s).name=[]↔s.name=[]:=by
   unfold offN; split
   ·exact Iff.rfl
   ·rename_i h; simp at h ⊢; exact h.1
  have e3:(offN N s).num=s.num:=by unfold offN; split <;> rfl
  refine ⟨h1,fun h=>by rw [e1]; exact h2 (e2.1 h),fun h=>by rw [e3]; exact h3 (fun h'=>h (e2.2 h')),?_⟩
  rw [e1]; exact ih h4
theorem Mgu.nm {σ:Nat→List Sym} {a b:List Sym} (h:Mgu σ a b) (n:Nat):∀ s ∈ σ n,s.name≠[]→∃ t ∈ a++b,t.name=s.name:=by
 intro s hs hn
 refine Classical.byContradiction (fun hno => ?_)
 have hno:∀ t ∈ a++b,t.name≠s.name:=fun t ht e=>hno ⟨t,ht,e⟩
 obtain ⟨N,hN⟩:∃ N,N=(a++b).map (·.name):=⟨_,rfl⟩
 have hθ:Ts (fun n=>(σ n).map (offN N)):=fun n=>Ycl (h.ts n)
 have key:∀ l:List Sym,(∀ t ∈ l,t.name ∈ N)→ap (fun n=>(σ n).map (offN N)) l=(ap σ l).map (offN N):=by
  intro l
  induction l with
  | nil=>intro _; rfl
  | cons t l ih =>
   intro ht
   rw [Zcc,Zcc,Qr,ih (fun u hu=>ht u (by simp [hu]))]
   congr 1
   unfold ap1
   split
   ·rfl
   ·have:offN N t=t:=by unfold offN; rw [if_pos (Or.inr (ht t (by simp)))]
    simp [this]
 have ha:=key a (fun t ht=>by rw [hN]; exact List.mem_map.2 ⟨t,by simp [ht],rfl⟩)
 have hb:=key b (fun t ht=>by rw [hN]; exact List.mem_map.2 ⟨t,by simp [ht],rfl⟩)
 have hw:=h.wide _ hθ (by rw [ha,hb,h.unif]) n
 have hf:=Zlg hθ hw s hs hn
 have hnN:¬ (s.name=[]∨s.name ∈ N):=by
  rintro (h | h)
  ·exact hn h
  ·rw [hN] at h
   obtain ⟨t,ht,e⟩:=List.mem_map.1 h
   exact hno t ht e
 unfold offN at hf
 rw [if_neg hnN] at hf
 have:=congrArg (fun s=>s.name.length) hf
 simp at this
def Shorts (l:List Sym):Prop:=∀ s ∈ l,s.name.length≤800
def NNm (n:ND):Prop:=∀ t ∈ n.terms,Shorts t
def CNm (c:Cls):Prop:=Shorts c.head∧∀ t ∈ c.body,Shorts t
theorem Zoh (n:Nat):Shorts (vr n):=fun s hs=>by simp [vr] at hs; subst hs; simp
theorem Shorts.ap {σ:Nat→List Sym} {l:List Sym} (h:Shorts l) (hσ:∀ n,Shorts (σ n)):Shorts (ap σ l):=by
 intro s hs
 simp only [YtlmjilpjmgjjcabDoor.ap,List.mem_flatMap] at hs
 obtain ⟨t,ht,hs⟩:=hs
 unfold ap1 at hs
 split at hs
 ·exact hσ _ s hs
 ·simp at hs; subst hs; exact h s ht
theorem Zjb (v n:Nat):Shorts (Zda v n):=Zoh _
theorem Mgu.shorts {σ:Nat→List Sym} {a b:List Sym} (h:Mgu σ a b) (ha:Shorts a) (hb:Shorts b) (n:Nat):Shorts (σ n):=by
 intro s hs
 by_cases hn:s.name=[]
 ·rw [hn]; simp
 ·obtain ⟨t,ht,e⟩:=h.nm n s hs hn
  rw [← e]
  rcases Qk.1 ht with ht | ht
  ·exact ha t ht
  ·exact hb t ht
theorem Ycm {n:ND} {c:Cls} {k q:Nat} {ch:ND} (h:Out n c k q ch) (hq:q=1∨q=2) (hn:NNm n) (hc:CNm c):NNm ch:=by
 obtain ⟨g,gs,hg,h⟩:=h
 rcases h with ⟨rfl,_⟩ | ⟨rfl,_⟩ | ⟨σ,h1,_,_,rfl⟩
 ·omega
 ·omega
 ·have hgt:Shorts g.1:=hn g.1 (by simp [ND.terms,hg])
  have hhd:Shorts (ap (Zda n.vars) c.head):=hc.1.ap (Zjb _)
  have hσ:=h1.shorts hgt hhd
  intro t ht
  rw [Zeq] at ht
  simp only [Qk,List.mem_map] at ht
  rcases ht with ⟨u,hu,rfl⟩ | ⟨u,hu,rfl⟩ | ⟨u,hu,rfl⟩
  ·rcases hu with ⟨b,hb,rfl⟩ | ⟨x,hx,rfl⟩
   ·exact ((hc.2 b hb).ap (Zjb _)).ap hσ
   ·exact (hn x.1 (by simp only [ND.terms,hg,List.map_cons,List.cons_append,Qp,Qk,List.mem_map]; exact Or.inr (Or.inl ⟨x,hx,rfl⟩))).ap hσ
  ·exact (hn u (by simp [ND.terms,hu])).ap hσ
  ·rcases hu with ⟨x,hx,rfl⟩ | hu
   ·exact (hn x.1 (by simp only [ND.terms,Qk,List.mem_map]; exact Or.inr (Or.inr ⟨x,hx,rfl⟩))).ap hσ
   ·simp at hu; subst hu; exact hgt.ap hσ
structure SB (st:RS):Prop where
 next:st.next≤5
 atom:st.atom.length≤30
 empty:st.next≠2→st.next≠3→st.next≠4→st.atom=[]
 head:st.head.length≤30
 body:∀ l ∈ st.body,l.length≤30
 bodyn:st.body.length≤6
 inb:st.next=2∨st.next=3∨st.next=4→st.body.length≤5
 cls:∀ c ∈ st.clauses,c.head.length≤30∧(∀ l ∈ c.body,l.length≤30)∧c.body.length≤6
 clsn:st.clauses.length≤24
 clsb:st.next≠0→st.next≠5→st.clauses.length≤23
 fresh:st.next=0→st.body=[]
 an:∀ s ∈ st.atom,s.name.length≤8
 hn:∀ s ∈ st.head,s.name.length≤8
 bn:∀ l ∈ st.body,∀ s ∈ l,s.name.length≤8
 vn:∀ x ∈ st.vars,x.length≤8
 cn:∀ c ∈ st.clauses,(∀ s ∈ c.head,s.name.length≤8)∧(∀ l ∈ c.body,∀ s ∈ l,s.name.length≤8)∧∀ x ∈ c.names,x.length≤8
theorem SB.endAtom {st:RS} (h:SB st) (h5:st.body.length≤5):(Zam st).atom=[]∧(Zam st).head.length≤30∧(∀ l ∈ (Zam st).body,l.length≤30)∧(Zam st).body.length≤6∧(Zam st).clauses=st.clauses∧(∀ s ∈ (Zam st).head,s.name.length≤8)∧(∀ l ∈ (Zam st).body,∀ s ∈ l,s.name.length≤8)∧(Zam st).vars=st.vars:=by
 unfold Zam
 split
 ·refine ⟨rfl,h.head,?_,by simp; omega,rfl,h.hn,?_,rfl⟩
  ·intro l hl
   simp at hl
   rcases hl with hl | rfl
   ·exact h.body l hl
   ·exact h.atom
  ·intro l hl
   simp at hl
   rcases hl with hl | rfl
   ·exact h.bn l hl
   ·exact h.an
 ·exact ⟨rfl,h.atom,h.body,by simpa using h.bodyn,rfl,h.an,h.bn,rfl⟩
theorem Zlh (st:RS) (h:∀ s ∈ st.atom,s.name.length≤8):∀ s ∈ Zcb st,s.name.length≤8:=by
 unfold Zcb
 split
 ·exact h
 ·intro s hs
  rw [List.mem_iff_getElem?] at hs
  obtain ⟨i,hi⟩:=hs
  rw [List.getElem?_modify] at hi
  simp only [Option.map_eq_map,Option.map_eq_some_iff] at hi
  obtain ⟨t,ht,e⟩:=hi
  have:=h t (Qh ht)
  split at e
  ·rw [← e]; exact this
  ·rw [← e]; exact this
theorem SB.take {st:RS} {kd len:Nat} {t:List UInt8} (h:SB st) (hc:Zbk st kd len=0) (hlen:len=t.length):SB (Zbf st kd t):=by
 have hs:=Zhh hc
 obtain ⟨k1,k7,_,_⟩:=Zhi hs h.next
 have hfull:kd=1∨kd=2→Zeb st=false:=by
  intro hk
  unfold Zbk at hc
  rw [if_neg (by simp [hs])] at hc
  split at hc
  ·omega
  ·rename_i h'
   cases hf:Zeb st with
   | false=>rfl
   | true=>exact absurd ⟨hk,Or.inr hf⟩ h'
 have h8:kd=1∨kd=2→t.length≤8:=by
  intro hk
  unfold Zbk at hc
  rw [if_neg (by simp [hs])] at hc
  split at hc
  ·omega
  ·rename_i h'
   rcases Nat.lt_or_ge 8 len with h9 | h9
   ·exact absurd ⟨hk,Or.inl h9⟩ h'
   ·omega
 have hnext:kd=1∨kd=2→st.next=0∨st.next=1∨st.next=2:=by
  intro hk
  unfold Zbd at hs
  split at hs
  ·omega
  ·split at hs
   ·omega
   ·split at hs
    ·rcases hk with rfl | rfl
     ·simp [Zbj] at hs
     ·simp [Zbj] at hs
    ·split at hs
     ·rcases hk with rfl | rfl
      ·simp [Zbj] at hs
      ·simp [Zbj] at hs
     ·simp at hs
 have hother:¬ (kd=1∨kd=2)→st.next=3∨st.next=4:=by
  intro hk
  unfold Zbd at hs
  split at hs
  ·simp at hs; omega
  ·split at hs
   ·simp at hs; omega
   ·split at hs
    ·omega
    ·split at hs
     ·omega
     ·simp at hs
 have add:(kd=1∨kd=2)→st.atom.length+1≤30∧st.body.length≤5∧st.clauses.length≤23:=by
  intro hk
  have hf:=hfull hk
  unfold Zeb at hf
  rcases hnext hk with h0 | h0 | h0
  ·rw [if_pos h0] at hf
   simp at hf
   have:=h.empty (by omega) (by omega) (by omega)
   have hb:=h.fresh h0
   exact ⟨by simp [this],by simp [hb],by omega⟩
  ·rw [if_neg (by omega),if_pos h0] at hf
   simp at hf
   have:=h.empty (by omega) (by omega) (by omega)
   exact ⟨by simp [this],by omega,h.clsb (by omega) (by omega)⟩
  ·rw [if_neg (by omega),if_neg (by omega),if_pos h0] at hf
   simp at hf
   exact ⟨by omega,h.inb (Or.inl h0),h.clsb (by omega) (by omega)⟩
 have h34:¬ (kd=1∨kd=2)→st.body.length≤5∧st.clauses.length≤23:=fun hk=>by
  have:=hother hk
  exact ⟨h.inb (by omega),h.clsb (by omega) (by omega)⟩
 unfold Zbf
 split
 ·rename_i hk
  obtain ⟨a1,a2,a3⟩:=add (Or.inl hk)
  exact ⟨by simp,by simp [addS,Zjh]; omega,fun _ h3=>absurd rfl h3,h.head,h.body,h.bodyn,fun _=>a2,h.cls,h.clsn,fun _ _=>a3,fun e=>by simp at e,fun s hs=>by
   simp only [addS,Qk,List.mem_singleton] at hs
   rcases hs with hs | rfl
   ·exact Zlh st h.an s hs
   ·exact h8 (Or.inl hk),h.hn,h.bn,h.vn,h.cn⟩
 ·split
  ·rename_i hk
   obtain ⟨a1,a2,a3⟩:=add (Or.inr hk)
   have hb:(Zcb (varS st t)).length=st.atom.length:=Zjh _
   exact ⟨by simp,by simp [addS,hb]; omega,fun _ _ h4=>absurd rfl h4,h.head,h.body,h.bodyn,fun _=>a2,h.cls,h.clsn,fun _ _=>a3,fun e=>by simp at e,fun s hs=>by
    simp only [addS,Qk,List.mem_singleton] at hs
    rcases hs with hs | rfl
    ·exact Zlh (varS st t) h.an s hs
    ·simp,h.hn,h.bn,fun x hx=>by
    simp only [addS,varS,Zbo] at hx
    split at hx
    ·exact h.vn x hx
    ·rcases Qk.1 hx with hx | hx
     ·exact h.vn x hx
     ·simp at hx; subst hx; exact h8 (Or.inr hk),h.cn⟩
  ·rename_i n1 n2
   obtain ⟨b1,b2⟩:=h34 (by omega)
   obtain ⟨e1,e2,e3,e4,e5,e6,e7,e8⟩:=h.endAtom b1
   split
   ·exact ⟨by simp,h.atom,fun h2=>absurd rfl h2,h.head,h.body,h.bodyn,fun _=>b1,h.cls,h.clsn,fun _ _=>b2,fun e=>by simp at e,h.an,h.hn,h.bn,h.vn,h.cn⟩
   ·split
    ·exact ⟨by simp,h.atom,fun _ _ h4=>absurd rfl h4,h.head,h.body,h.bodyn,fun _=>b1,h.cls,h.clsn,fun _ _=>b2,fun e=>by simp at e,h.an,h.hn,h.bn,h.vn,h.cn⟩
    ·split
     ·unfold Zey
      split
      ·exact ⟨by simp,by simp [e1],fun _ _ _=>e1,e2,e3,e4,fun h=>by simp at h,by rw [e5]; exact h.cls,by rw [e5]; exact h.clsn,fun _ _=>by rw [e5]; exact b2,fun e=>by simp at e,by simp [e1],e6,e7,by rw [e8]; exact h.vn,by rw [e5]; exact h.cn⟩
      ·exact ⟨by simp,h.atom,fun h2=>absurd rfl h2,h.head,h.body,h.bodyn,fun _=>b1,h.cls,h.clsn,fun _ _=>b2,fun e=>by simp at e,h.an,h.hn,h.bn,h.vn,h.cn⟩
     ·split
      ·exact ⟨by simp,by simp [e1],fun _ _ _=>e1,e2,e3,e4,fun h=>by simp at h,by rw [e5]; exact h.cls,by rw [e5]; exact h.clsn,fun _ _=>by rw [e5]; exact b2,fun e=>by simp at e,by simp [e1],e6,e7,by rw [e8]; exact h.vn,by rw [e5]; exact h.cn⟩
      ·split
       ·have hn:(Zal (Zam st)).next=0∨(Zal (Zam st)).next=5:=by unfold Zal; simp only; split <;> simp
        refine ⟨by omega,by simp [Zal,e1],fun _ _ _=>by simp [Zal,e1],by simp [Zal],by simp [Zal],by simp [Zal],fun _=>by simp [Zal],?_,?_,fun h0 h5=>by omega,fun _=>by simp [Zal],by simp [Zal,e1],by simp [Zal],by simp [Zal],by simp [Zal],?_⟩
        ·intro c hc'
         simp only [Zal,e5,Qk,List.mem_singleton] at hc'
         rcases hc' with hc' | rfl
         ·exact h.cls c hc'
         ·exact ⟨e2,e3,e4⟩
        ·simp [Zal,e5]; omega
        ·intro c hc'
         simp only [Zal,e5,Qk,List.mem_singleton] at hc'
         rcases hc' with hc' | rfl
         ·exact h.cn c hc'
         ·exact ⟨e6,e7,by rw [e8]; exact h.vn⟩
       ·exact h
theorem SB.run {e:Nat}:∀ {ts:List Tok} {st:RS},SB st→(runT e ts st).1=0→SB (runT e ts st).2.2:=by
 intro ts
 induction ts with
 | nil=>intro st h _; unfold runT; split <;> exact h
 | cons t ts ih =>
  intro st h h0
  unfold runT at h0 ⊢
  split at h0
  ·rename_i hc; exact absurd h0 hc
  ·rename_i hc
   rw [if_neg hc]
   exact ih (h.take (len:=t.text.length) (by omega) rfl) h0
theorem SB.start (q:Bool):SB ⟨q,if q then 1 else 0,q,[],[],[],[],[],[]⟩:=by
 cases q <;> exact ⟨by simp,by simp,fun _ _ _=>rfl,by simp,by simp,by simp,fun _=>by simp,by simp,by simp,fun _ _=>by simp,fun _=>rfl,by simp,by simp,by simp,by simp,by simp⟩
theorem Zde (s:ByteArray):Worded (Zax s):=Znk s
theorem Zcu (s:ByteArray) (q:Bool):(runs s q).1=(Zfi (Zax s) (Zcj q)).1∧((runs s q).1≠0→(runs s q).2.1=(Zfi (Zax s) (Zcj q)).2)∧((runs s q).1=0→(runs s q).2.2=takes (toks s.data.toList 0) (st0 q)) :=
 Zvu s.size _ _ _ (sim0 q) (Zio _ _)
theorem Zyv {ts:List Tok} {L:LookS} (hok:okk ts L) (hf:fin ts) (hw:L.want=5):∃ t r,ts=t::r∧t.kind=4:=by
 cases ts with
 | nil=>exact hf.elim
 | cons t r =>
  refine ⟨t,r,rfl,?_⟩
  apply Classical.byContradiction
  intro hk
  have h:=(Zdy hok (fun hc=>hk hc.1)).1
  unfold Zbu at h
  rw [if_neg (by omega),if_pos hw] at h
  simp at h
theorem Zgt (s:ByteArray) (hs:s.size≤120) (h0:(runs s true).1=0) :
  ∃ q,Zcx 1000 1000 (Zax s) [] []=some q∧(runs s true).2.2.clauses=[⟨[],q.1,q.2.2⟩]∧Zvs [] q.1=Zhe 1000 [] q.1 []∧q.1.length≤4000∧(∀ l ∈ q.1,Zyf l)∧(Zvs [] q.1).length≤100000000:=by
 obtain ⟨r1,_,r3⟩:=Zcu s true
 have hl:=Zdr s
 have hok:okk (Zax s) (Zcj true):=r1.symm.trans h0
 obtain ⟨q,L',i,ex,h1,h2,h3,h4,_,_,_,_,h9,h10,h11⟩:=Znt 1000 (Zax s) (Zcj true) [] (st0 true) (by omega) (by omega) hok (Zmk _ _) rfl rfl rfl rfl rfl rfl rfl
 have hend:(Zax s).take i=toks s.data.toList 0:=Yag (Zio _ _) (by
  obtain ⟨t,r,e1,e2⟩:=Zyv h2 h3 (by rw [h4]; rfl)
  exact ⟨t,r,by rw [← e1,h9]; rfl,e2⟩)
 rw [hend] at h11
 have h1':Zcx 1000 1000 (Zax s) [] []=some q:=h1
 have hM:=Zjv (M:=120) 1000 (Zax s) [] [] q (fun t ht=>Qq (Ziy s t ht) hs) (by simp) h1'
 obtain ⟨g1,g2,_⟩:=Zfn 1000 0 1000 (Zax s) [] [] q (Zde s) (by simp) rfl h1'
 have hfl:=Zma 1000 q.1 g1
 have hlen:q.1.flatten.length≤121:=by have:=hM.1; simp only [List.flatten_nil,Qt] at this; omega
 obtain ⟨_,b2,_⟩:=Zdt _ _ _ g2
 have hw:=Zpq 1000 q.1 g1 0 _ [] g2
 simp only [List.range_zero] at hw
 have hwl:=Zpg 1000 q.1 g1 (fun x hx=>Qq (hM.2.1 x hx) (by omega)) [] [] (by simp) (by simp only [Qt]; omega)
 refine ⟨q,h1',?_,hw,by omega,Yav 1000 q.1 0 _ g1 g2 (by omega) (by omega),?_⟩
 ·rw [r3 h0,h11,h10]
  rfl
 ·rw [hw]; omega
theorem Zwi:∀ (f:Nat) {l:List Sym},IsT f l→Wf 1 l:=by
 intro f
 induction f with
 | zero=>intro l h; exact h.elim
 | succ f ih =>
  intro l h
  rcases h with ⟨n,rfl⟩ | ⟨nm,ls,h1,rfl,h2⟩
  ·exact Zuy n
  ·refine ⟨by omega,fun e=>absurd e h1,fun _=>rfl,?_⟩
   have:=Zim (fun l hl=>ih (h2 l hl))
   simpa using this
theorem Zyw:∀ (l:List Sym) (k k':Nat),scan l k=some k'→∀ i,k≤i→i<k'→Occ i l:=by
 intro l
 induction l with
 | nil=>intro k k' h i h1 h2; simp [scan] at h; omega
 | cons s l ih =>
  intro k k' h i h1 h2
  simp only [scan] at h
  have up:Occ i l→Occ i (s::l):=fun ⟨t,ht,e1,e2⟩=>⟨t,by simp [ht],e1,e2⟩
  split at h
  ·rename_i hn
   split at h
   ·exact up (ih _ _ h i h1 h2)
   ·split at h
    ·rename_i hk
     rcases Nat.lt_or_ge k i with h3 | h3
     ·exact up (ih _ _ h i h3 h2)
     ·exact ⟨s,by simp,hn,by omega⟩
    ·simp at h
  ·exact up (ih _ _ h i h1 h2)
theorem Zqc {f:Nat}:∀ {g:Nat} {ts:List Tok} {names:Names} {acc:List (List Sym)} {q},Zcx f g ts names acc=some q→acc.length<q.1.length:=by
 intro g
 induction g with
 | zero=>intro ts names acc q h; simp [Zcx] at h
 | succ g ih =>
  intro ts names acc q h
  rw [Zcx] at h
  cases hq:Zcr f ts names with
  | none=>rw [hq] at h; simp at h
  | some r =>
   rw [hq] at h
   simp only at h
   cases hr:r.2.1 with
   | nil=>rw [hr] at h; simp at h
   | cons x rest =>
    rw [hr] at h
    simp only at h
    split at h
    ·simp at h; subst h; simp
    ·have:=ih h; simp at this; omega
def Ybd (c:Cls):Prop:=∃ k1,scan c.head 0=some k1∧scan c.body.flatten k1=some c.n
theorem Zoi (ts:List Tok) (c:Cls × List Tok) (hw:Worded ts) (h:Zer ts=some c):Ybd c.1:=by
 rw [Zer] at h
 cases hp:Zcr 1000 ts [] with
 | none=>rw [hp] at h; simp at h
 | some r =>
  rw [hp] at h
  simp only at h
  obtain ⟨i1,i2⟩:=Zka 1000 ts [] r hw hp
  obtain ⟨n,_,_,hn,_⟩:=Zex 1000 ts [] r hp
  have hw1:Worded r.2.1:=by rw [hn]; exact hw.drop n
  cases hr:r.2.1 with
  | nil=>rw [hr] at h; simp at h
  | cons y ys =>
   rw [hr] at h hw1
   simp only at h
   split at h
   ·rw [Option.map_eq_some_iff] at h
    obtain ⟨q,hq,rfl⟩:=h
    obtain ⟨g1,g2,g3⟩:=Zfn 1000 r.2.2.length 1000 ys r.2.2 [] q hw1.tail (by simp) rfl hq
    exact ⟨_,i2,g2⟩
   ·simp at h
    subst h
    exact ⟨_,i2,rfl⟩
theorem Ztc:∀ (g:Nat) (ts:List Tok) (acc cs:List Cls),Worded ts→(∀ c ∈ acc,Ybd c)→Zfe g ts acc=some cs→∀ c ∈ cs,Ybd c:=by
 intro g
 induction g with
 | zero=>intro ts acc cs _ _ h; simp [Zfe] at h
 | succ g ih =>
  intro ts acc cs hw ha h
  cases ts with
  | nil=>simp [Zfe] at h
  | cons t ts =>
   rw [Zfe] at h
   split at h
   ·simp at h; subst h; exact ha
   ·cases hc:Zer (t::ts) with
    | none=>rw [hc] at h; simp at h
    | some c =>
     rw [hc] at h
     simp only at h
     obtain ⟨_,g2⟩:=Zkb _ c hw hc
     have g1:=Zoi _ c hw hc
     refine ih c.2 (acc++[c.1]) cs g2 ?_ h
     intro x hx
     simp at hx
     rcases hx with hx | rfl
     ·exact ha x hx
     ·exact g1
theorem Zoj (s:ByteArray) (hs:s.size≤800) (h0:(runs s false).1=0):∃ cs,Zfe 1000 (Zax s) []=some cs∧(runs s false).2.2.clauses=cs:=by
 obtain ⟨r1,_,r3⟩:=Zcu s false
 have hl:=Zdr s
 have hok:okk (Zax s) (Zcj false):=r1.symm.trans h0
 obtain ⟨cs,i,ex,h1,h2,h3,h4⟩:=Zyj 1000 (Zax s) (Zcj false) [] (st0 false) (by omega) (by omega) hok (Zmk _ _) rfl rfl rfl rfl ⟨rfl,rfl,rfl,rfl,rfl,rfl,rfl,rfl⟩
 rw [show (Zax s).take i=toks s.data.toList 0 from Yag (Zio _ _) h2] at h4
 rw [List.nil_append] at h3
 subst h3
 refine ⟨cs,h1,?_⟩
 rw [r3 h0,h4]
 rfl
theorem Zhm {s:ByteArray} {cs:List Cls} (h:Zdk s=some cs):s.size≤800∧(runs s false).1=0∧(runs s false).2.2.clauses=cs∧(∀ c ∈ cs,COk c∧CNm c)∧cs.length≤24:=by
 unfold Zdk at h
 split at h
 ·simp at h
 ·split at h
  ·simp at h
  ·rename_i hs he
   have hs:s.size≤800:=by omega
   obtain ⟨r1,_,_⟩:=Zcu s false
   have h0:(runs s false).1=0:=by rw [r1]; omega
   obtain ⟨cs',e1,e2⟩:=Zoj s hs h0
   rw [e1] at h
   simp at h
   subst h
   have hB:SB (runs s false).2.2:=(SB.start false).run h0
   have hg:=Zvz 1000 (Zax s) [] cs' (Zde s) (by simp) e1
   have hgn:=Ztc 1000 (Zax s) [] cs' (Zde s) (by simp) e1
   refine ⟨hs,h0,e2,fun c hc => ?_,by rw [← e2]; exact hB.clsn⟩
   obtain ⟨g1,g2,_⟩:=hg c hc
   obtain ⟨k1,n1,n2⟩:=hgn c hc
   obtain ⟨b1,b2,b3⟩:=hB.cls c (by rw [e2]; exact hc)
   obtain ⟨c1,c2,c3⟩:=hB.cn c (by rw [e2]; exact hc)
   obtain ⟨x1,x2,x3⟩:=Zdt _ _ _ n1
   obtain ⟨y1,y2,y3⟩:=Zdt _ _ _ n2
   have hfl:c.body.flatten.length≤180:=by
    have key:∀ ls:List (List Sym),(∀ t ∈ ls,t.length≤30)→ls.flatten.length≤30 * ls.length:=by
     intro ls
     induction ls with
     | nil=>intro _; simp
     | cons t ts ih =>
      intro h
      have h1:=h t (by simp)
      have h2:=ih (fun y hy=>h y (by simp [hy]))
      simp only [List.flatten_cons,Qg,Qf]; omega
    have:=key c.body b2
    omega
   refine ⟨⟨Zwi 1000 g1,fun t ht=>Zwi 1000 (g2 t ht),?_,?_,by omega,b1,b2,b3⟩,fun x hx=>Qq (c1 x hx) (by omega),fun t ht x hx=>Qq (c2 t ht x hx) (by omega)⟩
   ·rintro v ⟨x,hx,e1,e2⟩
    have:=x3 x hx e1
    omega
   ·rintro t ht v ⟨x,hx,e1,e2⟩
    have:=y3 x (List.mem_flatten.2 ⟨t,ht,hx⟩) e1
    omega
theorem Zgu {s:ByteArray} {a:List (List Sym) × Names} (h:Zfo s=some a):s.size≤120∧(runs s true).1=0∧(runs s true).2.2.clauses=[⟨[],a.1,a.2⟩]∧NOk (topN a)∧NNm (topN a)∧a.1.length≤6∧a.1≠[]∧a.2.length≤121∧(∀ x ∈ a.2,x.length≤8):=by
 unfold Zfo at h
 split at h
 ·simp at h
 ·split at h
  ·simp at h
  ·rename_i hs he
   have hs:s.size≤120:=by omega
   obtain ⟨r1,_,_⟩:=Zcu s true
   have h0:(runs s true).1=0:=by rw [r1]; omega
   obtain ⟨q,e1,e2,_⟩:=Zgt s hs h0
   rw [e1] at h
   simp at h
   subst h
   have hB:SB (runs s true).2.2:=(SB.start true).run h0
   obtain ⟨g1,g2,_⟩:=Zfn 1000 0 1000 (Zax s) [] [] q (Zde s) (by simp) rfl e1
   obtain ⟨b1,b2,b3⟩:=hB.cls ⟨[],q.1,q.2.2⟩ (by rw [e2]; simp)
   obtain ⟨c1,c2,c3⟩:=hB.cn ⟨[],q.1,q.2.2⟩ (by rw [e2]; simp)
   obtain ⟨x1,x2,x3⟩:=Zdt _ _ _ g2
   have hl:=Zdr s
   have hM:=Zjv (M:=120) 1000 (Zax s) [] [] q (fun t ht=>Qq (Ziy s t ht) hs) (by simp) e1
   have hM1:=hM.1
   simp only [List.flatten_nil,Qt] at hM1
   simp only at b2 b3 c2 c3
   have hwf:∀ t ∈ q.1,Wf 1 t:=fun t ht=>Zwi 1000 (g1 t ht)
   have hne:q.1≠[]:=by
    intro e
    have:=Zqc e1
    rw [e] at this
    simp at this
   refine ⟨hs,h0,e2,⟨?_,?_,?_,by simp [topN],?_,by simp [topN]; omega,by simp [topN],by simp [topN],by simp [topN]; omega,by simp [topN]; omega⟩,?_,b3,hne,by simp only; omega,c3⟩
   ·intro t ht
    simp only [ND.terms,topN,List.map_map,List.map_nil,Qs,Qk,List.mem_map,Function.comp] at ht
    rcases ht with ⟨u,hu,rfl⟩ | ⟨i,_,rfl⟩
    ·exact hwf u hu
    ·exact Zuy i
   ·intro t ht v hv
    simp only [ND.terms,topN,List.map_map,List.map_nil,Qs,Qk,List.mem_map,Function.comp,List.mem_range] at ht
    show v<q.2.2.length
    rcases ht with ⟨u,hu,rfl⟩ | ⟨i,hi,rfl⟩
    ·obtain ⟨x,hx,e3,e4⟩:=hv
     have:=x3 x (List.mem_flatten.2 ⟨_,hu,hx⟩) e3
     omega
    ·have:=Zuw.1 hv; omega
   ·intro g hg
    simp only [topN,List.mem_map] at hg
    obtain ⟨t,ht,rfl⟩:=hg
    exact ⟨b2 t ht,by simp [topN]⟩
   ·intro t ht
    simp only [topN,List.mem_map,List.mem_range] at ht
    obtain ⟨i,hi,rfl⟩:=ht
    obtain ⟨x,hx,e3,e4⟩:=Zyw _ _ _ g2 i (Qm _) hi
    obtain ⟨u,hu,hxu⟩:=List.mem_flatten.1 hx
    obtain ⟨p,r,e5⟩:=List.append_of_mem hxu
    have hargs:=Zps (hwf u hu) x hxu e3
    have ex:x=⟨[],i,0⟩:=by
     cases x
     simp only at e3 e4 hargs
     subst e3 e4 hargs
     rfl
    refine ⟨(u,0),by simp only [topN,Qs,List.mem_map]; exact ⟨u,hu,rfl⟩,p,r,?_⟩
    show u=p++vr i++r
    rw [e5,ex]; simp [vr]
   ·intro t ht
    simp only [ND.terms,topN,List.map_map,List.map_nil,Qs,Qk,List.mem_map,Function.comp] at ht
    rcases ht with ⟨u,hu,rfl⟩ | ⟨i,_,rfl⟩
    ·exact fun x hx=>Qq (c2 u hu x hx) (by omega)
    ·exact Zoh i
end Go.Proofs.YtlmjilpjmgjjcabDoor
namespace Go.Proofs.YtlmjilpjmgjjcabDoor
open Go.RowKit
theorem Zok {l:List Sym} (hl:l.length≤1000) (hw:Wf 1 l) (hn:∀ s ∈ l,s.name.length≤4096) {seen:List Nat} (hs:seen.length+l.length≤4000) :
  (Zbx (Zas l seen).1 []).length≤4100 * l.length∧(Zas l seen).2.length≤seen.length+l.length:=by
 have hT:=Ycj 1000 hl hw
 obtain ⟨h1,h2⟩:=Zpt hT seen
 have:=Zni 1000 l hT hn seen hs
 rw [h1,h2] at this
 omega
theorem Zwj:∀ (names:Names) (ts:List (List Sym)) (sep:List UInt8) (seen:List Nat),(∀ x ∈ names,x.length≤4096)→(∀ t ∈ ts,Wf 1 t∧t.length≤1000∧∀ s ∈ t,s.name.length≤4096)→sep.length≤1→seen.length+ts.flatten.length≤4000 →
  (Zgx sep names (Zav ts seen).1).length≤4098 * names.length+4100 * ts.flatten.length:=by
 intro names
 induction names with
 | nil=>intro ts sep seen _ _ _ _; cases ts <;> simp [Zav,Zgx]
 | cons x xs ih =>
  intro ts sep seen h1 h2 h3 h4
  cases ts with
  | nil=>simp [Zav,Zgx]
  | cons t ts =>
   obtain ⟨t1,t2,t3⟩:=h2 t (by simp)
   simp only [List.flatten_cons,Qg] at h4 ⊢
   obtain ⟨c1,c2⟩:=Zok t2 t1 t3 (seen:=seen) (by omega)
   have h:=ih ts [44] (Zas t seen).2 (fun y hy=>h1 y (by simp [hy])) (fun y hy=>h2 y (by simp [hy])) (by simp) (by omega)
   have hx:=h1 x (by simp)
   simp only [Zav,Zgx,Qg,Qf]
   omega
theorem Zwk {n:ND} {c:Cls} {k:Nat} (h:(tryN n c k).2=1∨(tryN n c k).2=2):(tryN n c k).1.vals.length=n.vals.length:=by
 by_cases hex:∃ r:ND × Nat,∃ m,NOk m∧Same m n∧Out m c k r.2 r.1
 ·have e:tryN n c k=Classical.choose hex:=by unfold tryN; rw [dif_pos hex]
  obtain ⟨m,_,hS,g,gs,_,ho⟩:=Classical.choose_spec hex
  rw [e] at h ⊢
  rcases ho with ⟨h0,_⟩ | ⟨h0,_⟩ | ⟨σ,_,_,_,h4⟩
  ·omega
  ·omega
  ·rw [h4]; simp [Zau,hS.vl]
 ·have e:tryN n c k=(⟨[],[],[],[],0⟩,0):=by unfold tryN; rw [dif_neg hex]
  rw [e] at h
  simp at h
theorem Zia {n:ND} {c:Cls} {k:Nat} (h:(tryN n c k).2=1∨(tryN n c k).2=2):(tryN n c k).1.used=n.used++[k]:=by
 by_cases hex:∃ r:ND × Nat,∃ m,NOk m∧Same m n∧Out m c k r.2 r.1
 ·have e:tryN n c k=Classical.choose hex:=by unfold tryN; rw [dif_pos hex]
  obtain ⟨m,_,hS,g,gs,_,ho⟩:=Classical.choose_spec hex
  rw [e] at h ⊢
  rcases ho with ⟨h0,_⟩ | ⟨h0,_⟩ | ⟨σ,_,_,_,h4⟩
  ·omega
  ·omega
  ·rw [h4]; simp [Zau,hS.used]
 ·have e:tryN n c k=(⟨[],[],[],[],0⟩,0):=by unfold tryN; rw [dif_neg hex]
  rw [e] at h
  simp at h
theorem Ztd:∀ (ks:List Nat) (sep:List UInt8),sep.length≤1→(∀ k ∈ ks,k≤99)→(Zet sep ks).length≤101 * ks.length:=by
 intro ks
 induction ks with
 | nil=>intro sep _ _; simp [Zet]
 | cons k ks ih =>
  intro sep hs hk
  have h1:=ih [46] (by simp) (fun j hj=>hk j (by simp [hj]))
  have h2:=hk k (by simp)
  have h3:=Zii k
  simp only [Zet,Qg,Qf]
  omega
mutual
inductive TreeR (cs:List Cls):ND→List UInt8→Prop
 | leaf (n:ND) (h:n.goals=[]):TreeR cs n [33]
 | node (n:ND) (t:List UInt8) (h:n.goals≠[]) (hp:Part cs n cs.length t):TreeR cs n ([40]++t++[41])
inductive Part (cs:List Cls):ND→Nat→List UInt8→Prop
 | zero (n:ND):Part cs n 0 []
 | miss (n:ND) (k:Nat) (t:List UInt8) (c:Cls) (h:Part cs n k t) (hc:cs[k]?=some c) (hq:(tryN n c k).2=0):Part cs n (k+1) t
 | kid (n:ND) (k:Nat) (t u:List UInt8) (c:Cls) (h:Part cs n k t) (hc:cs[k]?=some c) (hq:(tryN n c k).2=1∨(tryN n c k).2=2) (hu:TreeR cs (tryN n c k).1 u):Part cs n (k+1) (t++Lib.decDigits k++u)
end
structure SN where
 way:List (ND × Nat)
 tries:Nat
 status:Nat
 found:ND
 tree:List UInt8
def Zdq (cs:List Cls):List (ND × Nat)→List UInt8→List (ND × Nat) × List UInt8
 | (n,k)::r,t=>if cs.length≤k then Zdq cs r (t++[41]) else ((n,k)::r,t)
 | [],t=>([],t)
noncomputable def Zca (s:SN) (n:ND):SN:=open Classical in if n.goals=[] then { s with tree:=s.tree++[33],status:=1,found:=n } else { s with way:=(n,0)::s.way,tree:=s.tree++[40] }
noncomputable def Zcv (cs:List Cls) (s:SN):SN := { s with way:=(Zdq cs s.way s.tree).1,tree:=(Zdq cs s.way s.tree).2 }
noncomputable def Zap (cs:List Cls) (s:SN):SN:=match s.way with
 | []=>s
 | (n,k)::r=>match cs[k]? with
  | none=>s
  | some c=>Zcv cs (if (tryN n c k).2=3 then { s with way:=(n,k+1)::r,tries:=s.tries+1,status:=3 }
    else if (tryN n c k).2=1∨(tryN n c k).2=2 then Zca { s with way:=(n,k+1)::r,tries:=s.tries+1,tree:=s.tree++Lib.decDigits k } (tryN n c k).1
    else { s with way:=(n,k+1)::r,tries:=s.tries+1 })
def PH (cs:List Cls) (top:ND):List (ND × Nat)→ND→Nat→List UInt8→Prop
 | [],n,k,T=>n=top∧n.goals≠[]∧k≤cs.length∧∃ t,Part cs n k t∧T=[40]++t
 | x::r,n,k,T=>n.goals≠[]∧k≤cs.length∧∃ t j' c T',x.2=j'+1∧cs[j']?=some c∧((tryN x.1 c j').2=1∨(tryN x.1 c j').2=2)∧n=(tryN x.1 c j').1∧PH cs top r x.1 j' T'∧Part cs n k t∧T=T'++Lib.decDigits j'++([40]++t)
def PW (cs:List Cls) (top:ND):List (ND × Nat)→List UInt8→Prop
 | [],T=>TreeR cs top T
 | (n,k)::r,T=>PH cs top r n k T
theorem PW.part {cs:List Cls} {top n:ND} {k:Nat} {r:List (ND × Nat)} {T:List UInt8} (h:PW cs top ((n,k)::r) T):n.goals≠[]∧k≤cs.length∧∃ t0 t,Part cs n k t∧T=t0++([40]++t)∧∀ k' t',Part cs n k' t'→k'≤cs.length→PW cs top ((n,k')::r) (t0++([40]++t')):=by
 cases r with
 | nil =>
  obtain ⟨h1,h2,h3,t,h4,h5⟩:=h
  exact ⟨h2,h3,[],t,h4,by simpa using h5,fun k' t' hp hk=>⟨h1,h2,hk,t',hp,by simp⟩⟩
 | cons m r =>
  obtain ⟨m,j⟩:=m
  obtain ⟨h1,h2,t,j',c,T',h3,h4,h5,h6,h7,h8,h9⟩:=h
  exact ⟨h1,h2,T'++Lib.decDigits j',t,h8,h9,fun k' t' hp hk=>⟨h1,hk,t',j',c,T',h3,h4,h5,h6,h7,hp,rfl⟩⟩
theorem PW.miss {cs:List Cls} {top n:ND} {k:Nat} {r:List (ND × Nat)} {T:List UInt8} {c:Cls} (h:PW cs top ((n,k)::r) T) (hc:cs[k]?=some c) (hq:(tryN n c k).2=0):PW cs top ((n,k+1)::r) T:=by
 obtain ⟨h1,h2,t0,t,h3,h4,h5⟩:=h.part
 rw [h4]
 exact h5 (k+1) t (.miss n k t c h3 hc hq) (by have:=(Qa.1 hc).1; omega)
theorem PW.kid {cs:List Cls} {top n:ND} {k:Nat} {r:List (ND × Nat)} {T u:List UInt8} {c:Cls} (h:PW cs top ((n,k)::r) T) (hc:cs[k]?=some c) (hq:(tryN n c k).2=1∨(tryN n c k).2=2) (hu:TreeR cs (tryN n c k).1 u):PW cs top ((n,k+1)::r) (T++Lib.decDigits k++u):=by
 obtain ⟨h1,h2,t0,t,h3,h4,h5⟩:=h.part
 rw [h4]
 have:=h5 (k+1) (t++Lib.decDigits k++u) (.kid n k t u c h3 hc hq hu) (by have:=(Qa.1 hc).1; omega)
 simpa using this
theorem PW.down {cs:List Cls} {top n:ND} {k:Nat} {r:List (ND × Nat)} {T:List UInt8} {c:Cls} (h:PW cs top ((n,k)::r) T) (hc:cs[k]?=some c) (hq:(tryN n c k).2=1∨(tryN n c k).2=2) (hg:(tryN n c k).1.goals≠[]):PW cs top (((tryN n c k).1,0)::(n,k+1)::r) (T++Lib.decDigits k++[40]) :=
 ⟨hg,Qm _,[],k,c,T,rfl,hc,hq,rfl,h,.zero _,by simp⟩
theorem PW.up {cs:List Cls} {top n:ND} {k:Nat} {r:List (ND × Nat)} {T:List UInt8} (h:PW cs top ((n,k)::r) T) (hk:cs.length≤k):PW cs top r (T++[41]):=by
 cases r with
 | nil =>
  obtain ⟨h1,h2,h3,t,h4,h5⟩:=h
  have e:k=cs.length:=by omega
  subst e h1 h5
  exact .node n t h2 h4
 | cons m r =>
  obtain ⟨m,j⟩:=m
  obtain ⟨h1,h2,t,j',c,T',h3,h4,h5,h6,h7,h8,h9⟩:=h
  have e:k=cs.length:=by omega
  simp only at h3 h5 h6 h7
  subst e h3 h6 h9
  have h7':PW cs top ((m,j')::r) T':=h7
  have:=h7'.kid h4 h5 (.node _ t h1 h8)
  simpa using this
theorem PW.leave {cs:List Cls} {top:ND}:∀ {way:List (ND × Nat)} {T:List UInt8},PW cs top way T→PW cs top (Zdq cs way T).1 (Zdq cs way T).2:=by
 intro way
 induction way with
 | nil=>intro T h; exact h
 | cons x r ih =>
  obtain ⟨n,k⟩:=x
  intro T h
  unfold Zdq
  split
  ·rename_i hk
   exact ih (h.up hk)
  ·exact h
theorem Zke (n:ND) (c:Cls) (k:Nat):(tryN n c k).2=0∨(tryN n c k).2=1∨(tryN n c k).2=2∨(tryN n c k).2=3:=by
 by_cases hex:∃ r:ND × Nat,∃ m,NOk m∧Same m n∧Out m c k r.2 r.1
 ·have e:tryN n c k=Classical.choose hex:=by unfold tryN; rw [dif_pos hex]
  obtain ⟨m,_,_,g,gs,_,ho⟩:=Classical.choose_spec hex
  rw [e]
  rcases ho with ⟨h0,_⟩ | ⟨h0,_⟩ | ⟨σ,_,_,h3,_⟩
  ·exact Or.inl h0
  ·exact Or.inr (Or.inr (Or.inr h0))
  ·rw [h3]
   unfold Zep
   split
   ·simp
   ·split <;> simp
 ·have e:tryN n c k=(⟨[],[],[],[],0⟩,0):=by unfold tryN; rw [dif_neg hex]
  rw [e]; simp
theorem PW.try' {cs:List Cls} {top:ND} {s:SN} (h:PW cs top s.way s.tree) (hf:(Zap cs s).status≠3):PW cs top (Zap cs s).way (Zap cs s).tree:=by
 unfold Zap at hf ⊢
 cases hw:s.way with
 | nil=>rw [hw] at hf h; simpa [hw] using h
 | cons x r =>
  obtain ⟨n,k⟩:=x
  rw [hw] at hf h
  simp only at hf ⊢
  cases hc:cs[k]? with
  | none=>rw [hc] at hf; simp only [hw]; exact h
  | some c =>
   rw [hc] at hf
   simp only at hf ⊢
   by_cases h3:(tryN n c k).2=3
   ·rw [if_pos h3] at hf
    exact absurd rfl hf
   ·rw [if_neg h3]
    by_cases h12:(tryN n c k).2=1∨(tryN n c k).2=2
    ·rw [if_pos h12]
     by_cases hg:(tryN n c k).1.goals=[]
     ·simp only [Zca,if_pos hg,Zcv]
      have h':PW cs top ((n,k)::r) s.tree:=h
      exact (h'.kid hc h12 (.leaf _ hg)).leave
     ·simp only [Zca,if_neg hg,Zcv]
      have h':PW cs top ((n,k)::r) s.tree:=h
      exact (h'.down hc h12 hg).leave
    ·rw [if_neg h12]
     simp only [Zcv]
     have h0:(tryN n c k).2=0:=by have:=Zke n c k; omega
     have h':PW cs top ((n,k)::r) s.tree:=h
     exact (h'.miss hc h0).leave
theorem Zwl {w:World} {B:Nat} {e:TypeId} {s g n cap:Nat} {xs:List Value} (h:w.ownsRow B e s (.slice (some ⟨g,0,none⟩) (n+1) cap) (n+1) xs) :
  w.ownsRow B e s (.slice (some ⟨g,0,none⟩) n cap) n (xs.take (n * s)):=by
 have hm:(n+1) * s=n * s+s:=Nat.succ_mul n s
 refine ⟨by have:=h.1; rw [List.length_take]; omega,?_⟩
 rcases h.2 with ⟨h1,_⟩ | ⟨g',cap',cur,h1,hb,hg,hn,hc,hs,ht⟩
 ·simp at h1
 ·simp at h1
  obtain ⟨rfl,rfl⟩:=h1
  refine .inr ⟨g,cap,cur,rfl,hb,hg,by omega,hc,hs,?_⟩
  rw [← ht,List.take_take]
  congr 1
  omega
def Zgi (N:Nat):List (ND × Nat)→List (ND × Nat)
 | []=>[]
 | x::r=>if N≤x.2 then Zgi N r else x::r
theorem Zdh (cs:List Cls):∀ (way:List (ND × Nat)) (t:List UInt8),(Zdq cs way t).1=Zgi cs.length way:=by
 intro way
 induction way with
 | nil=>intro t; rfl
 | cons x r ih =>
  obtain ⟨n,k⟩:=x
  intro t
  simp only [Zdq,Zgi]
  split
  ·exact ih _
  ·rfl
theorem Zli {N:Nat}:∀ {way:List (ND × Nat)} {x:ND × Nat} {r:List (ND × Nat)},Zgi N way=x::r→x.2<N:=by
 intro way
 induction way with
 | nil=>intro x r h; simp [Zgi] at h
 | cons y s ih =>
  intro x r h
  simp only [Zgi] at h
  split at h
  ·exact ih h
  ·rename_i hn
   simp at h
   rw [← h.1]; omega
theorem Zlj (N:Nat) (way:List (ND × Nat)):Zgi N (Zgi N way)=Zgi N way:=by
 cases h:Zgi N way with
 | nil=>rfl
 | cons x r =>
  have:=Zli h
  simp only [Zgi]
  rw [if_neg (by omega)]
noncomputable def Zcw (a:List (List Sym) × Names) (st:Nat) (found:ND) (T:List UInt8):List UInt8 × List UInt8 × List UInt8 :=
 if st=1 then (Zfw a.2 found,Zji found,[]) else if st=2 then ([],[],T) else ([],[],[])
noncomputable def Zkf (n:ND) (c:Cls) (k:Nat) (r:List (ND × Nat)):List (ND × Nat):=if (tryN n c k).2=1 then ((tryN n c k).1,0)::(n,k+1)::r else (n,k+1)::r
noncomputable def Zgj (n:ND) (c:Cls) (k:Nat):Nat:=if (tryN n c k).2=2 then 1 else if (tryN n c k).2=3 then 3 else 0
theorem Zgv {n:ND} {c:Cls} {k:Nat} (h:(tryN n c k).2=1∨(tryN n c k).2=2):(tryN n c k).2=2↔(tryN n c k).1.goals=[]:=by
 by_cases hex:∃ r:ND × Nat,∃ m,NOk m∧Same m n∧Out m c k r.2 r.1
 ·have e:tryN n c k=Classical.choose hex:=by unfold tryN; rw [dif_pos hex]
  obtain ⟨m,_,hS,g,gs,_,ho⟩:=Classical.choose_spec hex
  rw [e] at h ⊢
  rcases ho with ⟨h0,_⟩ | ⟨h0,_⟩ | ⟨σ,_,_,h3,h4⟩
  ·omega
  ·omega
  ·rw [h3,← h4] at h
   rw [h3,← h4]
   unfold Zep at h ⊢
   split at h
   ·omega
   ·rename_i ho
    rw [if_neg ho]
    split
    ·rename_i hg; simp [hg]
    ·rename_i hg; simp [hg]
 ·have e:tryN n c k=(⟨[],[],[],[],0⟩,0):=by unfold tryN; rw [dif_neg hex]
  rw [e] at h
  simp at h
def Zfp (way:List (ND × Nat)):List Nat:=(way.map (fun x=>x.2 - 1)).reverse
theorem Zlk (n:ND) (k:Nat) (r:List (ND × Nat)):Zfp ((n,k+1)::r)=Zfp r++[k]:=by simp [Zfp]
def UsedW:List (ND × Nat)→Prop
 | []=>True
 | x::r=>x.1.used=Zfp r∧(∀ y ∈ r,1≤y.2)∧UsedW r
theorem UsedW.trim {N:Nat}:∀ {way:List (ND × Nat)},UsedW way→UsedW (Zgi N way):=by
 intro way
 induction way with
 | nil=>intro h; exact h
 | cons x r ih =>
  intro h
  simp only [Zgi]
  split
  ·exact ih h.2.2
  ·exact h
theorem Zol {N:Nat}:∀ {way:List (ND × Nat)} {x:ND × Nat},x ∈ Zgi N way→x ∈ way:=by
 intro way
 induction way with
 | nil=>intro x h; exact h
 | cons y r ih =>
  intro x h
  simp only [Zgi] at h
  split at h
  ·exact List.mem_cons_of_mem _ (ih h)
  ·exact h
theorem Zll (cs:List Cls):∀ (way:List (ND × Nat)) (t:List UInt8),(Zdq cs way t).2.length+(Zdq cs way t).1.length=t.length+way.length:=by
 intro way
 induction way with
 | nil=>intro t; rfl
 | cons x r ih =>
  obtain ⟨n,k⟩:=x
  intro t
  simp only [Zdq]
  split
  ·rw [ih]; simp; omega
  ·rfl
structure InvN (cs:List Cls) (a:List (List Sym) × Names) (s:SN):Prop where
 way:∀ x ∈ s.way,x.1.goals≠[]∧x.1.vals.length=a.2.length∧x.2≤cs.length∧∀ k ∈ x.1.used,k<cs.length
 used:UsedW s.way
 tree:s.status≠3→PW cs (topN a) s.way s.tree
 trim:Zgi cs.length s.way=s.way
 found:s.status=1→s.found.goals=[]∧s.found.vals.length=a.2.length∧∀ k ∈ s.found.used,k<cs.length
 len:s.tree.length+s.way.length≤2+26 * s.tries
 tries:s.tries≤3000
 no:s.status=2→s.way=[]
 st:s.status≤3
theorem Zib {cs:List Cls} {s:SN} {n:ND} {k:Nat} {r:List (ND × Nat)} {c:Cls} (hw:s.way=(n,k)::r) (hc:cs[k]?=some c) (h0:s.status=0) :
  (Zap cs s).way=Zgi cs.length (Zkf n c k r)∧(Zap cs s).status=Zgj n c k∧(Zap cs s).tries=s.tries+1∧(Zgj n c k=1→(Zap cs s).found=(tryN n c k).1):=by
 have hk:=Zke n c k
 unfold Zap
 rw [hw]
 simp only [hc]
 by_cases h3:(tryN n c k).2=3
 ·rw [if_pos h3]
  simp [Zcv,Zdh,Zkf,Zgj,h3]
 ·rw [if_neg h3]
  by_cases h12:(tryN n c k).2=1∨(tryN n c k).2=2
  ·rw [if_pos h12]
   by_cases hg:(tryN n c k).1.goals=[]
   ·have h2:=(Zgv h12).2 hg
    simp [Zcv,Zca,hg,Zdh,Zkf,Zgj,h2]
   ·have h2:(tryN n c k).2≠2:=fun h=>hg ((Zgv h12).1 h)
    have h1:(tryN n c k).2=1:=by omega
    simp [Zcv,Zca,hg,Zdh,Zkf,Zgj,h1,h0]
  ·rw [if_neg h12]
   have h00:(tryN n c k).2=0:=by omega
   simp [Zcv,Zdh,Zkf,Zgj,h00,h0]
theorem Zom {cs:List Cls} {s:SN} {n:ND} {k:Nat} {r:List (ND × Nat)} {c:Cls} (hw:s.way=(n,k)::r) (hc:cs[k]?=some c) (hk:k<24):(Zap cs s).tree.length+(Zap cs s).way.length≤s.tree.length+s.way.length+26:=by
 have hd:(Lib.decDigits k).length≤24:=by
  have:=Zii k
  omega
 unfold Zap
 rw [hw]
 simp only [hc,Zcv,Zll]
 split
 ·simp
 ·split
  ·unfold Zca
   split
   ·simp; omega
   ·simp; omega
  ·simp
theorem InvN.try' {cs:List Cls} {a:List (List Sym) × Names} {s:SN} (h:InvN cs a s) (hcl:cs.length≤24) (h0:s.status=0) {n:ND} {k:Nat} {r:List (ND × Nat)} {c:Cls} (hw:s.way=(n,k)::r) (hc:cs[k]?=some c) (ht:s.tries<3000):InvN cs a (Zap cs s):=by
 obtain ⟨e1,e2,e3,e4⟩:=Zib hw hc h0
 have hkk:=Zke n c k
 have hklt:=(Qa.1 hc).1
 obtain ⟨w1,w2,w3,w4⟩:=h.way (n,k) (by rw [hw]; simp)
 have hu:=h.used
 rw [hw] at hu
 have hr:∀ x ∈ r,x.1.goals≠[]∧x.1.vals.length=a.2.length∧x.2≤cs.length∧∀ k ∈ x.1.used,k<cs.length:=fun x hx=>h.way x (by rw [hw]; simp [hx])
 have hchild:(tryN n c k).2=1∨(tryN n c k).2=2→(tryN n c k).1.vals.length=a.2.length∧∀ j ∈ (tryN n c k).1.used,j<cs.length:=fun hq=>by
  refine ⟨by rw [Zwk hq]; exact w2,fun j hj => ?_⟩
  rw [Zia hq] at hj
  rcases Qk.1 hj with hj | hj
  ·exact w4 j hj
  ·simp at hj; omega
 refine ⟨?_,?_,?_,?_,?_,?_,?_,?_,?_⟩
 ·intro x hx
  rw [e1] at hx
  have hx:=Zol hx
  unfold Zkf at hx
  split at hx
  ·rename_i h1
   rcases Qp.1 hx with rfl | hx
   ·have h2:¬ (tryN n c k).1.goals=[]:=fun hg=>by have:=(Zgv (Or.inl h1)).2 hg; omega
    exact ⟨h2,(hchild (Or.inl h1)).1,Qm _,(hchild (Or.inl h1)).2⟩
   ·rcases Qp.1 hx with rfl | hx
    ·exact ⟨w1,w2,by show k+1≤_; omega,w4⟩
    ·exact hr x hx
  ·rcases Qp.1 hx with rfl | hx
   ·exact ⟨w1,w2,by show k+1≤_; omega,w4⟩
   ·exact hr x hx
 ·rw [e1]
  apply UsedW.trim
  unfold Zkf
  split
  ·rename_i h1
   exact ⟨by rw [Zlk,Zia (Or.inl h1),hu.1],fun y hy=>by
    rcases Qp.1 hy with rfl | hy
    ·exact Nat.succ_le_succ (Qm _)
    ·exact hu.2.1 y hy,hu.1,hu.2⟩
  ·exact ⟨hu.1,hu.2⟩
 ·intro h3
  exact PW.try' (h.tree (by omega)) h3
 ·rw [e1,Zlj]
 ·intro h1
  rw [e2] at h1
  rw [e4 h1]
  have hq2:(tryN n c k).2=2:=by
   unfold Zgj at h1
   split at h1
   ·assumption
   ·split at h1 <;> omega
  exact ⟨(Zgv (Or.inr hq2)).1 hq2,(hchild (Or.inr hq2)).1,(hchild (Or.inr hq2)).2⟩
 ·have:=Zom hw hc (by omega)
  have:=h.len
  omega
 ·omega
 ·intro h2
  rw [e2] at h2
  unfold Zgj at h2
  split at h2
  ·omega
  ·split at h2 <;> omega
 ·rw [e2]
  unfold Zgj
  split
  ·omega
  ·split <;> omega
noncomputable def Zby (cs:List Cls):Nat→SN→SN × Nat
 | 0,s=>(s,0)
 | n+1,s=>open Classical in if s.status=0∧s.way≠[]∧s.tries<3000 then ((Zby cs n (Zap cs s)).1,(Zby cs n (Zap cs s)).2+1) else (s,0)
def Zfh (s:SN):SN := { s with way:=[],tree:=[],status:=3 }
noncomputable def endN (s:SN):SN:=open Classical in if s.status=3 then Zfh s else if s.status=0 then (if s.way=[] then { s with status:=2 } else if 3000≤s.tries then Zfh s else s) else s
noncomputable def Zaz (cs:List Cls) (n:Nat) (s:SN):SN × Nat:=if s.status=2∨s.status=3 then (s,0) else (endN (Zby cs n { s with status:=0 }).1,(Zby cs n { s with status:=0 }).2)
theorem InvN.full {cs:List Cls} {a:List (List Sym) × Names} {s:SN} (h:InvN cs a s):InvN cs a (Zfh s) :=
 ⟨fun x hx=>by simp [Zfh] at hx,trivial,fun h3=>absurd rfl h3,rfl,fun h1=>by simp [Zfh] at h1,by simp [Zfh],h.tries,fun _=>rfl,by simp [Zfh]⟩
theorem InvN.end' {cs:List Cls} {a:List (List Sym) × Names} {s:SN} (h:InvN cs a s):InvN cs a (endN s):=by
 unfold endN
 split
 ·exact h.full
 ·split
  ·rename_i h3 h0
   split
   ·rename_i hw
    exact ⟨h.way,h.used,fun _=>h.tree (by omega),h.trim,fun h1=>by simp at h1,h.len,h.tries,fun _=>hw,by simp⟩
   ·split
    ·exact h.full
    ·exact h
  ·exact h
theorem InvN.seek {cs:List Cls} {a:List (List Sym) × Names} {s:SN} (h:InvN cs a s) (h3:s.status≠3):InvN cs a { s with status:=0 } :=
 ⟨h.way,h.used,fun _=>h.tree h3,h.trim,fun h1=>by simp at h1,h.len,h.tries,fun h2=>by simp at h2,by simp⟩
theorem InvN.head {cs:List Cls} {a:List (List Sym) × Names} {s:SN} (h:InvN cs a s) (hw:s.way≠[]):∃ n k r c,s.way=(n,k)::r∧cs[k]?=some c∧n.goals≠[]:=by
 cases e:s.way with
 | nil=>exact absurd e hw
 | cons x r =>
  obtain ⟨n,k⟩:=x
  have ht:=h.trim
  rw [e] at ht
  have hk:=Zli ht
  exact ⟨n,k,r,_,rfl,Qb hk,(h.way (n,k) (by rw [e]; simp)).1⟩
theorem InvN.loop {cs:List Cls} {a:List (List Sym) × Names} (hcl:cs.length≤24):∀ {n:Nat} {s:SN},InvN cs a s→InvN cs a (Zby cs n s).1:=by
 intro n
 induction n with
 | zero=>intro s h; exact h
 | succ n ih =>
  intro s h
  unfold Zby
  split
  ·rename_i hc
   obtain ⟨n',k,r,c,h1,h2,h3⟩:=h.head hc.2.1
   exact ih (h.try' hcl hc.1 h1 h2 hc.2.2)
  ·exact h
theorem InvN.step {cs:List Cls} {a:List (List Sym) × Names} (hcl:cs.length≤24) {n:Nat} {s:SN} (h:InvN cs a s):InvN cs a (Zaz cs n s).1:=by
 unfold Zaz
 split
 ·exact h
 ·rename_i h3
  exact ((h.seek (by omega)).loop hcl).end'
noncomputable def newN (cs:List Cls) (a:List (List Sym) × Names):SN:=Zcv cs (Zca ⟨[],0,0,⟨[],[],[],[],0⟩,[]⟩ (topN a))
theorem Zem {a:List (List Sym) × Names} (h:a.1≠[]):(topN a).goals≠[]:=by simpa [topN] using h
theorem InvN.new (cs:List Cls) {a:List (List Sym) × Names} (ha:a.1≠[]):InvN cs a (newN cs a):=by
 have hg:=Zem ha
 have hp:PW cs (topN a) [(topN a,0)] [40]:=⟨rfl,hg,Qm _,[],.zero _,by simp⟩
 unfold newN Zca
 rw [if_neg hg]
 refine ⟨?_,?_,?_,?_,?_,?_,?_,?_,?_⟩
 ·intro x hx
  simp only [Zcv,Zdh] at hx
  have hx:=Zol hx
  simp at hx
  subst hx
  exact ⟨hg,by simp [topN],Qm _,fun k hk=>by simp [topN] at hk⟩
 ·simp only [Zcv,Zdh]
  exact UsedW.trim ⟨rfl,fun y hy=>by simp at hy,trivial⟩
 ·intro _
  exact hp.leave
 ·simp only [Zcv,Zdh]
  exact Zlj _ _
 ·intro h; simp [Zcv] at h
 ·simp only [Zcv,Zll]
  simp
 ·simp [Zcv]
 ·intro h; simp [Zcv] at h
 ·simp [Zcv]
end Go.Proofs.YtlmjilpjmgjjcabDoor
