/-
  PROVED HERE: what the reference's 'joins' tells of two terms that lie in memory: whether they fit (the conditions stand in the statement).
-/
import Derived.Test.YtlmjilpjmgjjcaaGreatDoorT7
namespace Go.Proofs.YtlmjilpjmgjjcaaGreatDoor
open Go.RowKit
set_option linter.unusedSimpArgs false
set_option linter.unusedVariables false
theorem pa_size {a0:Act} {vc:Value} {β:Nat→Nat} {lst:Nat→Bool}:∀ {ops:List Oper} {kd:List Kd} {k:Nat},(pa a0 vc β lst k ops kd).tmps.size=a0.tmps.size:=by
 intro ops
 induction ops with
 | nil=>intro kd k; simp [pa]
 | cons o os ih =>
  intro kd k
  cases kd with
  | nil=>simp [pa]
  | cons q qs =>
   rw [pa]
   split
   ·cases o.dst <;> simp [Act.put,ih]
   ·exact ih
theorem pa_at {a0:Act} {vc:Value} {β:Nat→Nat} {lst:Nat→Bool}:∀ {ops:List Oper} {kd:List Kd} {k i:Nat} {o:Oper} {q:Kd} {d:Nat},ops[i]?=some o→kd[i]?=some q→lst (k+i)=true→o.dst=some d →
  (∀ j p,ops[j]?=some p→p.dst=some d→j=i)→d<a0.tmps.size→(pa a0 vc β lst k ops kd).tmps[d]?=some (q.val vc β (k+i)):=by
 intro ops
 induction ops with
 | nil=>intro kd k i o q d h; simp at h
 | cons p os ih =>
  intro kd k i o q d ho hq hl hd hu hs
  cases kd with
  | nil=>simp at hq
  | cons r qs =>
   cases i with
   | zero =>
    simp at ho hq
    subst ho hq
    simp only [Nat.add_zero] at hl ⊢
    rw [pa,if_pos hl,hd]
    simp only [Act.put]
    rw [Array.getElem?_setIfInBounds_self_of_lt (by rw [pa_size]; exact hs)]
   | succ i =>
    have e:k+(i+1)=k+1+i:=by omega
    have ih':=ih (kd:=qs) (k:=k+1) (i:=i) (by simpa using ho) (by simpa using hq) (by rw [← e]; exact hl) hd (fun j p' hp hd'=>by
     have:=hu (j+1) p' (by simpa using hp) hd'
     omega) hs
    rw [e,pa]
    have hne:p.dst≠some d:=fun hd'=>by have:=hu 0 p rfl hd'; omega
    split
    ·cases hpd:p.dst with
     | none=>simpa [Act.put] using ih'
     | some d' =>
      have:d'≠d:=fun e'=>hne (by rw [hpd,e'])
      simp only [Act.put]
      rw [Array.getElem?_setIfInBounds_ne (by exact this)]
      exact ih'
    ·exact ih'
def fitsLastG (T:Nat) (ops:List Oper) (kd:List Kd) (ic fi:Nat):Bool :=
 ops.length == kd.length &&
 (List.range ops.length).all fun i=>match ops[i]?,kd[i]? with
  | some o,some q =>
   (match o.guard with
    | none=>true
    | some (j,b)=>waits o j && (match kd[j]?,ops[j]? with
     | some (.pur (.bool c)),some p=>c == b && (match p.dst with | some d=>decide (d<T) | none=>false)
     | _,_=>false)) && (match o.op with | .select .. => false | _=>true) &&
   (o.after.all fun e => !Region.binds .any e || e.on<i) &&
   ((List.range ops.length).all fun j=>match ops[j]? with
    | some p=>match p.dst with
     | some d=>((j == i) || (o.dst != some d)) && (!(o.looksAt ops.toArray).contains d || waits o j)
     | none=>true
    | none=>true) &&
   (match q with
    | .pur _=>(List.range ops.length).any fun j=>i<j && (match ops[j]?,kd[j]? with | some p,some r=>waits p i && isPur r | _,_=>false)
    | .cal=>i == ic
    | .post _=>(List.range i).any fun j=>waits o j && (match kd[j]? with | some r=>fromCall r | none=>false)
    | .alo .. => false
    | .sto _=>i == fi && o.dst.isNone && ((List.range i).any fun j=>waits o j && (match kd[j]? with | some r=>fromCall r | none=>false)))
  | _,_=>false
structure LastAtG (T:Nat) (ops:List Oper) (kd:List Kd) (ic fi i:Nat) (o:Oper) (q:Kd):Prop where
 gd:o.guard=none∨∃ j b p d,o.guard=some (j,b)∧waits o j=true∧kd[j]?=some (.pur (.bool b))∧ops[j]?=some p∧p.dst=some d∧d<T
 sel:∀ cs b,o.op ≠ .select cs b
 low:∀ e ∈ o.after,Region.binds .any e=true→e.on<i
 dst:∀ j p d,ops[j]?=some p→p.dst=some d→j=i∨o.dst≠some d
 look:∀ j p d,ops[j]?=some p→p.dst=some d→d ∈ o.looksAt ops.toArray→waits o j=true
 pur:∀ c,q = .pur c→∃ j p r,i<j∧ops[j]?=some p∧kd[j]?=some r∧waits p i=true∧isPur r=true
 cal:q = .cal→i=ic
 post:postLike q=true→∃ j r,waits o j=true∧kd[j]?=some r∧fromCall r=true
 alo:∀ t z s cs,q ≠ .alo t z s cs
 sto:∀ k,q = .sto k→i=fi∧o.dst=none
theorem last_atG {T:Nat} {ops:List Oper} {kd:List Kd} {ic fi:Nat} (h:fitsLastG T ops kd ic fi=true) {i:Nat} {o:Oper} (ho:ops[i]?=some o):∃ q,kd[i]?=some q∧LastAtG T ops kd ic fi i o q:=by
 unfold fitsLastG at h
 simp only [Bool.and_eq_true,List.all_eq_true,List.mem_range,beq_iff_eq] at h
 obtain ⟨hl,h⟩:=h
 have hi:=(List.getElem?_eq_some_iff.1 ho).1
 have h:=h i hi
 rw [ho] at h
 cases hq:kd[i]? with
 | none=>rw [hq] at h; simp at h
 | some q =>
  rw [hq] at h
  simp only [Bool.and_eq_true,List.all_eq_true,List.mem_range] at h
  obtain ⟨⟨⟨⟨h1,h2⟩,h3⟩,h4⟩,h5⟩:=h
  have hpost:∀ (b:Bool),((List.range i).any fun j=>waits o j && (match kd[j]? with | some r=>fromCall r | none=>false))=true→∃ j r,waits o j=true∧kd[j]?=some r∧fromCall r=true:=by
   intro _ h
   simp only [List.any_eq_true,List.mem_range,Bool.and_eq_true] at h
   obtain ⟨j,_,h6,h7⟩:=h
   cases hr:kd[j]? with
   | none=>rw [hr] at h7; simp at h7
   | some r=>rw [hr] at h7; exact ⟨j,r,h6,hr,h7⟩
  refine ⟨q,rfl,?_,?_,?_,?_,?_,?_,?_,?_,?_,?_⟩
  ·cases hgd:o.guard with
   | none=>exact Or.inl rfl
   | some jb =>
    obtain ⟨j,b⟩:=jb
    rw [hgd] at h1
    simp only [Bool.and_eq_true] at h1
    obtain ⟨h6,h7⟩:=h1
    cases hk:kd[j]? with
    | none=>rw [hk] at h7; simp at h7
    | some r =>
     cases hp:ops[j]? with
     | none=>rw [hk,hp] at h7; cases r <;> simp at h7
     | some p =>
      rw [hk,hp] at h7
      cases r with
      | pur c =>
       cases c with
       | bool c =>
        simp only [Bool.and_eq_true,beq_iff_eq] at h7
        obtain ⟨h8,h9⟩:=h7
        cases hd:p.dst with
        | none=>rw [hd] at h9; simp at h9
        | some d =>
         rw [hd] at h9
         subst h8
         exact Or.inr ⟨j,c,p,d,rfl,h6,hk,hp,hd,by simpa using h9⟩
       | _=>simp at h7
      | _=>simp at h7
  ·intro cs b e; rw [e] at h2; simp at h2
  ·intro e he hb
   have:=Array.all_eq_true_iff_forall_mem.1 h3 e he
   simpa [hb] using this
  ·intro j p d hp hd
   have:=h4 j (List.getElem?_eq_some_iff.1 hp).1
   rw [hp] at this
   simp only [hd,Bool.and_eq_true,Bool.or_eq_true,beq_iff_eq,bne_iff_ne] at this
   exact this.1
  ·intro j p d hp hd hm
   have:=h4 j (List.getElem?_eq_some_iff.1 hp).1
   rw [hp] at this
   simp only [hd,Bool.and_eq_true,Bool.or_eq_true,beq_iff_eq,bne_iff_ne] at this
   rcases this.2 with h | h
   ·simp [hm] at h
   ·exact h
  ·intro c e
   subst e
   simp only [List.any_eq_true,List.mem_range,Bool.and_eq_true] at h5
   obtain ⟨j,hj,h6,h7⟩:=h5
   have hp:ops[j]?=some ops[j]:=List.getElem?_eq_getElem hj
   cases hr:kd[j]? with
   | none=>rw [hp,hr] at h7; simp at h7
   | some r =>
    rw [hp,hr] at h7
    simp only [Bool.and_eq_true] at h7
    exact ⟨j,_,r,by simpa using h6,hp,hr,h7.1,h7.2⟩
  ·intro e; subst e; simpa using h5
  ·intro hp
   cases q with
   | post g=>exact hpost true h5
   | sto k =>
    simp only [Bool.and_eq_true] at h5
    exact hpost true h5.2
   | _=>simp [postLike] at hp
  ·intro t z s cs e; subst e; simp at h5
  ·intro k e
   subst e
   simp only [Bool.and_eq_true,beq_iff_eq] at h5
   exact ⟨h5.1.1,by simpa using h5.1.2⟩
theorem region_lastG {P:Program} {ops:List Oper} {id:Nat} {Q:Exit→Act→World→Prop} {a0:Act} {w:World} (hm:P.follows .mixedOrders=true) (kd:List Kd) (ic fi:Nat) (hfit:fitsLastG a0.tmps.size ops kd ic fi=true)
  (R R':Value→World→Prop) (f:FuncId) (args:Array Value)
  (hC:Calls P f args w.drew (fun e u'=>∃ v,e = .returned v∧R v u'))
  (hob:AllObL P w.drew (fun vc=>paAll a0 ops kd vc noB) R R' f args ops kd)
  (hcal:kd[ic]?=some .cal) (hil:ic<ops.length) (hfi:(∃ k,kd[fi]?=some (.sto k))∨(ops.length≤fi∧∀ v u,R v u→R' v u))
  (hQ:∀ vc u,R' vc u→Q .normal (paAll a0 ops kd vc noB) u) :
  (Code.region id ops.toArray true).wp P Q a0 w:=by
 have hlen:ops.length=kd.length:=by
  unfold fitsLastG at hfit
  simp only [Bool.and_eq_true,beq_iff_eq] at hfit
  exact hfit.1
 have hkat:∀ {i':Nat} {q':Kd},kd[i']?=some q'→∃ o',ops[i']?=some o'∧LastAtG a0.tmps.size ops kd ic fi i' o' q':=fun {i' q'} h1=>by
  have ho:=List.getElem?_eq_getElem (l:=ops) (i:=i') (by have:=(List.getElem?_eq_some_iff.1 h1).1; omega)
  obtain ⟨q2,hq2,hF2⟩:=last_atG hfit ho
  rw [h1] at hq2; simp at hq2; subst hq2
  exact ⟨_,ho,hF2⟩
 refine wp_region_any hm (wpAny_inv (J:=LastPlan ops kd ic fi a0 w.drew R R') ?_ ?_ _ _ _ _ ?_ ?_)
 ·intro L a u i hr hJ
  obtain ⟨hsz,hcl,vc,rfl,hw0,hcR,hpost⟩:=hJ
  obtain ⟨h0,o,ho',_⟩:=mem_ready.1 hr
  have ho:ops[i]?=some o:=by simpa using ho'
  have hi:i<ops.length:=(List.getElem?_eq_some_iff.1 ho).1
  have hil:i<L.size:=by omega
  have hun:L.getD i false=false:=by simp [hil] at h0 ⊢; exact h0
  obtain ⟨q,hq,hF⟩:=last_atG hfit ho
  have hOb:=hob.at ho hq
  have hexec:execOp (pa a0 vc noB (fun j=>L.getD j false) 0 ops kd).eval o=execOp (paAll a0 ops kd vc noB).eval o:=by
   refine execOp_congr o hF.sel (fun x hx=>pa_eval (fun j p hp hl d hd e => ?_))
   subst e
   have hw:=hF.look j p d hp hd (List.mem_append_left _ (List.mem_filterMap.2 ⟨.tmp d,by simpa using hx,rfl⟩))
   have:=waits_listed hr ho hw
   simp only [Nat.zero_add] at hl
   rw [hl] at this
   simp at this
  have hwant:Region.wanted o (yielded ops.toArray (pa a0 vc noB (fun j=>L.getD j false) 0 ops kd).tmps)=true:=by
   rcases hF.gd with hg | ⟨j,b,p,d,hg,h1,h2,h3,h4,h5⟩
   ·simp [Region.wanted,hg]
   ·obtain ⟨o',ho',hF'⟩:=hkat h2
    rw [h3] at ho'
    simp only [Option.some.injEq] at ho'
    subst ho'
    have ht:=pa_at (a0:=a0) (vc:=vc) (β:=noB) (lst:=fun j=>L.getD j false) (k:=0) h3 h2 (by simpa using waits_listed hr ho h1) h4 (fun j' p' h6 h7=>by
     rcases hF'.dst j' p' d h6 h7 with h | h
     ·exact h
     ·exact absurd h4 h) h5
    have hy:yielded ops.toArray (pa a0 vc noB (fun j=>L.getD j false) 0 ops kd).tmps j=some b:=by
     unfold yielded
     simp only [List.getElem?_toArray,h3,Option.bind_some,h4,ht,Kd.val]
    unfold Region.wanted
    rw [hg]
    simp only
    rw [hy]
    simp
  have hL:=getD_set_or hil
  have hput:∀ vc',(∀ j r,kd[j]?=some r→L.getD j false=true→r.val vc noB j=r.val vc' noB j) →
    (pa a0 vc noB (fun j=>L.getD j false) 0 ops kd).put o.dst (q.val vc' noB i)=pa a0 vc' noB (fun j=>(L.setIfInBounds i true).getD j false) 0 ops kd:=by
   intro vc' hv
   have e1:pa a0 vc noB (fun j=>L.getD j false) 0 ops kd=pa a0 vc' noB (fun j=>L.getD j false) 0 ops kd:=pa_congr (fun j r hr'=>by
    simp only [Nat.zero_add]
    exact ⟨trivial,fun hl=>hv j r hr' hl⟩)
   rw [e1]
   have e2:=pa_set (a0:=a0) (vc:=vc') (β:=noB) (lst:=fun j=>L.getD j false) (k:=0) ho hq (by simpa using hun) hF.dst
   simp only [Nat.zero_add] at e2
   rw [← e2]
   exact pa_congr (fun j r hr'=>⟨by simp only [Nat.zero_add,hL],fun _=>rfl⟩)
  have hold:∀ j,L.getD j false=true→(L.setIfInBounds i true).getD j false=true:=fun j h=>by rw [hL,h]; rfl
  have hnew:∀ j,j≠i→(L.setIfInBounds i true).getD j false=L.getD j false:=fun j h=>by
   rw [hL]
   have:(j == i)=false:=by rw [beq_eq_false_iff_ne]; exact h
   simp [this]
  have hne:∀ {i':Nat} {q':Kd},kd[i']?=some q'→q'≠q→i'≠i:=fun {i' q'} h1 h2 e=>by
   subst e; rw [hq] at h1; exact h2 (Option.some.inj h1).symm
  have hcl':∀ (i':Nat) o',ops[i']?=some o'→(L.setIfInBounds i true).getD i' false=true→∀ j,waits o' j=true→(L.setIfInBounds i true).getD j false=true:=by
   intro i' o' h1 h2 j hj
   by_cases e:i'=i
   ·subst e
    rw [ho] at h1; simp at h1; subst h1
    exact hold _ (waits_listed hr ho hj)
   ·exact hold _ (hcl i' o' h1 ((hnew i' e).symm.trans h2) j hj)
  have hpost':postLike q=false→∀ (i':Nat) q',kd[i']?=some q'→(L.setIfInBounds i true).getD i' false=true→postLike q'=true→(L.setIfInBounds i true).getD ic false=true:=fun hp i' q' h1 h2 h3 =>
   hold _ (hpost i' q' h1 ((hnew i' (hne h1 (fun e=>by rw [e,hp] at h3; simp at h3))).symm.trans h2) h3)
  have hcall:postLike q=true→L.getD ic false=true:=fun hp=>by
   obtain ⟨j,r,h1,h2,h3⟩:=hF.post hp
   have hj:=waits_listed hr ho h1
   cases r with
   | post g=>exact hpost j _ h2 hj rfl
   | cal =>
    obtain ⟨o',_,hF'⟩:=hkat h2
    have:=hF'.cal rfl
    rw [← this]; exact hj
   | _=>simp [fromCall] at h3
  -- the reads stand ahead of the call
  have hahead:∀ (n:Nat) (i':Nat) c,ops.length - i'≤n→kd[i']?=some (.pur c)→L.getD ic false=true→L.getD i' false=true:=by
   intro n
   induction n with
   | zero =>
    intro i' c hn h1 _
    have:=(List.getElem?_eq_some_iff.1 h1).1
    omega
   | succ n ih =>
    intro i' c hn h1 h2
    obtain ⟨o',_,hF'⟩:=hkat h1
    obtain ⟨j,p,r,h3,h4,h5,h6,h7⟩:=hF'.pur c rfl
    have hjl:L.getD j false=true:=by
     cases r with
     | pur c'=>exact ih j c' (by omega) h5 h2
     | cal =>
      obtain ⟨o2,_,hF2⟩:=hkat h5
      rw [hF2.cal rfl]; exact h2
     | _=>simp [isPur] at h7
    exact hcl j p h4 hjl i' h6
  unfold wpOp
  simp only [ho']
  rw [if_pos hwant]
  refine Or.inl ?_
  unfold Oper.wp
  rw [hexec]
  cases q with
  | pur c =>
   have hnc:L.getD ic false=false:=by
    cases h:L.getD ic false with
    | false=>rfl
    | true =>
     have:=hahead _ i c (Nat.le_refl _) hq h
     rw [hun] at this; simp at this
   have hic:ic≠i:=hne hcal (by simp)
   have hu:=hw0 hnc
   subst hu
   rw [hOb vc]
   refine ⟨by simpa using hsz,hcl',vc,hput vc (fun _ _ _ _=>rfl),fun _=>rfl,?_,hpost' rfl⟩
   intro h
   rw [hnew ic hic,hnc] at h
   simp at h
  | post g =>
   have hic:=hcall rfl
   have hfn:fi≠i:=by
    rcases hfi with ⟨k,hk⟩ | ⟨hk,_⟩
    ·exact hne hk (by simp)
    ·omega
   have hS:R vc u∨R' vc u:=by
    cases h:L.getD fi false with
    | false=>exact Or.inl ((hcR hic).1 h)
    | true=>exact (hcR hic).2.1 h
   rw [hOb vc u hS]
   refine ⟨by simpa using hsz,hcl',vc,hput vc (fun _ _ _ _=>rfl),?_,?_,fun i' q' _ _ _=>hold _ hic⟩
   ·intro h
    have:=hold _ hic
    rw [h] at this; simp at this
   ·intro _
    rw [hnew fi hfn]
    exact hcR hic
  | cal =>
   have hie:=hF.cal rfl
   have hnc:L.getD ic false=false:=by rw [← hie]; exact hun
   have hu:=hw0 hnc
   subst hu
   rw [hOb vc]
   refine hC.mono ?_
   rintro e u' ⟨v,rfl,hr'⟩
   have hff:L.getD fi false=false:=by
    rcases hfi with ⟨k,hk⟩ | ⟨hk,_⟩
    ·cases h:L.getD fi false with
     | false=>rfl
     | true =>
      have:=hpost fi _ hk h rfl
      rw [hnc] at this; simp at this
    ·have:¬ fi<L.size:=by omega
     simp [this]
   have hfn:fi≠i:=by
    rcases hfi with ⟨k,hk⟩ | ⟨hk,_⟩
    ·exact hne hk (by simp)
    ·omega
   refine ⟨by simpa using hsz,hcl',v,hput v ?_,?_,?_,?_⟩
   ·intro j r h1 h2
    cases r with
    | post g =>
     have:=hpost j _ h1 h2 rfl
     rw [hnc] at this; simp at this
    | cal =>
     obtain ⟨o',_,hF'⟩:=hkat h1
     have:=hF'.cal rfl
     rw [this,hnc] at h2; simp at h2
    | _=>rfl
   ·intro h
    rw [← hie,hL] at h
    simp at h
   ·intro _
    rw [hnew fi hfn,hff]
    exact ⟨fun _=>hr',fun h=>by simp at h,fun h=>by simp at h⟩
   ·intro i' q' _ _ _
    rw [← hie,hL]; simp
  | alo t z s cs=>exact absurd rfl (hF.alo t z s cs)
  | sto k =>
   have hic:=hcall rfl
   obtain ⟨hif,hdn⟩:=hF.sto k rfl
   obtain ⟨w',hrun,hR'⟩:=hOb vc u ((hcR hic).1 (by rw [← hif]; exact hun))
   rw [hrun]
   refine ⟨by simpa using hsz,hcl',vc,hput vc (fun _ _ _ _=>rfl),?_,?_,fun i' q' _ _ _=>hold _ hic⟩
   ·intro h
    have:=hold _ hic
    rw [h] at this; simp at this
   ·intro _
    refine ⟨fun h => ?_,fun _=>Or.inr hR',fun _ _=>hR'⟩
    rw [← hif,hL] at h
    simp at h
 ·intro L a u hr hJ
  obtain ⟨hsz,hcl,vc,rfl,hw0,hcR,hpost⟩:=hJ
  have hall:∀ i,i<ops.length→L.getD i false=true:=by
   intro i
   induction i using Nat.strongRecOn with
   | _ i ih =>
    intro hi
    cases hl:L.getD i false with
    | true=>rfl
    | false =>
     exfalso
     have ho:ops[i]?=some ops[i]:=List.getElem?_eq_getElem hi
     obtain ⟨q,hq,hF⟩:=last_atG hfit ho
     have:i ∈ Region.ready .any ops.toArray L:=by
      refine mem_ready.2 ⟨?_,ops[i],by simp,fun e he hb=>ih e.on (hF.low e he hb) (by have:=hF.low e he hb; omega)⟩
      have hi':i<L.size:=by omega
      simp [hi'] at hl ⊢
      exact hl
     rw [hr] at this
     simp at this
  have e:pa a0 vc noB (fun j=>L.getD j false) 0 ops kd=paAll a0 ops kd vc noB:=pa_congr (fun j r hr'=>⟨by
   simp only [Nat.zero_add]
   exact hall j (by have:=(List.getElem?_eq_some_iff.1 hr').1; omega),fun _=>rfl⟩)
  rw [e]
  have hR:=hcR (hall ic hil)
  refine hQ vc u ?_
  rcases hfi with ⟨k,hk⟩ | ⟨hk,hRR⟩
  ·exact hR.2.2 (hall fi (by have:=(List.getElem?_eq_some_iff.1 hk).1; omega)) ⟨k,hk⟩
  ·refine hRR _ _ (hR.1 ?_)
   have:¬ fi<L.size:=by omega
   simp [this]
 ·have:(ops.toArray).size=ops.length:=by simp
  unfold unl
  exact Nat.le_trans (List.length_filter_le _ _) (by simp)
 ·have hz:∀ j,(Array.replicate ops.toArray.size false).getD j false=false:=fun j=>by
   simp only [Array.getD_eq_getD_getElem?,Array.getElem?_replicate]
   split <;> rfl
  refine ⟨by simp,?_,undef,?_,fun _=>rfl,?_,?_⟩
  ·intro i o _ h; rw [hz] at h; simp at h
  ·have:∀ (k:Nat) (os:List Oper) (qs:List Kd),pa a0 undef noB (fun j=>(Array.replicate ops.toArray.size false).getD j false) k os qs=a0:=by
    intro k os
    induction os generalizing k with
    | nil=>intro qs; simp [pa]
    | cons o os ih =>
     intro qs
     cases qs with
     | nil=>simp [pa]
     | cons q qs=>rw [pa,hz]; simp only [Bool.false_eq_true,if_false]; exact ih _ _
   exact (this _ _ _).symm
  ·intro h; rw [hz] at h; simp at h
  ·intro i q _ h; rw [hz] at h; simp at h
def isMove (o:Oper):Bool:=match o.op with | .move _=>true | _=>false
def fitsApp (T:Nat) (ops:List Oper) (kd:List Kd) (ic fi:Nat):Bool :=
 ops.length == kd.length &&
 (List.range ops.length).all fun i=>match ops[i]?,kd[i]? with
  | some o,some q =>
   (match o.guard with
    | none=>true
    | some (j,b)=>waits o j && (match kd[j]?,ops[j]? with
     | some (.pur (.bool c)),some p=>c == b && (match p.dst with | some d=>decide (d<T) | none=>false)
     | _,_=>false)) && (match o.op with | .select .. => false | _=>true) &&
   (o.after.all fun e => !Region.binds .any e || e.on<i) &&
   ((List.range ops.length).all fun j=>match ops[j]? with
    | some p=>match p.dst with
     | some d=>((j == i) || (o.dst != some d)) && (!(o.looksAt ops.toArray).contains d || waits o j)
     | none=>true
    | none=>true) &&
   (match q with
    | .pur _=>isMove o || (List.range ops.length).any fun j=>i<j && (match ops[j]?,kd[j]? with | some p,some r=>waits p i && (isPur r && !isMove p) | _,_=>false)
    | .cal=>i == ic
    | .post _=>(List.range i).any fun j=>waits o j && (match kd[j]? with | some r=>fromCall r | none=>false)
    | .alo .. => false
    | .sto _=>i == fi && o.dst.isNone && ((List.range i).any fun j=>waits o j && (match kd[j]? with | some r=>fromCall r | none=>false)))
  | _,_=>false
structure AppAt (T:Nat) (ops:List Oper) (kd:List Kd) (ic fi i:Nat) (o:Oper) (q:Kd):Prop where
 gd:o.guard=none∨∃ j b p d,o.guard=some (j,b)∧waits o j=true∧kd[j]?=some (.pur (.bool b))∧ops[j]?=some p∧p.dst=some d∧d<T
 sel:∀ cs b,o.op ≠ .select cs b
 low:∀ e ∈ o.after,Region.binds .any e=true→e.on<i
 dst:∀ j p d,ops[j]?=some p→p.dst=some d→j=i∨o.dst≠some d
 look:∀ j p d,ops[j]?=some p→p.dst=some d→d ∈ o.looksAt ops.toArray→waits o j=true
 pur:∀ c,q = .pur c→isMove o=true∨∃ j p r,i<j∧ops[j]?=some p∧kd[j]?=some r∧waits p i=true∧isPur r=true∧isMove p=false
 cal:q = .cal→i=ic
 post:postLike q=true→∃ j r,waits o j=true∧kd[j]?=some r∧fromCall r=true
 alo:∀ t z s cs,q ≠ .alo t z s cs
 sto:∀ k,q = .sto k→i=fi∧o.dst=none
theorem app_at {T:Nat} {ops:List Oper} {kd:List Kd} {ic fi:Nat} (h:fitsApp T ops kd ic fi=true) {i:Nat} {o:Oper} (ho:ops[i]?=some o):∃ q,kd[i]?=some q∧AppAt T ops kd ic fi i o q:=by
 unfold fitsApp at h
 simp only [Bool.and_eq_true,List.all_eq_true,List.mem_range,beq_iff_eq] at h
 obtain ⟨hl,h⟩:=h
 have hi:=(List.getElem?_eq_some_iff.1 ho).1
 have h:=h i hi
 rw [ho] at h
 cases hq:kd[i]? with
 | none=>rw [hq] at h; simp at h
 | some q =>
  rw [hq] at h
  simp only [Bool.and_eq_true,List.all_eq_true,List.mem_range] at h
  obtain ⟨⟨⟨⟨h1,h2⟩,h3⟩,h4⟩,h5⟩:=h
  have hpost:∀ (b:Bool),((List.range i).any fun j=>waits o j && (match kd[j]? with | some r=>fromCall r | none=>false))=true→∃ j r,waits o j=true∧kd[j]?=some r∧fromCall r=true:=by
   intro _ h
   simp only [List.any_eq_true,List.mem_range,Bool.and_eq_true] at h
   obtain ⟨j,_,h6,h7⟩:=h
   cases hr:kd[j]? with
   | none=>rw [hr] at h7; simp at h7
   | some r=>rw [hr] at h7; exact ⟨j,r,h6,hr,h7⟩
  refine ⟨q,rfl,?_,?_,?_,?_,?_,?_,?_,?_,?_,?_⟩
  ·cases hgd:o.guard with
   | none=>exact Or.inl rfl
   | some jb =>
    obtain ⟨j,b⟩:=jb
    rw [hgd] at h1
    simp only [Bool.and_eq_true] at h1
    obtain ⟨h6,h7⟩:=h1
    cases hk:kd[j]? with
    | none=>rw [hk] at h7; simp at h7
    | some r =>
     cases hp:ops[j]? with
     | none=>rw [hk,hp] at h7; cases r <;> simp at h7
     | some p =>
      rw [hk,hp] at h7
      cases r with
      | pur c =>
       cases c with
       | bool c =>
        simp only [Bool.and_eq_true,beq_iff_eq] at h7
        obtain ⟨h8,h9⟩:=h7
        cases hd:p.dst with
        | none=>rw [hd] at h9; simp at h9
        | some d =>
         rw [hd] at h9
         subst h8
         exact Or.inr ⟨j,c,p,d,rfl,h6,hk,hp,hd,by simpa using h9⟩
       | _=>simp at h7
      | _=>simp at h7
  ·intro cs b e; rw [e] at h2; simp at h2
  ·intro e he hb
   have:=Array.all_eq_true_iff_forall_mem.1 h3 e he
   simpa [hb] using this
  ·intro j p d hp hd
   have:=h4 j (List.getElem?_eq_some_iff.1 hp).1
   rw [hp] at this
   simp only [hd,Bool.and_eq_true,Bool.or_eq_true,beq_iff_eq,bne_iff_ne] at this
   exact this.1
  ·intro j p d hp hd hm
   have:=h4 j (List.getElem?_eq_some_iff.1 hp).1
   rw [hp] at this
   simp only [hd,Bool.and_eq_true,Bool.or_eq_true,beq_iff_eq,bne_iff_ne] at this
   rcases this.2 with h | h
   ·simp [hm] at h
   ·exact h
  ·intro c e
   subst e
   simp only [Bool.or_eq_true,List.any_eq_true,List.mem_range,Bool.and_eq_true] at h5
   rcases h5 with h5 | ⟨j,hj,h6,h7⟩
   ·exact Or.inl h5
   have hp:ops[j]?=some ops[j]:=List.getElem?_eq_getElem hj
   cases hr:kd[j]? with
   | none=>rw [hp,hr] at h7; simp at h7
   | some r =>
    rw [hp,hr] at h7
    simp only [Bool.and_eq_true,Bool.not_eq_true'] at h7
    exact Or.inr ⟨j,_,r,by simpa using h6,hp,hr,h7.1,h7.2.1,h7.2.2⟩
  ·intro e; subst e; simpa using h5
  ·intro hp
   cases q with
   | post g=>exact hpost true h5
   | sto k =>
    simp only [Bool.and_eq_true] at h5
    exact hpost true h5.2
   | _=>simp [postLike] at hp
  ·intro t z s cs e; subst e; simp at h5
  ·intro k e
   subst e
   simp only [Bool.and_eq_true,beq_iff_eq] at h5
   exact ⟨h5.1.1,by simpa using h5.1.2⟩
def ObA (P:Program) (ib:Nat) (w0 w1:World) (FA:Value→Act) (R R':Value→World→Prop) (i:Nat) (o:Oper):Kd→Prop
 | .pur c=>if i=ib then ∀ vc,(execOp (FA vc).eval o).run P w0 = .ok (.value c) w1 else ∀ vc u,u=w0∨u=w1∨isMove o=true→(execOp (FA vc).eval o).run P u = .ok (.value c) u
 | .post g=>∀ vc w,R vc w∨R' vc w→(execOp (FA vc).eval o).run P w = .ok (.value (g vc)) w
 | .cal=>∀ vc,∃ v' w',(execOp (FA vc).eval o).run P w1 = .ok (.value v') w'∧R v' w'
 | .alo .. => True
 | .sto _=>∀ vc w,R vc w→∃ w',(execOp (FA vc).eval o).run P w = .ok .skip w'∧R' vc w'
def AllObA (P:Program) (ib:Nat) (w0 w1:World) (FA:Value→Act) (R R':Value→World→Prop):Nat→List Oper→List Kd→Prop
 | k,o::os,q::qs=>ObA P ib w0 w1 FA R R' k o q∧AllObA P ib w0 w1 FA R R' (k+1) os qs
 | _,_,_=>True
theorem AllObA.at {P:Program} {ib:Nat} {w0 w1:World} {FA:Value→Act} {R R':Value→World→Prop}:∀ {ops:List Oper} {ks:List Kd} {k:Nat},AllObA P ib w0 w1 FA R R' k ops ks →
  ∀ {i:Nat} {o:Oper} {q:Kd},ops[i]?=some o→ks[i]?=some q→ObA P ib w0 w1 FA R R' (k+i) o q:=by
 intro ops
 induction ops with
 | nil=>intro ks k _ i o q h; simp at h
 | cons p os ih =>
  intro ks k h i o q ho hq
  cases ks with
  | nil=>simp at hq
  | cons r qs =>
   cases i with
   | zero=>simp at ho hq; subst ho hq; exact h.1
   | succ i =>
    have:=ih h.2 (i:=i) (by simpa using ho) (by simpa using hq)
    have e:k+1+i=k+(i+1):=by omega
    rw [e] at this; exact this
structure AppPlan (ops:List Oper) (kd:List Kd) (ib ic fi:Nat) (a0:Act) (w0 w1:World) (R R':Value→World→Prop) (L:Array Bool) (a:Act) (w:World):Prop where
 size:L.size=ops.length
 closed:∀ (i:Nat) o,ops[i]?=some o→L.getD i false=true→∀ j,waits o j=true→L.getD j false=true
 st:∃ vc,a=pa a0 vc noB (fun j=>L.getD j false) 0 ops kd∧(L.getD ic false=false→w=if L.getD ib false then w1 else w0)∧(L.getD ic false=true→(L.getD fi false=false→R vc w)∧(L.getD fi false=true→R vc w∨R' vc w)∧(L.getD fi false=true→(∃ k,kd[fi]?=some (.sto k))→R' vc w)) ∧
  (∀ (i:Nat) q,kd[i]?=some q→L.getD i false=true→postLike q=true→L.getD ic false=true)
theorem region_app {P:Program} {ops:List Oper} {id:Nat} {Q:Exit→Act→World→Prop} {a0:Act} {w:World} (hm:P.follows .mixedOrders=true) (kd:List Kd) (ib ic fi:Nat) (hfit:fitsApp a0.tmps.size ops kd ic fi=true)
  (R R':Value→World→Prop) (w1:World) (c0:Value) (hib:kd[ib]?=some (.pur c0)) (hnm:∀ o,ops[ib]?=some o→isMove o=false)
  (hob:AllObA P ib w.drew w1 (fun vc=>paAll a0 ops kd vc noB) R R' 0 ops kd)
  (hcal:kd[ic]?=some .cal) (hil:ic<ops.length) (hfi:(∃ k,kd[fi]?=some (.sto k))∨(ops.length≤fi∧∀ v u,R v u→R' v u))
  (hQ:∀ vc u,R' vc u→Q .normal (paAll a0 ops kd vc noB) u) :
  (Code.region id ops.toArray true).wp P Q a0 w:=by
 have hlen:ops.length=kd.length:=by
  unfold fitsApp at hfit
  simp only [Bool.and_eq_true,beq_iff_eq] at hfit
  exact hfit.1
 have hkat:∀ {i':Nat} {q':Kd},kd[i']?=some q'→∃ o',ops[i']?=some o'∧AppAt a0.tmps.size ops kd ic fi i' o' q':=fun {i' q'} h1=>by
  have ho:=List.getElem?_eq_getElem (l:=ops) (i:=i') (by have:=(List.getElem?_eq_some_iff.1 h1).1; omega)
  obtain ⟨q2,hq2,hF2⟩:=app_at hfit ho
  rw [h1] at hq2; simp at hq2; subst hq2
  exact ⟨_,ho,hF2⟩
 refine wp_region_any hm (wpAny_inv (J:=AppPlan ops kd ib ic fi a0 w.drew w1 R R') ?_ ?_ _ _ _ _ ?_ ?_)
 ·intro L a u i hr hJ
  obtain ⟨hsz,hcl,vc,rfl,hw0,hcR,hpost⟩:=hJ
  obtain ⟨h0,o,ho',_⟩:=mem_ready.1 hr
  have ho:ops[i]?=some o:=by simpa using ho'
  have hi:i<ops.length:=(List.getElem?_eq_some_iff.1 ho).1
  have hil:i<L.size:=by omega
  have hun:L.getD i false=false:=by simp [hil] at h0 ⊢; exact h0
  obtain ⟨q,hq,hF⟩:=app_at hfit ho
  have hOb:=hob.at ho hq
  rw [Nat.zero_add] at hOb
  have hexec:execOp (pa a0 vc noB (fun j=>L.getD j false) 0 ops kd).eval o=execOp (paAll a0 ops kd vc noB).eval o:=by
   refine execOp_congr o hF.sel (fun x hx=>pa_eval (fun j p hp hl d hd e => ?_))
   subst e
   have hw:=hF.look j p d hp hd (List.mem_append_left _ (List.mem_filterMap.2 ⟨.tmp d,by simpa using hx,rfl⟩))
   have:=waits_listed hr ho hw
   simp only [Nat.zero_add] at hl
   rw [hl] at this
   simp at this
  have hwant:Region.wanted o (yielded ops.toArray (pa a0 vc noB (fun j=>L.getD j false) 0 ops kd).tmps)=true:=by
   rcases hF.gd with hg | ⟨j,b,p,d,hg,h1,h2,h3,h4,h5⟩
   ·simp [Region.wanted,hg]
   ·obtain ⟨o',ho',hF'⟩:=hkat h2
    rw [h3] at ho'
    simp only [Option.some.injEq] at ho'
    subst ho'
    have ht:=pa_at (a0:=a0) (vc:=vc) (β:=noB) (lst:=fun j=>L.getD j false) (k:=0) h3 h2 (by simpa using waits_listed hr ho h1) h4 (fun j' p' h6 h7=>by
     rcases hF'.dst j' p' d h6 h7 with h | h
     ·exact h
     ·exact absurd h4 h) h5
    have hy:yielded ops.toArray (pa a0 vc noB (fun j=>L.getD j false) 0 ops kd).tmps j=some b:=by
     unfold yielded
     simp only [List.getElem?_toArray,h3,Option.bind_some,h4,ht,Kd.val]
    unfold Region.wanted
    rw [hg]
    simp only
    rw [hy]
    simp
  have hL:=getD_set_or hil
  have hput:∀ vc',(∀ j r,kd[j]?=some r→L.getD j false=true→r.val vc noB j=r.val vc' noB j) →
    (pa a0 vc noB (fun j=>L.getD j false) 0 ops kd).put o.dst (q.val vc' noB i)=pa a0 vc' noB (fun j=>(L.setIfInBounds i true).getD j false) 0 ops kd:=by
   intro vc' hv
   have e1:pa a0 vc noB (fun j=>L.getD j false) 0 ops kd=pa a0 vc' noB (fun j=>L.getD j false) 0 ops kd:=pa_congr (fun j r hr'=>by
    simp only [Nat.zero_add]
    exact ⟨trivial,fun hl=>hv j r hr' hl⟩)
   rw [e1]
   have e2:=pa_set (a0:=a0) (vc:=vc') (β:=noB) (lst:=fun j=>L.getD j false) (k:=0) ho hq (by simpa using hun) hF.dst
   simp only [Nat.zero_add] at e2
   rw [← e2]
   exact pa_congr (fun j r hr'=>⟨by simp only [Nat.zero_add,hL],fun _=>rfl⟩)
  have hold:∀ j,L.getD j false=true→(L.setIfInBounds i true).getD j false=true:=fun j h=>by rw [hL,h]; rfl
  have hnew:∀ j,j≠i→(L.setIfInBounds i true).getD j false=L.getD j false:=fun j h=>by
   rw [hL]
   have:(j == i)=false:=by rw [beq_eq_false_iff_ne]; exact h
   simp [this]
  have hne:∀ {i':Nat} {q':Kd},kd[i']?=some q'→q'≠q→i'≠i:=fun {i' q'} h1 h2 e=>by
   subst e; rw [hq] at h1; exact h2 (Option.some.inj h1).symm
  have hcl':∀ (i':Nat) o',ops[i']?=some o'→(L.setIfInBounds i true).getD i' false=true→∀ j,waits o' j=true→(L.setIfInBounds i true).getD j false=true:=by
   intro i' o' h1 h2 j hj
   by_cases e:i'=i
   ·subst e
    rw [ho] at h1; simp at h1; subst h1
    exact hold _ (waits_listed hr ho hj)
   ·exact hold _ (hcl i' o' h1 ((hnew i' e).symm.trans h2) j hj)
  have hpost':postLike q=false→∀ (i':Nat) q',kd[i']?=some q'→(L.setIfInBounds i true).getD i' false=true→postLike q'=true→(L.setIfInBounds i true).getD ic false=true:=fun hp i' q' h1 h2 h3 =>
   hold _ (hpost i' q' h1 ((hnew i' (hne h1 (fun e=>by rw [e,hp] at h3; simp at h3))).symm.trans h2) h3)
  have hcall:postLike q=true→L.getD ic false=true:=fun hp=>by
   obtain ⟨j,r,h1,h2,h3⟩:=hF.post hp
   have hj:=waits_listed hr ho h1
   cases r with
   | post g=>exact hpost j _ h2 hj rfl
   | cal =>
    obtain ⟨o',_,hF'⟩:=hkat h2
    have:=hF'.cal rfl
    rw [← this]; exact hj
   | _=>simp [fromCall] at h3
  -- the reads stand ahead of the call
  have hahead:∀ (n:Nat) (i':Nat) c o0,ops.length - i'≤n→ops[i']?=some o0→isMove o0=false→kd[i']?=some (.pur c)→L.getD ic false=true→L.getD i' false=true:=by
   intro n
   induction n with
   | zero =>
    intro i' c o0 hn h0 _ h1 _
    have:=(List.getElem?_eq_some_iff.1 h1).1
    omega
   | succ n ih =>
    intro i' c o0 hn h0 hm0 h1 h2
    obtain ⟨o',ho2,hF'⟩:=hkat h1
    rw [h0] at ho2
    simp only [Option.some.injEq] at ho2
    subst ho2
    rcases hF'.pur c rfl with h | ⟨j,p,r,h3,h4,h5,h6,h7,h8⟩
    ·rw [hm0] at h; simp at h
    have hjl:L.getD j false=true:=by
     cases r with
     | pur c'=>exact ih j c' p (by omega) h4 h8 h5 h2
     | cal =>
      obtain ⟨o2,_,hF2⟩:=hkat h5
      rw [hF2.cal rfl]; exact h2
     | _=>simp [isPur] at h7
    exact hcl j p h4 hjl i' h6
  unfold wpOp
  simp only [ho']
  rw [if_pos hwant]
  refine Or.inl ?_
  unfold Oper.wp
  rw [hexec]
  cases q with
  | pur c =>
   have hic:ic≠i:=hne hcal (by simp)
   cases hnc:L.getD ic false with
   | false =>
    have hu:=hw0 hnc
    by_cases hib':i=ib
    ·subst hib'
     rw [hun] at hu
     simp only [Bool.false_eq_true,if_false] at hu
     subst hu
     simp only [ObA,if_true] at hOb
     rw [hOb vc]
     refine ⟨by simpa using hsz,hcl',vc,hput vc (fun _ _ _ _=>rfl),fun _=>by rw [hL]; simp,?_,hpost' rfl⟩
     intro h
     rw [hnew ic hic,hnc] at h
     simp at h
    ·simp only [ObA,if_neg hib'] at hOb
     rw [hOb vc u (by rw [hu]; split; exact Or.inr (Or.inl rfl); exact Or.inl rfl)]
     refine ⟨by simpa using hsz,hcl',vc,hput vc (fun _ _ _ _=>rfl),fun _=>by rw [hnew ib (fun e=>hib' e.symm)]; exact hu,?_,hpost' rfl⟩
     intro h
     rw [hnew ic hic,hnc] at h
     simp at h
   | true =>
    have hmv:isMove o=true:=by
     cases h:isMove o with
     | true=>rfl
     | false =>
      have:=hahead _ i c o (Nat.le_refl _) ho h hq hnc
      rw [hun] at this; simp at this
    have hib':i≠ib:=fun e=>by
     subst e
     have:=hnm o ho
     rw [hmv] at this; simp at this
    have hfn:fi≠i:=by
     rcases hfi with ⟨k,hk⟩ | ⟨hk,_⟩
     ·exact hne hk (by simp)
     ·omega
    simp only [ObA,if_neg hib'] at hOb
    rw [hOb vc u (Or.inr (Or.inr hmv))]
    refine ⟨by simpa using hsz,hcl',vc,hput vc (fun _ _ _ _=>rfl),?_,?_,hpost' rfl⟩
    ·intro h
     rw [hnew ic hic,hnc] at h
     simp at h
    ·intro _
     rw [hnew fi hfn]
     exact hcR hnc
  | post g =>
   have hic:=hcall rfl
   have hfn:fi≠i:=by
    rcases hfi with ⟨k,hk⟩ | ⟨hk,_⟩
    ·exact hne hk (by simp)
    ·omega
   have hS:R vc u∨R' vc u:=by
    cases h:L.getD fi false with
    | false=>exact Or.inl ((hcR hic).1 h)
    | true=>exact (hcR hic).2.1 h
   simp only [ObA] at hOb
   rw [hOb vc u hS]
   refine ⟨by simpa using hsz,hcl',vc,hput vc (fun _ _ _ _=>rfl),?_,?_,fun i' q' _ _ _=>hold _ hic⟩
   ·intro h
    have:=hold _ hic
    rw [h] at this; simp at this
   ·intro _
    rw [hnew fi hfn]
    exact hcR hic
  | cal =>
   have hie:=hF.cal rfl
   have hnc:L.getD ic false=false:=by rw [← hie]; exact hun
   have hu:=hw0 hnc
   have hbl:L.getD ib false=true:=by
    have key:∀ (n:Nat) (i':Nat) c o0,ops.length - i'≤n→ops[i']?=some o0→isMove o0=false→kd[i']?=some (.pur c)→L.getD i' false=true:=by
     intro n
     induction n with
     | zero =>
      intro i' c o0 hn h0 _ h1
      have:=(List.getElem?_eq_some_iff.1 h1).1
      omega
     | succ n ih =>
      intro i' c o0 hn h0 hm0 h1
      obtain ⟨o',ho2,hF'⟩:=hkat h1
      rw [h0] at ho2
      simp only [Option.some.injEq] at ho2
      subst ho2
      rcases hF'.pur c rfl with h | ⟨j,p,r,h3,h4,h5,h6,h7,h8⟩
      ·rw [hm0] at h; simp at h
      cases r with
      | pur c'=>exact hcl j p h4 (ih j c' p (by omega) h4 h8 h5) i' h6
      | cal =>
       obtain ⟨o2,ho2,hF2⟩:=hkat h5
       have hj:=hF2.cal rfl
       have:j=i:=by omega
       subst this
       rw [ho] at h4
       simp only [Option.some.injEq] at h4
       subst h4
       exact waits_listed hr ho h6
      | _=>simp [isPur] at h7
    obtain ⟨ob,hob1,_⟩:=hkat hib
    exact key _ ib c0 ob (Nat.le_refl _) hob1 (hnm ob hob1) hib
   rw [hbl] at hu
   simp only [if_true] at hu
   subst hu
   simp only [ObA] at hOb
   obtain ⟨v,u',hrun,hr'⟩:=hOb vc
   rw [hrun]
   have hff:L.getD fi false=false:=by
    rcases hfi with ⟨k,hk⟩ | ⟨hk,_⟩
    ·cases h:L.getD fi false with
     | false=>rfl
     | true =>
      have:=hpost fi _ hk h rfl
      rw [hnc] at this; simp at this
    ·have:¬ fi<L.size:=by omega
     simp [this]
   have hfn:fi≠i:=by
    rcases hfi with ⟨k,hk⟩ | ⟨hk,_⟩
    ·exact hne hk (by simp)
    ·omega
   refine ⟨by simpa using hsz,hcl',v,hput v ?_,?_,?_,?_⟩
   ·intro j r h1 h2
    cases r with
    | post g =>
     have:=hpost j _ h1 h2 rfl
     rw [hnc] at this; simp at this
    | cal =>
     obtain ⟨o',_,hF'⟩:=hkat h1
     have:=hF'.cal rfl
     rw [this,hnc] at h2; simp at h2
    | _=>rfl
   ·intro h
    rw [← hie,hL] at h
    simp at h
   ·intro _
    rw [hnew fi hfn,hff]
    exact ⟨fun _=>hr',fun h=>by simp at h,fun h=>by simp at h⟩
   ·intro i' q' _ _ _
    rw [← hie,hL]; simp
  | alo t z s cs=>exact absurd rfl (hF.alo t z s cs)
  | sto k =>
   have hic:=hcall rfl
   obtain ⟨hif,hdn⟩:=hF.sto k rfl
   simp only [ObA] at hOb
   obtain ⟨w',hrun,hR'⟩:=hOb vc u ((hcR hic).1 (by rw [← hif]; exact hun))
   rw [hrun]
   refine ⟨by simpa using hsz,hcl',vc,hput vc (fun _ _ _ _=>rfl),?_,?_,fun i' q' _ _ _=>hold _ hic⟩
   ·intro h
    have:=hold _ hic
    rw [h] at this; simp at this
   ·intro _
    refine ⟨fun h => ?_,fun _=>Or.inr hR',fun _ _=>hR'⟩
    rw [← hif,hL] at h
    simp at h
 ·intro L a u hr hJ
  obtain ⟨hsz,hcl,vc,rfl,hw0,hcR,hpost⟩:=hJ
  have hall:∀ i,i<ops.length→L.getD i false=true:=by
   intro i
   induction i using Nat.strongRecOn with
   | _ i ih =>
    intro hi
    cases hl:L.getD i false with
    | true=>rfl
    | false =>
     exfalso
     have ho:ops[i]?=some ops[i]:=List.getElem?_eq_getElem hi
     obtain ⟨q,hq,hF⟩:=app_at hfit ho
     have:i ∈ Region.ready .any ops.toArray L:=by
      refine mem_ready.2 ⟨?_,ops[i],by simp,fun e he hb=>ih e.on (hF.low e he hb) (by have:=hF.low e he hb; omega)⟩
      have hi':i<L.size:=by omega
      simp [hi'] at hl ⊢
      exact hl
     rw [hr] at this
     simp at this
  have e:pa a0 vc noB (fun j=>L.getD j false) 0 ops kd=paAll a0 ops kd vc noB:=pa_congr (fun j r hr'=>⟨by
   simp only [Nat.zero_add]
   exact hall j (by have:=(List.getElem?_eq_some_iff.1 hr').1; omega),fun _=>rfl⟩)
  rw [e]
  have hR:=hcR (hall ic hil)
  refine hQ vc u ?_
  rcases hfi with ⟨k,hk⟩ | ⟨hk,hRR⟩
  ·exact hR.2.2 (hall fi (by have:=(List.getElem?_eq_some_iff.1 hk).1; omega)) ⟨k,hk⟩
  ·refine hRR _ _ (hR.1 ?_)
   have:¬ fi<L.size:=by omega
   simp [this]
 ·have:(ops.toArray).size=ops.length:=by simp
  unfold unl
  exact Nat.le_trans (List.length_filter_le _ _) (by simp)
 ·have hz:∀ j,(Array.replicate ops.toArray.size false).getD j false=false:=fun j=>by
   simp only [Array.getD_eq_getD_getElem?,Array.getElem?_replicate]
   split <;> rfl
  refine ⟨by simp,?_,undef,?_,fun _=>by rw [hz]; rfl,?_,?_⟩
  ·intro i o _ h; rw [hz] at h; simp at h
  ·have:∀ (k:Nat) (os:List Oper) (qs:List Kd),pa a0 undef noB (fun j=>(Array.replicate ops.toArray.size false).getD j false) k os qs=a0:=by
    intro k os
    induction os generalizing k with
    | nil=>intro qs; simp [pa]
    | cons o os ih =>
     intro qs
     cases qs with
     | nil=>simp [pa]
     | cons q qs=>rw [pa,hz]; simp only [Bool.false_eq_true,if_false]; exact ih _ _
   exact (this _ _ _).symm
  ·intro h; rw [hz] at h; simp at h
  ·intro i q _ h; rw [hz] at h; simp at h
def gr (cs:List CellS):Gr:=⟨cs.length,fun i=>((cs[i]?).map CellS.sym).getD ⟨[],0,0⟩,fun i=>((cs[i]?).map CellS.kids).getD []⟩
theorem gr_turn (cs:List CellS) (x y:Nat):gr (turn cs x y)=gr cs:=by
 unfold gr
 rw [turn_len]
 congr 1
 ·funext i
  rw [turn_at]
  cases cs[i]? with
  | none=>rfl
  | some c=>simp; split <;> rfl
 ·funext i
  rw [turn_at]
  cases cs[i]? with
  | none=>rfl
  | some c=>simp; split <;> rfl
theorem gr_at {cs:List CellS} {i:Nat} {c:CellS} (h:cs[i]?=some c):(gr cs).hd i=c.sym∧(gr cs).kids i=c.kids:=by simp [gr,h]
theorem kept_own_set (w:World) (g n cap i:Nat) (u:Value):Kept (ownOf (.slice (some ⟨g,0,none⟩) n cap)) w (w.setCell ⟨g,i,none⟩ u):=(Kept.refl _ w).setCell (p:=⟨g,i,none⟩) (fun _=>(rfl:some g=some g)) u
theorem gr_inv {cs cs':List CellS} (h:gr cs'=gr cs) {i:Nat} {c c':CellS} (hc:cs[i]?=some c) (hc':cs'[i]?=some c'):c'.sym=c.sym∧c'.kids=c.kids:=by
 have h1:=gr_at hc
 have h2:=gr_at hc'
 rw [h] at h2
 exact ⟨h2.1.symm.trans h1.1,h2.2.symm.trans h1.2⟩
theorem gr_len {cs cs':List CellS} (h:gr cs'=gr cs):cs'.length=cs.length:=congrArg Gr.n h
theorem take_next {l:List Nat} {k n:Nat} (h:l[k]?=some n):l.take (k+1)=l.take k++[n]:=by rw [List.take_add_one,h]; rfl
theorem take_drop_next {l:List Nat} {k n:Nat} (h:l[k]?=some n):l=l.take k++n::l.drop (k+1):=by
 obtain ⟨hk,e⟩:=List.getElem?_eq_some_iff.1 h
 have:=List.drop_eq_getElem_cons hk
 rw [e] at this
 rw [← this,List.take_append_drop]
def JoinedSaid (m:Nat):Prop:=∀ (w:World) (B:Nat) (lv:Value) (cs:List CellS) (vs:List Value) (ρ rk:Nat→Nat) (a b:Nat),CellsAt w B lv cs vs→UpOk cs ρ rk→(gr cs).Ok→rootsOf cs≤m→a<cs.length→b<cs.length→cs.length≤4000→(∀ (i:Nat),((gr cs).kids i).length≤4000) →
 Calls Tryz.prog 211 #[lv,.int .i64 a,.int .i64 b] w fun e w'=>∃ (q:Bool) (cs':List CellS) (ρ' rk':Nat→Nat),e = .returned (.bool q)∧CellsAt w' B lv cs' vs∧gr cs'=gr cs∧UpOk cs' ρ' rk'∧rootsOf cs'≤rootsOf cs∧Kept (ownOf lv) w w' ∧
  (q=true→Joined (gr cs) ρ ρ' [a] [b])∧(q=false→Clash (gr cs) ρ [a] [b])
set_option maxRecDepth 10000 in
set_option maxHeartbeats 4000000 in
theorem joined_step (m:Nat) (IH:∀ k,k<m→JoinedSaid k):JoinedSaid m:=by
 intro w B lv cs vs ρ rk a b h hu hG hm ha hb hl hk4
 have Hk4:=hide' hk4
 clear hk4
 have hrt:=hu.rt
 have hx:=hrt.lt a ha
 have hy:=hrt.lt b hb
 have rx:=hrt.idem a ha
 have ry:=hrt.idem b hb
 obtain ⟨x,hxe⟩:∃ x,x=ρ a:=⟨_,rfl⟩
 obtain ⟨y,hye⟩:∃ y,y=ρ b:=⟨_,rfl⟩
 rw [← hxe] at hx rx
 rw [← hye] at hy ry
 obtain ⟨g,cap,cx,vx,rfl,hcx,hvx,hB,hgl,hcap,x0,x1,x2,x3,xf,hkx⟩:=h.at hx
 obtain ⟨g',cap',cy,vy,he,hcy,hvy,_,_,_,y0,y1,y2,y3,yf,hky⟩:=h.at hy
 simp only [Value.slice.injEq,Option.some.injEq,Addr.mk.injEq] at he
 obtain ⟨⟨rfl,_⟩,_,rfl⟩:=he
 obtain ⟨xa,xcap,rfl⟩:=owns_slice hkx
 obtain ⟨ya,ycap,rfl⟩:=owns_slice hky
 have Hra:=hide' (root_any w B _ cs vs ρ rk a h hu ha hl)
 have Hrb:=hide' (root_any w B _ cs vs ρ rk b h hu hb hl)
 rw [← hxe] at Hra
 rw [← hye] at Hrb
 have H:=hide' h
 have Hu:=hide' hu
 have HG:=hide' hG
 have Hm:=hide' hm
 have Hrt:=hide' hrt
 have Hih:=hide' IH
 have Hxe:=hide' hxe
 have Hye:=hide' hye
 have Hrx:=hide' rx
 have Hry:=hide' ry
 have Hcx:=hide' hcx
 have Hcy:=hide' hcy
 have Hkx:=hide' hkx
 have Hwx:=hide' hvx
 have Hwy:=hide' hvy
 have Hky:=hide' hky
 clear h hu hG hm hrt IH hxe hye rx ry hcx hcy hkx hky hvx hvy
 by_cases hxy:x=y
 ·have hxy':((x:Int) == (y:Int))=true:=by rw [beq_iff_eq]; omega
  have Hxy:=hide' hxy
  clear hxy
  go_enter Tryz.func211,Tryz.ntmps211
  go_wp2_with fail
  refine Hra.out.mono ?_
  rintro e w1 ⟨rfl,rfl⟩
  go_wp2_with fail
  refine Hrb.out.mono ?_
  rintro e w1 ⟨rfl,rfl⟩
  go_wp2
  go_ret
  exact ⟨true,cs,ρ,rk,rfl,H.out,rfl,Hu.out,Nat.le_refl _,Kept.refl _ _,fun _=>Joined.same Hrt.out (Hxe.out.symm.trans (Hxy.out.trans Hye.out)),by simp⟩
 ·have hxy':((x:Int) == (y:Int))=false:=by rw [beq_eq_false_iff_ne]; omega
  have Hxy:=hide' hxy
  clear hxy
  by_cases hvx:cx.sym.name=[]
  ·have hvx':cx.sym.name.isEmpty=true:=by simpa using hvx
   go_enter Tryz.func211,Tryz.ntmps211
   go_wp2_with fail
   refine Hra.out.mono ?_
   rintro e w1 ⟨rfl,rfl⟩
   go_wp2_with fail
   refine Hrb.out.mono ?_
   rintro e w1 ⟨rfl,rfl⟩
   go_wp2
   go_ret
   refine ⟨true,turn cs x y,mg ρ x y,_,rfl,H.out.turn hx y,gr_turn _ _ _,Hu.out.turn hx hy Hrx.out Hry.out Hxy.out,?_,kept_own_set _ _ _ _ _ _,fun _=>Joined.var Hrt.out ha hb (Or.inl ⟨Hxe.out,Hye.out⟩) Hxy.out (by rw [(gr_at Hcx.out).1]; exact hvx),by simp⟩
   obtain ⟨c',e1,e2,_⟩:=Hu.out.root _ x cx (Nat.le_refl _) Hcx.out
   rw [Hrx.out] at e1 e2
   exact Nat.le_of_lt (rootsOf_turn e1 e2 Hxy.out)
  ·have hvx':cx.sym.name.isEmpty=false:=by simpa using hvx
   by_cases hvy:cy.sym.name=[]
   ·have hvy':cy.sym.name.isEmpty=true:=by simpa using hvy
    go_enter Tryz.func211,Tryz.ntmps211
    go_wp2_with fail
    refine Hra.out.mono ?_
    rintro e w1 ⟨rfl,rfl⟩
    go_wp2_with fail
    refine Hrb.out.mono ?_
    rintro e w1 ⟨rfl,rfl⟩
    go_wp2
    go_ret
    refine ⟨true,turn cs y x,mg ρ y x,_,rfl,H.out.turn hy x,gr_turn _ _ _,Hu.out.turn hy hx Hry.out Hrx.out (fun e=>Hxy.out e.symm),?_,kept_own_set _ _ _ _ _ _,fun _=>Joined.var Hrt.out ha hb (Or.inr ⟨Hye.out,Hxe.out⟩) (fun e=>Hxy.out e.symm) (by rw [(gr_at Hcy.out).1]; exact hvy),by simp⟩
    obtain ⟨c',e1,e2,_⟩:=Hu.out.root _ y cy (Nat.le_refl _) Hcy.out
    rw [Hry.out] at e1 e2
    exact Nat.le_of_lt (rootsOf_turn e1 e2 (fun e=>Hxy.out e.symm))
   ·have hvy':cy.sym.name.isEmpty=false:=by simpa using hvy
    have Hax:Hid (cx.sym.args=cx.kids.length):=by have:=HG.out.ar x hx; rw [(gr_at Hcx.out).1,(gr_at Hcx.out).2] at this; exact this
    have Hay:Hid (cy.sym.args=cy.kids.length):=by have:=HG.out.ar y hy; rw [(gr_at Hcy.out).1,(gr_at Hcy.out).2] at this; exact this
    have Hcl:Hid ((cx.sym.name≠cy.sym.name∨cx.kids.length≠cy.kids.length)→Clash (gr cs) ρ [a] [b]):=fun h=>by
     refine clash_names HG.out Hrt.out ha hb (Or.inl ⟨Hxe.out,Hye.out⟩) (by rw [(gr_at Hcx.out).1]; exact hvx) (by rw [(gr_at Hcy.out).1]; exact hvy) ?_
     rw [(gr_at Hcx.out).1,(gr_at Hcy.out).1,Hax.out,Hay.out]
     exact h
    by_cases hnm:cx.sym.name=cy.sym.name
    ·by_cases hkl:cx.kids.length=cy.kids.length
     ·have hkl':(cx.kids.length:Int)=cy.kids.length:=by omega
      have Hkl:=hide' hkl
      have Hnm:=hide' hnm
      have hk4:cx.kids.length≤4000:=by have:=Hk4.out x; rw [(gr_at Hcx.out).2] at this; exact this
      have hlt0:Hid (rootsOf (turn cs x y)<rootsOf cs):=by
       obtain ⟨c',e1,e2,_⟩:=Hu.out.root _ x cx (Nat.le_refl _) Hcx.out
       rw [Hrx.out] at e1 e2
       exact rootsOf_turn e1 e2 Hxy.out
      go_enter Tryz.func211,Tryz.ntmps211
      go_wp2_with fail
      refine Hra.out.mono ?_
      rintro e w1 ⟨rfl,rfl⟩
      go_wp2_with fail
      refine Hrb.out.mono ?_
      rintro e w1 ⟨rfl,rfl⟩
      go_wp2_with fail
      go_quiet (fail)
      go_wp2
      go_loopg [9] (cx.kids.length+1) (fun gk i wr=>∃ (k:Nat) (cs':List CellS) (ρ' rk':Nat→Nat),i = .int .i64 k∧k≤cx.kids.length∧cx.kids.length - k<gk∧CellsAt wr B (.slice (some ⟨g,0,none⟩) cs.length cap) cs' vs∧gr cs'=gr cs∧UpOk cs' ρ' rk'∧rootsOf cs'<rootsOf cs ∧
       Kept (ownOf (.slice (some ⟨g,0,none⟩) cs.length cap)) w1 wr∧Joined (gr cs) (mg ρ x y) ρ' (cx.kids.take k) (cy.kids.take k))
      case atStart =>
       exact ⟨0,turn cs x y,mg ρ x y,_,rfl,Nat.zero_le _,by omega,CellsAt.turn (w:=w1.drewN nq) (H.out.ext (fun _ _=>rfl)) hx y,gr_turn _ _ _,Hu.out.turn hx hy Hrx.out Hry.out Hxy.out,hlt0.out,((Kept.refl _ w1).drewN nq).trans (kept_own_set _ _ _ _ _ _),Joined.nil (by have:=(Hu.out.turn hx hy Hrx.out Hry.out Hxy.out).rt; rw [turn_len] at this; exact this)⟩
      case round =>
       obtain ⟨k,cs',ρ',rk',rfl,hk,hgk,hcs,hgr,hup,hrt',hkp,hj⟩:=hrel
       have hcl:=gr_len hgr
       obtain ⟨g1,cap1,cx',vx1,he1,hcx',hvx1,_,_,_,_,_,xx2,_,_,hkx'⟩:=hcs.at (i:=x) (by omega)
       obtain ⟨g2,cap2,cy',vy1,he2,hcy',hvy1,_,_,_,_,_,yy2,_,_,hky'⟩:=hcs.at (i:=y) (by omega)
       simp only [Value.slice.injEq,Option.some.injEq,Addr.mk.injEq] at he1 he2
       obtain ⟨⟨rfl,_⟩,hq1,rfl⟩:=he1
       obtain ⟨⟨rfl,_⟩,hq2,rfl⟩:=he2
       clear hq1 hq2
       rw [Hwx.out] at hvx1
       rw [Hwy.out] at hvy1
       simp only [Option.some.injEq] at hvx1 hvy1
       subst hvx1 hvy1
       rw [(gr_inv hgr Hcx.out hcx').2] at hkx'
       rw [(gr_inv hgr Hcy.out hcy').2] at hky'
       have Hcs:=hide' hcs
       have Hgr:=hide' hgr
       have Hup:=hide' hup
       have Hrt':=hide' hrt'
       have Hkp:=hide' hkp
       have Hj:=hide' hj
       clear hcs hgr hup hrt' hkp hj hcx' hcy' x0 x1 x2 x3 xf y0 y1 y2 y3 yf
       by_cases hlt:k<cx.kids.length
       ·obtain ⟨nx,hnx⟩:∃ n,cx.kids[k]?=some n:=⟨_,List.getElem?_eq_getElem hlt⟩
        obtain ⟨ny,hny⟩:∃ n,cy.kids[k]?=some n:=⟨_,List.getElem?_eq_getElem (Hkl.out ▸ hlt)⟩
        obtain ⟨gx,capx,curx,hex,_,_,hcpx⟩:=owns_some hkx' (by omega)
        simp only [Value.slice.injEq] at hex
        obtain ⟨rfl,_,rfl⟩:=hex
        obtain ⟨gy,capy,cury,hey,_,_,hcpy⟩:=owns_some hky' (by omega)
        simp only [Value.slice.injEq] at hey
        obtain ⟨rfl,_,rfl⟩:=hey
        have zx:wr.cell? ⟨gx,k,none⟩=some (.int .i64 nx):=owns_cell hkx' k _ (by simp [ints,hnx])
        have zy:wr.cell? ⟨gy,k,none⟩=some (.int .i64 ny):=owns_cell hky' k _ (by simp [ints,hny])
        have hnxl:nx<cs'.length:=by
         have:=HG.out.kl x hx nx (by rw [(gr_at Hcx.out).2]; exact List.mem_of_getElem? hnx)
         rw [hcl]; exact this
        have hnyl:ny<cs'.length:=by
         have:=HG.out.kl y hy ny (by rw [(gr_at Hcy.out).2]; exact List.mem_of_getElem? hny)
         rw [hcl]; exact this
        have HI:=hide' (Hih.out (rootsOf cs') (by have:=Hm.out; have:=Hrt'.out; omega) wr.drew B (.slice (some ⟨g,0,none⟩) cs.length cap) cs' vs ρ' rk' nx ny (Hcs.out.ext (fun _ _=>rfl)) Hup.out (by rw [Hgr.out]; exact HG.out) (Nat.le_refl _) hnxl hnyl (by omega) (by rw [Hgr.out]; exact Hk4.out))
        have Hnx:=hide' hnx
        have Hny:=hide' hny
        have hltn:k<cy.kids.length:=by omega
        clear hkx' hky' hnx hny hcl hkl hkl' hnm
        go_wp2_with fail
        refine region_last (by kernel_rfl) [.pur (.slice (some ⟨g,0,none⟩) cs.length cap),.pur (.slice (some ⟨g,0,none⟩) cs.length cap),.pur (.int .i64 x),.pur (.pointer (some ⟨g,x * 4,none⟩)),.pur (.pointer (some ⟨g,x * 4+2,none⟩)),.pur (.slice (some ⟨gx,0,none⟩) cx.kids.length xcap),.pur (.int .i64 k),.pur (.pointer (some ⟨gx,k,none⟩)),.pur (.int .i64 nx),
         .pur (.slice (some ⟨g,0,none⟩) cs.length cap),.pur (.int .i64 y),.pur (.pointer (some ⟨g,y * 4,none⟩)),.pur (.pointer (some ⟨g,y * 4+2,none⟩)),.pur (.slice (some ⟨gy,0,none⟩) cy.kids.length ycap),.pur (.int .i64 k),.pur (.pointer (some ⟨gy,k,none⟩)),.pur (.int .i64 ny),.cal,.post (fun v=>v)] 17 19 (by kernel_rfl)
         (fun v u=>∃ (q:Bool) (cs'':List CellS) (ρ'' rk'':Nat→Nat),v = .bool q∧CellsAt u B (.slice (some ⟨g,0,none⟩) cs.length cap) cs'' vs∧gr cs''=gr cs∧UpOk cs'' ρ'' rk''∧rootsOf cs''<rootsOf cs∧Kept (ownOf (.slice (some ⟨g,0,none⟩) cs.length cap)) wr u ∧
          (q=true→Joined (gr cs) ρ' ρ'' [nx] [ny])∧(q=false→Clash (gr cs) ρ' [nx] [ny]))
         (fun v u=>∃ (q:Bool) (cs'':List CellS) (ρ'' rk'':Nat→Nat),v = .bool q∧CellsAt u B (.slice (some ⟨g,0,none⟩) cs.length cap) cs'' vs∧gr cs''=gr cs∧UpOk cs'' ρ'' rk''∧rootsOf cs''<rootsOf cs∧Kept (ownOf (.slice (some ⟨g,0,none⟩) cs.length cap)) wr u ∧
          (q=true→Joined (gr cs) ρ' ρ'' [nx] [ny])∧(q=false→Clash (gr cs) ρ' [nx] [ny])) 211 #[.slice (some ⟨g,0,none⟩) cs.length cap,.int .i64 nx,.int .i64 ny] ?_ ?_ rfl (by decide) (Or.inr ⟨by decide,fun _ _ h=>h⟩) ?_
        ·refine HI.out.mono ?_
         rintro e u ⟨q,cs'',ρ'',rk'',rfl,h1,h2,h3,h4,h5,h6,h7⟩
         rw [Hgr.out] at h2 h6 h7
         exact ⟨_,rfl,q,cs'',ρ'',rk'',rfl,h1,h2,h3,by have:=Hrt'.out; omega,⟨h5.os,h5.tape,h5.output,h5.size,h5.block⟩,h6,h7⟩
        ·refine ⟨fun vc => ?_,fun vc => ?_,fun vc => ?_,fun vc => ?_,fun vc => ?_,fun vc => ?_,fun vc => ?_,fun vc => ?_,fun vc => ?_,fun vc => ?_,fun vc => ?_,fun vc => ?_,fun vc => ?_,fun vc => ?_,fun vc => ?_,fun vc => ?_,fun vc => ?_,fun vc => ?_,?_,trivial⟩
         all_goals try (simp [pa,Kd.val,go_sem,xx2,yy2,zx,zy,hlt,hltn,hx,hy]; done)
         intro vc u _
         simp [pa,Kd.val,go_sem]
        rintro vc w2 ⟨q,cs'',ρ'',rk'',rfl,h1,h2,h3,h4,h5,h6,h7⟩
        simp only [paAll,pa,Kd.val,if_true,Act.put]
        have J1:=hide' h1
        have J2:=hide' h2
        have J3:=hide' h3
        have J4:=hide' h4
        have J5:=hide' h5
        have J6:=hide' h6
        have J7:=hide' h7
        clear h1 h2 h3 h4 h5 h6 h7 xx2 yy2 zx zy
        have Hkk:Hid (∀ j ∈ cx.kids.take k,j<(gr cs).n):=fun j hj=>HG.out.kl x hx j (by rw [(gr_at Hcx.out).2]; exact List.mem_of_mem_take hj)
        have Hkk':Hid (∀ j ∈ cy.kids.take k,j<(gr cs).n):=fun j hj=>HG.out.kl y hy j (by rw [(gr_at Hcy.out).2]; exact List.mem_of_mem_take hj)
        cases q
        ·go_wp2
         refine bodyPost_ret (v := .bool false) (by simp [results,Tryz.results211,go_sem]) rfl ?_
         have hc:=Clash.snoc Hj.out (J7.out trivial) (cx.kids.drop (k+1)) (cy.kids.drop (k+1))
         rw [← take_drop_next Hnx.out,← take_drop_next Hny.out] at hc
         refine Or.inl ⟨rfl,cs'',J1.out,J2.out,⟨ρ'',rk'',J3.out⟩,Nat.le_of_lt J4.out,Hkp.out.trans J5.out,?_⟩
         exact clash_kids HG.out Hrt.out ha hb (Or.inl ⟨Hxe.out,Hye.out⟩) (by rw [(gr_at Hcx.out).1]; exact hvx) (by rw [(gr_at Hcx.out).1,(gr_at Hcy.out).1]; exact Hnm.out) (by rw [(gr_at Hcx.out).2,(gr_at Hcy.out).2]; exact hc)
        ·go_wp2
         go_roundg (cx.kids.length - k)
         case measure=>omega
         case rel =>
          have hj2:=Joined.snoc HG.out Hj.out (J6.out trivial) Hkk.out Hkk'.out
          rw [← take_next Hnx.out,← take_next Hny.out] at hj2
          exact ⟨k+1,cs'',ρ'',rk'',by go_num,by omega,by omega,J1.out,J2.out,J3.out,J4.out,Hkp.out.trans J5.out,hj2⟩
       ·have hek:k=cx.kids.length:=by omega
        subst hek
        have Hjj:Hid (Joined (gr cs) ρ ρ' [a] [b]):=by
         have hj3:=Hj.out
         rw [List.take_length,Hkl.out,List.take_length] at hj3
         exact Joined.name HG.out Hrt.out ha hb (Or.inl ⟨Hxe.out,Hye.out⟩) Hxy.out (by rw [(gr_at Hcx.out).1]; exact hvx) (by rw [(gr_at Hcx.out).1,(gr_at Hcy.out).1]; exact Hnm.out) (by rw [(gr_at Hcx.out).2,(gr_at Hcy.out).2]; exact hj3)
        clear hkx' hky' hcl hkl hkl' hnm
        go_wp2
        go_ret
        exact ⟨true,cs',ρ',rk',rfl,Hcs.out,Hgr.out,Hup.out,Nat.le_of_lt Hrt'.out,Hkp.out,fun _=>Hjj.out,by simp⟩
     ·have hkl':¬ (cx.kids.length:Int)=cy.kids.length:=by omega
      go_enter Tryz.func211,Tryz.ntmps211
      go_wp2_with fail
      refine Hra.out.mono ?_
      rintro e w1 ⟨rfl,rfl⟩
      go_wp2_with fail
      refine Hrb.out.mono ?_
      rintro e w1 ⟨rfl,rfl⟩
      go_wp2_with fail
      go_quiet (fail)
      go_wp2
      go_ret
      exact ⟨false,cs,ρ,rk,rfl,H.out.ext (fun _ _=>rfl),rfl,Hu.out,Nat.le_refl _,⟨rfl,rfl,rfl,Nat.le_refl _,fun _ _ _=>rfl⟩,by simp,fun _=>Hcl.out (Or.inr hkl)⟩
    ·go_enter Tryz.func211,Tryz.ntmps211
     go_wp2_with fail
     refine Hra.out.mono ?_
     rintro e w1 ⟨rfl,rfl⟩
     go_wp2_with fail
     refine Hrb.out.mono ?_
     rintro e w1 ⟨rfl,rfl⟩
     go_wp2_with fail
     go_quiet (fail)
     go_wp2
     go_ret
     exact ⟨false,cs,ρ,rk,rfl,H.out.ext (fun _ _=>rfl),rfl,Hu.out,Nat.le_refl _,⟨rfl,rfl,rfl,Nat.le_refl _,fun _ _ _=>rfl⟩,by simp,fun _=>Hcl.out (Or.inl hnm)⟩
theorem joined_any (m:Nat):JoinedSaid m:=by
 induction m using Nat.strongRecOn with
 | _ m ih=>exact joined_step m ih
def fresh (st:List Nat):Nat:=(st.filter (fun n=>n == 0)).length
theorem fresh_set:∀ {st:List Nat} {x:Nat},st[x]?=some 0→fresh (st.set x 1)<fresh st:=by
 intro st
 induction st with
 | nil=>intro x h; simp at h
 | cons n st ih =>
  intro x h
  cases x with
  | zero=>simp at h; subst h; simp [fresh]
  | succ x =>
   have:=ih (x:=x) (by simpa using h)
   simp only [fresh,List.set_cons_succ,List.filter_cons] at this ⊢
   split <;> simp <;> omega
theorem fresh_set2:∀ {st:List Nat} {x:Nat},fresh (st.set x 2)≤fresh st:=by
 intro st
 induction st with
 | nil=>intro x; simp [fresh]
 | cons n st ih =>
  intro x
  cases x with
  | zero=>simp [fresh,List.filter_cons]; split <;> simp
  | succ x =>
   have:=ih (x:=x)
   simp only [fresh,List.set_cons_succ,List.filter_cons] at this ⊢
   split <;> simp <;> omega
def dn (st:List Nat):Nat→Prop:=fun i=>st[i]?=some 2
def on (st:List Nat):Nat→Prop:=fun i=>st[i]?=some 1
theorem CellsAt.other {w w':World} {B Bs n:Nat} {lv sv:Value} {cs:List CellS} {vs xs:List Value} (h:CellsAt w B lv cs vs) (hs:w.ownsRow Bs 3 1 sv n xs) (hap:∀ (j:Nat) (c:CellS) (v:Value),cs[j]?=some c→vs[j]?=some v→∀ k,v.ownBlock=some k→¬ ownOf sv k)
  (hk:Kept (ownOf sv) w w'):CellsAt w' B lv cs vs :=
 ⟨h.len,hk.owns h.owns (fun k e=>by
  obtain ⟨cur,hc⟩:=owns_terms h.owns k e
  exact owns_apart hs (by decide) hc),fun i c v h1 h2=>hk.owns (h.kids i c v h1 h2) (fun k e=>hap i c v h1 h2 k e)⟩
theorem ints_set (l:List Nat) (i n:Nat):(ints l).set i (.int .i64 n)=ints (l.set i n):=by simp [ints,List.map_set]
theorem on_set1 {st:List Nat} {x:Nat} (h:st[x]?=some 0) (j:Nat):on (st.set x 1) j↔on st j∨j=x:=by
 have hx:=(List.getElem?_eq_some_iff.1 h).1
 unfold on
 rw [List.getElem?_set]
 by_cases e:x=j
 ·subst e; simp [hx]
 ·simp [e]; exact fun e'=>absurd e'.symm e
theorem dn_set1 {st:List Nat} {x:Nat} (h:st[x]?=some 0) (j:Nat):dn (st.set x 1) j↔dn st j:=by
 have hx:=(List.getElem?_eq_some_iff.1 h).1
 unfold dn
 rw [List.getElem?_set]
 by_cases e:x=j
 ·subst e; rw [h]; simp [hx]
 ·simp [e]
theorem dn_set2 {st:List Nat} {x:Nat} (hx:x<st.length) (j:Nat):dn (st.set x 2) j↔dn st j∨j=x:=by
 unfold dn
 rw [List.getElem?_set]
 by_cases e:x=j
 ·subst e; simp [hx]
 ·simp [e]; exact fun e'=>absurd e'.symm e
theorem on_set2 {st:List Nat} {x:Nat} (hx:x<st.length) (j:Nat):on (st.set x 2) j↔on st j∧j≠x:=by
 unfold on
 rw [List.getElem?_set]
 by_cases e:x=j
 ·subst e; simp [hx]
 ·simp [e]; exact fun _ e'=>absurd e'.symm e
theorem mem_set_le {st:List Nat} {x v:Nat} (h:∀ n ∈ st,n≤2) (hv:v≤2):∀ n ∈ st.set x v,n≤2:=by
 intro n hn
 rcases List.mem_or_eq_of_mem_set hn with h' | rfl
 ·exact h n h'
 ·exact hv
theorem Known.congr {G:Gr} {ρ:Nat→Nat} {D D':Nat→Prop} {T T':Nat→List Sym} (h:Known G ρ D T) (hd:∀ i,D' i↔D i) (ht:∀ i,D i→T' i=T i):Known G ρ D' T':=by
 refine ⟨fun r hr=>h.lt r ((hd r).1 hr),fun r hr => ?_,fun r hr k hk=>(hd _).2 (h.kid r ((hd r).1 hr) k hk)⟩
 have hr':=(hd r).1 hr
 rw [ht r hr',h.tm r hr']
 congr 2
 exact List.map_congr_left (fun k hk=>(ht _ (h.kid r hr' k hk)).symm)
def EndsSaid (m:Nat):Prop:=∀ (w:World) (B Bs:Nat) (lv sv:Value) (cs:List CellS) (vs:List Value) (ρ rk:Nat→Nat) (st:List Nat) (T:Nat→List Sym) (i:Nat),CellsAt w B lv cs vs→UpOk cs ρ rk→(gr cs).Ok→w.ownsRow Bs 3 1 sv st.length (ints st) →
 (∀ (j:Nat) (c:CellS) (v:Value),cs[j]?=some c→vs[j]?=some v→∀ k,v.ownBlock=some k→¬ ownOf sv k)→st.length=cs.length→(∀ n ∈ st,n≤2)→fresh st≤m→i<cs.length→cs.length≤4000→(∀ j,((gr cs).kids j).length≤4000)→Known (gr cs) ρ (dn st) T →
 Calls Tryz.prog 212 #[lv,.int .i64 i,sv] w fun e w'=>∃ (qv:Value) (st':List Nat) (T':Nat→List Sym),e = .returned qv∧w'.ownsRow Bs 3 1 sv st'.length (ints st')∧Kept (ownOf sv) w w'∧st'.length=st.length ∧
  ((qv = .bool true∧(∀ n ∈ st',n≤2)∧fresh st'≤fresh st∧Known (gr cs) ρ (dn st') T'∧dn st' (ρ i)∧(∀ j,on st' j↔on st j)∧(∀ j,dn st j→dn st' j∧T' j=T j))∨(qv = .bool false∧Stuck (gr cs) ρ (on st) i))
set_option maxRecDepth 10000 in
set_option maxHeartbeats 4000000 in
theorem ends_step (m:Nat) (IH:∀ k,k<m→EndsSaid k):EndsSaid m:=by
 intro w B Bs lv sv cs vs ρ rk st T i h hu hG hs hap hsl h2 hm hi hl hk4 hK
 have hrt:=hu.rt
 have hx:=hrt.lt i hi
 have rx:=hrt.idem i hi
 obtain ⟨x,hxe⟩:∃ x,x=ρ i:=⟨_,rfl⟩
 rw [← hxe] at hx rx
 obtain ⟨g,cap,cx,vx,rfl,hcx,hvx,hB,hgl,hcap,x0,x1,x2,x3,xf,hkx⟩:=h.at hx
 obtain ⟨xa,xcap,rfl⟩:=owns_slice hkx
 obtain ⟨gs,scap,scur,rfl,hBs,hsb,hscap⟩:=owns_some hs (by omega)
 obtain ⟨n,hn⟩:∃ n,st[x]?=some n:=⟨_,List.getElem?_eq_getElem (by omega)⟩
 have s0:w.cell? ⟨gs,x,none⟩=some (.int .i64 n):=owns_cell hs x _ (by simp [ints,hn])
 have sf:∀ j,w.frozen? ⟨gs,j,none⟩=false:=fun j=>thawed_of_block hsb j
 have hn2:=h2 n (List.mem_of_getElem? hn)
 have hxs:x<st.length:=by omega
 have Hr:=hide' (root_any w B _ cs vs ρ rk i h hu hi hl)
 rw [← hxe] at Hr
 have H:=hide' h
 have Hu:=hide' hu
 have HG:=hide' hG
 have Hm:=hide' hm
 have Hih:=hide' IH
 have Hxe:=hide' hxe
 have Hrx:=hide' rx
 have Hcx:=hide' hcx
 have Hkx:=hide' hkx
 have Hs:=hide' hs
 have Hap:=hide' hap
 have H2:=hide' h2
 have HK:=hide' hK
 have Hn:=hide' hn
 have Hwx:=hide' hvx
 have Hk4:=hide' hk4
 have Hsl:=hide' hsl
 clear hsl
 clear h hu hG hm IH hxe rx hcx hkx hs hap h2 hK hn hvx hrt hsb hk4
 have hcase:n=0∨n=1∨n=2:=by omega
 rcases hcase with rfl | rfl | rfl
 ·have hk4:cx.kids.length≤4000:=by have:=Hk4.out x; rw [(gr_at Hcx.out).2] at this; exact this
  go_enter Tryz.func212,Tryz.ntmps212
  go_wp2_with fail
  refine Hr.out.mono ?_
  rintro e w1 ⟨rfl,rfl⟩
  go_wp2
  go_loopg [8] (cx.kids.length+1) (fun gk iv wr=>∃ (k:Nat) (st':List Nat) (T':Nat→List Sym),iv = .int .i64 k∧k≤cx.kids.length∧cx.kids.length - k<gk∧wr.ownsRow Bs 3 1 (.slice (some ⟨gs,0,none⟩) st.length scap) st'.length (ints st')∧Kept (ownOf (.slice (some ⟨gs,0,none⟩) st.length scap)) w1 wr ∧
    st'.length=st.length∧(∀ n ∈ st',n≤2)∧fresh st'<fresh st∧Known (gr cs) ρ (dn st') T'∧(∀ j ∈ cx.kids.take k,dn st' (ρ j))∧(∀ j,on st' j↔on st j∨j=x)∧(∀ j,dn st j→dn st' j∧T' j=T j))
  case atStart =>
   refine ⟨0,st.set x 1,T,by go_num,Nat.zero_le _,by omega,?_,kept_own_set _ _ _ _ _ _,by simp,mem_set_le H2.out (by omega),fresh_set Hn.out,HK.out.congr (dn_set1 Hn.out) (fun _ _=>rfl),by simp,on_set1 Hn.out,fun j hj=>⟨(dn_set1 Hn.out j).2 hj,rfl⟩⟩
   have:=owns_set Hs.out x (.int .i64 1)
   have e1:(ints st).set x (.int .i64 1)=ints (st.set x 1):=ints_set st x 1
   rw [e1] at this
   simpa using this
  case round =>
   obtain ⟨k,st',T',rfl,hk,hgk,hown,hkp,hlen,hle,hfr,hkn,hkd,hon,hold⟩:=hrel
   obtain ⟨_,_,cx',vx1,he1,hcx',hvx1,_,_,_,_,_,xx2,_,_,hkx'⟩:=(H.out.other Hs.out Hap.out hkp).at (i:=x) (by omega)
   simp only [Value.slice.injEq,Option.some.injEq,Addr.mk.injEq] at he1
   obtain ⟨⟨rfl,_⟩,hq1,rfl⟩:=he1
   clear hq1
   rw [Hwx.out] at hvx1
   rw [Hcx.out] at hcx'
   simp only [Option.some.injEq] at hvx1 hcx'
   subst hvx1 hcx'
   have Hcs:=hide' (H.out.other Hs.out Hap.out hkp)
   have Hown:=hide' hown
   have Hkp:=hide' hkp
   have Hlen:=hide' hlen
   have Hle:=hide' hle
   have Hfr:=hide' hfr
   have Hkn:=hide' hkn
   have Hkd:=hide' hkd
   have Hon:=hide' hon
   have Hold:=hide' hold
   have hsb':∃ cur,wr.heap[gs]?=some (.cells cur 3 (0,0)):=owns_terms hown gs rfl
   clear hown hkp hlen hle hfr hkn hkd hon hold x0 x1 x2 x3 xf s0 sf
   by_cases hlt:k<cx.kids.length
   ·obtain ⟨nx,hnx⟩:∃ n,cx.kids[k]?=some n:=⟨_,List.getElem?_eq_getElem hlt⟩
    obtain ⟨gx,capx,curx,hex,_,_,hcpx⟩:=owns_some hkx' (by omega)
    simp only [Value.slice.injEq] at hex
    obtain ⟨rfl,_,rfl⟩:=hex
    have zx:wr.cell? ⟨gx,k,none⟩=some (.int .i64 nx):=owns_cell hkx' k _ (by simp [ints,hnx])
    have Hmem:Hid (nx ∈ (gr cs).kids (ρ i)):=by show _ ∈ _; rw [← Hxe.out,(gr_at Hcx.out).2]; exact List.mem_of_getElem? hnx
    have hnxl:nx<cs.length:=HG.out.kl x hx nx (by rw [(gr_at Hcx.out).2]; exact List.mem_of_getElem? hnx)
    have HI:=hide' (Hih.out (fresh st') (by have:=Hm.out; have:=Hfr.out; omega) wr B Bs (.slice (some ⟨g,0,none⟩) cs.length cap) (.slice (some ⟨gs,0,none⟩) st.length scap) cs vs ρ rk st' T' nx Hcs.out Hu.out HG.out Hown.out Hap.out (Hlen.out.trans Hsl.out) Hle.out (Nat.le_refl _) hnxl hl Hk4.out Hkn.out)
    have Hnx:=hide' hnx
    clear hkx' hnx hsb'
    go_wp2_with fail
    refine HI.out.mono ?_
    rintro e w2 ⟨qv,st'',T'',rfl,h1,h2,h3,⟨rfl,h4,h5,h6,h7,h8,h9⟩ | ⟨rfl,h4⟩⟩
    ·have J:=hide' (And.intro h1 (And.intro h2 (And.intro h3 (And.intro h4 (And.intro h5 (And.intro h6 (And.intro h7 (And.intro h8 h9))))))))
     clear h1 h2 h3 h4 h5 h6 h7 h8 h9 xx2 zx
     go_wp2
     go_roundg (cx.kids.length - k)
     case measure=>omega
     case rel =>
      obtain ⟨h1,h2,h3,h4,h5,h6,h7,h8,h9⟩:=J.out
      refine ⟨k+1,st'',T'',by go_num,by omega,by omega,h1,Hkp.out.trans h2,h3.trans Hlen.out,h4,by have:=Hfr.out; omega,h6,?_,fun j=>(h8 j).trans (Hon.out j),fun j hj=>⟨(h9 j (Hold.out j hj).1).1,(h9 j (Hold.out j hj).1).2.trans (Hold.out j hj).2⟩⟩
      intro j hj
      rw [take_next Hnx.out] at hj
      rcases List.mem_append.1 hj with hj | hj
      ·exact (h9 _ (Hkd.out j hj)).1
      ·simp at hj; subst hj; exact h7
    ·have J:=hide' (And.intro h1 (And.intro h2 (And.intro h3 h4)))
     clear h1 h2 h3 h4 xx2 zx
     go_wp2
     refine bodyPost_ret (v := .bool false) (by simp [results,Tryz.results212,go_sem]) rfl ?_
     obtain ⟨h1,h2,h3,h4⟩:=J.out
     have hst:Stuck (gr cs) ρ (on st) i:=Stuck.up HG.out hi (by rw [← Hxe.out]; exact hx) Hmem.out (fun val hv hc=>by
      obtain ⟨r,hr,hle⟩:=h4 val hv hc
      exact ⟨r,by rw [← Hxe.out]; exact (Hon.out r).1 hr,hle⟩)
     exact ⟨_,st'',T,rfl,h1,Hkp.out.trans h2,h3.trans Hlen.out,Or.inr ⟨rfl,hst⟩⟩
   ·have hek:k=cx.kids.length:=by omega
    subst hek
    obtain ⟨cur',hcur'⟩:=hsb'
    have zs:∃ u,wr.cell? ⟨gs,x,none⟩=some u:=by
     have hl':=Hlen.out
     have ho:=Hown.out
     rw [hl'] at ho
     have hxl:x<st'.length:=by omega
     exact ⟨_,owns_cell ho x (.int .i64 (st'[x]'hxl)) (by simp [ints,hxl])⟩
    obtain ⟨u,zs⟩:=zs
    have zf:∀ j,wr.frozen? ⟨gs,j,none⟩=false:=fun j=>thawed_of_block hcur' j
    clear hkx' hcur'
    go_wp2
    refine bodyPost_ret (v := .bool true) (by simp [results,Tryz.results212,go_sem]) rfl ?_
    have hl':=Hlen.out
    have hxl:x<st'.length:=by omega
    have hnd:¬ dn st' x:=fun hd=>by
     have:=(Hon.out x).2 (Or.inr rfl)
     unfold on at this
     unfold dn at hd
     rw [this] at hd
     simp at hd
    have hkd:=Hkd.out
    rw [List.take_length] at hkd
    have hKn:=Hkn.out.more (r:=x) hx Hrx.out hnd (by rw [(gr_at Hcx.out).2]; exact hkd)
    refine ⟨_,st'.set x 2,_,rfl,?_,Hkp.out.trans (kept_own_set _ _ _ _ _ _),by simpa using hl',Or.inl ⟨rfl,mem_set_le Hle.out (by omega),Nat.le_trans fresh_set2 (Nat.le_of_lt Hfr.out),hKn.congr (dn_set2 hxl) (fun _ _=>rfl),by rw [← Hxe.out]; exact (dn_set2 hxl x).2 (Or.inr rfl),?_,?_⟩⟩
    ·have ho:=Hown.out
     rw [hl'] at ho
     have:=owns_set ho x (.int .i64 2)
     have e1:(ints st').set x (.int .i64 2)=ints (st'.set x 2):=ints_set st' x 2
     rw [e1] at this
     simpa [hl'] using this
    ·intro j
     rw [on_set2 hxl,Hon.out]
     constructor
     ·rintro ⟨h | h,hne⟩
      ·exact h
      ·exact absurd h hne
     ·intro h
      refine ⟨Or.inl h,fun e => ?_⟩
      subst e
      unfold on at h
      rw [Hn.out] at h
      simp at h
    ·intro j hj
     refine ⟨(dn_set2 hxl j).2 (Or.inl (Hold.out j hj).1),?_⟩
     have hjx:j≠x:=fun e=>by
      subst e
      unfold dn at hj
      rw [Hn.out] at hj
      simp at hj
     show (if j=x then _ else T' j)=T j
     rw [if_neg hjx]
     exact (Hold.out j hj).2
 ·go_enter Tryz.func212,Tryz.ntmps212
  go_wp2_with fail
  refine Hr.out.mono ?_
  rintro e w1 ⟨rfl,rfl⟩
  go_wp2
  refine bodyPost_ret (v := .bool false) (by simp [results,Tryz.results212,go_sem]) rfl ?_
  exact ⟨_,st,T,rfl,Hs.out,Kept.refl _ _,rfl,Or.inr ⟨rfl,Stuck.here hi (by rw [← Hxe.out]; exact Hn.out)⟩⟩
 ·go_enter Tryz.func212,Tryz.ntmps212
  go_wp2_with fail
  refine Hr.out.mono ?_
  rintro e w1 ⟨rfl,rfl⟩
  go_wp2
  refine bodyPost_ret (v := .bool true) (by simp [results,Tryz.results212,go_sem]) rfl ?_
  exact ⟨_,st,T,rfl,Hs.out,Kept.refl _ _,rfl,Or.inl ⟨rfl,H2.out,Nat.le_refl _,HK.out,by rw [← Hxe.out]; exact Hn.out,fun _=>Iff.rfl,fun j hj=>⟨hj,rfl⟩⟩⟩
theorem ends_any (m:Nat):EndsSaid m:=by
 induction m using Nat.strongRecOn with
 | _ m ih=>exact ends_step m ih
def UniqV (cs:List CellS):Prop:=∀ (i j:Nat) c d,cs[i]?=some c→cs[j]?=some d→c.sym.name=[]→d.sym.name=[]→c.sym.num=d.sym.num→i=j
structure LaidL (cs cs':List CellS) (ks:List Nat) (ts:List (List Sym)):Prop where
 ext:∃ new,cs'=cs++new
 kl:∀ k ∈ ks,k<cs'.length
 up:∀ (i:Nat) c,cs.length≤i→cs'[i]?=some c→c.up=i
 ok:∀ (i:Nat) c,cs.length≤i→cs'[i]?=some c→c.sym.args=c.kids.length∧(∀ k ∈ c.kids,k<cs'.length)∧(c.sym.name=[]→c.kids=[])∧(c.sym.name≠[]→c.sym.num=0)∧c.kids.length≤4000
 occ:∀ (i:Nat) c,cs.length≤i→cs'[i]?=some c→c.sym.name=[]→Occ c.sym.num ts.flatten
 uniq:UniqV cs→UniqV cs'
 tm:∀ tm0:Nat→List Sym,(∀ (i:Nat) c,cs[i]?=some c→c.sym.name=[]→tm0 i=vr c.sym.num)→∃ tm:Nat→List Sym,(∀ i,i<cs.length→tm i=tm0 i)∧(∀ (i:Nat) c,cs.length≤i→cs'[i]?=some c→tm i=c.sym::(c.kids.map tm).flatten)∧ks.map tm=ts
 len:cs'.length≤cs.length+ts.flatten.length
theorem LaidL.low {cs cs':List CellS} {ks:List Nat} {ts:List (List Sym)} (h:LaidL cs cs' ks ts) {i:Nat} (hi:i<cs.length):cs'[i]?=cs[i]?:=by
 obtain ⟨new,rfl⟩:=h.ext
 exact List.getElem?_append_left hi
theorem LaidL.le {cs cs':List CellS} {ks:List Nat} {ts:List (List Sym)} (h:LaidL cs cs' ks ts):cs.length≤cs'.length:=by
 obtain ⟨new,rfl⟩:=h.ext
 simp
theorem LaidL.nil (cs:List CellS):LaidL cs cs [] [] :=
 ⟨⟨[],by simp⟩,by simp,fun i c h h'=>by have:=(List.getElem?_eq_some_iff.1 h').1; omega,fun i c h h'=>by have:=(List.getElem?_eq_some_iff.1 h').1; omega,fun i c h h'=>by have:=(List.getElem?_eq_some_iff.1 h').1; omega,fun h=>h,
  fun tm0 _=>⟨tm0,fun _ _=>rfl,fun i c h h'=>by have:=(List.getElem?_eq_some_iff.1 h').1; omega,rfl⟩,by simp⟩
theorem sym_var {s:Sym} (h:s.name=[]) (ha:s.args=0):[s]=vr s.num:=by cases s; simp at h ha; subst h ha; rfl
theorem LaidL.snoc {cs cs1 cs2:List CellS} {ks:List Nat} {ts:List (List Sym)} {k:Nat} {t:List Sym} (h:LaidL cs cs1 ks ts) (h':LaidL cs1 cs2 [k] [t]):LaidL cs cs2 (ks++[k]) (ts++[t]):=by
 have hle:=h.le
 have hle':=h'.le
 have hat:∀ (i:Nat) c,cs2[i]?=some c→(cs1[i]?=some c∧i<cs1.length)∨cs1.length≤i:=fun i c hc=>by
  rcases Nat.lt_or_ge i cs1.length with hi | hi
  ·rw [h'.low hi] at hc; exact Or.inl ⟨hc,hi⟩
  ·exact Or.inr hi
 refine ⟨?_,?_,?_,?_,?_,fun hu=>h'.uniq (h.uniq hu),?_,?_⟩
 ·obtain ⟨n1,rfl⟩:=h.ext
  obtain ⟨n2,rfl⟩:=h'.ext
  exact ⟨n1++n2,by simp⟩
 ·intro j hj
  rcases List.mem_append.1 hj with hj | hj
  ·have:=h.kl j hj; omega
  ·exact h'.kl j hj
 ·intro i c hi hc
  rcases hat i c hc with ⟨h1,_⟩ | h1
  ·exact h.up i c hi h1
  ·exact h'.up i c h1 hc
 ·intro i c hi hc
  rcases hat i c hc with ⟨h1,_⟩ | h1
  ·obtain ⟨a1,a2,a3,a4,a5⟩:=h.ok i c hi h1
   exact ⟨a1,fun k hk=>by have:=a2 k hk; omega,a3,a4,a5⟩
  ·exact h'.ok i c h1 hc
 ·intro i c hi hc hn
  rw [List.flatten_append,occ_append]
  rcases hat i c hc with ⟨h1,_⟩ | h1
  ·exact Or.inl (h.occ i c hi h1 hn)
  ·exact Or.inr (h'.occ i c h1 hc hn)
 ·intro tm0 h0
  obtain ⟨tm1,e1,e2,e3⟩:=h.tm tm0 h0
  obtain ⟨tm2,f1,f2,f3⟩:=h'.tm tm1 (fun i c hc hn=>by
   rcases Nat.lt_or_ge i cs.length with hi | hi
   ·rw [e1 i hi]
    rw [h.low hi] at hc
    exact h0 i c hc hn
   ·obtain ⟨a1,_,a3,_⟩:=h.ok i c hi hc
    rw [e2 i c hi hc,a3 hn]
    simp only [List.map_nil,List.flatten_nil]
    exact sym_var hn (by rw [a1,a3 hn]; rfl))
  refine ⟨tm2,fun i hi=>(f1 i (by omega)).trans (e1 i hi),?_,?_⟩
  ·intro i c hi hc
   rcases hat i c hc with ⟨h1,hlt⟩ | h1
   ·rw [f1 i hlt,e2 i c hi h1]
    congr 2
    exact List.map_congr_left (fun k hk=>(f1 k ((h.ok i c hi h1).2.1 k hk)).symm)
   ·exact f2 i c h1 hc
  ·rw [List.map_append,f3]
   congr 1
   rw [← e3]
   exact List.map_congr_left (fun k hk=>f1 k (h.kl k hk))
 ·have:=h.len
  have:=h'.len
  simp only [List.flatten_append,List.length_append] at *
  omega
theorem LaidL.hit {cs:List CellS} {i n:Nat} {c:CellS} (hc:cs[i]?=some c) (hn:c.sym.name=[]) (hv:c.sym.num=n):LaidL cs cs [i] [vr n]:=by
 have hi:=(List.getElem?_eq_some_iff.1 hc).1
 refine ⟨⟨[],by simp⟩,by simpa using hi,fun i c h h'=>by have:=(List.getElem?_eq_some_iff.1 h').1; omega,fun i c h h'=>by have:=(List.getElem?_eq_some_iff.1 h').1; omega,fun i c h h'=>by have:=(List.getElem?_eq_some_iff.1 h').1; omega,fun h=>h,fun tm0 h0 => ?_,by simp⟩
 exact ⟨tm0,fun _ _=>rfl,fun i c h h'=>by have:=(List.getElem?_eq_some_iff.1 h').1; omega,by simp [h0 i c hc hn,hv]⟩
theorem LaidL.miss {cs:List CellS} {n:Nat} (hm:∀ (i:Nat) c,cs[i]?=some c→c.sym.name=[]→c.sym.num≠n):LaidL cs (cs++[⟨⟨[],n,0⟩,[],cs.length⟩]) [cs.length] [vr n]:=by
 have hat:∀ (i:Nat) c,(cs++[(⟨⟨[],n,0⟩,[],cs.length⟩:CellS)])[i]?=some c→cs[i]?=some c∨(i=cs.length∧c=⟨⟨[],n,0⟩,[],cs.length⟩):=fun i c hc=>by
  rcases Nat.lt_or_ge i cs.length with hi | hi
  ·rw [List.getElem?_append_left hi] at hc; exact Or.inl hc
  ·have:=(List.getElem?_eq_some_iff.1 hc).1
   simp at this
   have e:i=cs.length:=by omega
   subst e
   simp at hc
   exact Or.inr ⟨rfl,hc.symm⟩
 have hnew:∀ (i:Nat) c,cs.length≤i→(cs++[(⟨⟨[],n,0⟩,[],cs.length⟩:CellS)])[i]?=some c→i=cs.length∧c=⟨⟨[],n,0⟩,[],cs.length⟩:=fun i c hi hc=>by
  rcases hat i c hc with h | h
  ·have:=(List.getElem?_eq_some_iff.1 h).1; omega
  ·exact h
 refine ⟨⟨_,rfl⟩,by simp,?_,?_,?_,?_,?_,by simp [vr]⟩
 ·intro i c hi hc; obtain ⟨rfl,rfl⟩:=hnew i c hi hc; rfl
 ·intro i c hi hc; obtain ⟨rfl,rfl⟩:=hnew i c hi hc; simp
 ·intro i c hi hc _; obtain ⟨rfl,rfl⟩:=hnew i c hi hc; exact occ_append.2 (Or.inl (occ_vr.2 rfl))
 ·intro hu i j c d hc hd h1 h2 h3
  rcases hat i c hc with hc' | ⟨rfl,rfl⟩
  ·rcases hat j d hd with hd' | ⟨rfl,rfl⟩
   ·exact hu i j c d hc' hd' h1 h2 h3
   ·exact absurd h3 (hm i c hc' h1)
  ·rcases hat j d hd with hd' | ⟨rfl,rfl⟩
   ·exact absurd h3.symm (hm j d hd' h2)
   ·rfl
 ·intro tm0 _
  refine ⟨fun i=>if i=cs.length then vr n else tm0 i,fun i hi=>by simp [show i≠cs.length by omega],?_,by simp⟩
  intro i c hi hc
  obtain ⟨rfl,rfl⟩:=hnew i c hi hc
  simp [vr]
def fill (cs:List CellS) (x:Nat) (ks:List Nat):List CellS:=cs.modify x (fun c => { c with kids:=ks })
theorem fill_len (cs:List CellS) (x:Nat) (ks:List Nat):(fill cs x ks).length=cs.length:=by simp [fill]
theorem fill_at (cs:List CellS) (x:Nat) (ks:List Nat) (i:Nat):(fill cs x ks)[i]?=(cs[i]?).map (fun c=>if x=i then { c with kids:=ks } else c):=by
 simp only [fill,List.getElem?_modify]
 cases cs[i]? with
 | none=>rfl
 | some c=>simp
theorem LaidL.name {cs cs':List CellS} {nm:List UInt8} {ls:List (List Sym)} {ks:List Nat} (hn:nm≠[]) (hl:ls.length≤4000) (h:LaidL (cs++[⟨⟨nm,0,ls.length⟩,[],cs.length⟩]) cs' ks ls):LaidL cs (fill cs' cs.length ks) [cs.length] [⟨nm,0,ls.length⟩::ls.flatten]:=by
 obtain ⟨new,he⟩:=h.ext
 have hlen:(cs++[(⟨⟨nm,0,ls.length⟩,[],cs.length⟩:CellS)]).length=cs.length+1:=by simp
 have hle:=h.le
 rw [hlen] at hle
 have hkl:ks.length=ls.length:=by
  obtain ⟨tm,_,_,e⟩:=h.tm (fun i=>((cs++[(⟨⟨nm,0,ls.length⟩,[],cs.length⟩:CellS)])[i]?.map (fun c=>vr c.sym.num)).getD []) (fun i c hc _=>by rw [hc]; rfl)
  simpa using congrArg List.length e
 have hx:cs'[cs.length]?=some ⟨⟨nm,0,ls.length⟩,[],cs.length⟩:=by rw [he]; simp
 have hfx:(fill cs' cs.length ks)[cs.length]?=some ⟨⟨nm,0,ls.length⟩,ks,cs.length⟩:=by rw [fill_at,hx]; simp
 have hfo:∀ i,i≠cs.length→(fill cs' cs.length ks)[i]?=cs'[i]?:=fun i hi=>by
  rw [fill_at]
  cases cs'[i]? with
  | none=>rfl
  | some c=>simp; intro e; exact absurd e.symm hi
 have hcase:∀ (i:Nat) c,cs.length≤i→(fill cs' cs.length ks)[i]?=some c→(i=cs.length∧c=⟨⟨nm,0,ls.length⟩,ks,cs.length⟩)∨(cs.length+1≤i∧cs'[i]?=some c):=fun i c hi hc=>by
  by_cases e:i=cs.length
  ·subst e; rw [hfx] at hc; exact Or.inl ⟨rfl,(Option.some.inj hc).symm⟩
  ·rw [hfo i e] at hc; exact Or.inr ⟨by omega,hc⟩
 refine ⟨?_,?_,?_,?_,?_,?_,?_,?_⟩
 ·refine ⟨⟨⟨nm,0,ls.length⟩,ks,cs.length⟩::new,?_⟩
  apply List.ext_getElem?
  intro i
  rcases Nat.lt_or_ge i cs.length with hi | hi
  ·rw [hfo i (by omega),he,List.append_assoc,List.getElem?_append_left hi,List.getElem?_append_left hi]
  ·by_cases e:i=cs.length
   ·subst e; rw [hfx]; simp
   ·rw [hfo i e,he,List.append_assoc,List.getElem?_append_right hi,List.getElem?_append_right hi]
    cases hj:i - cs.length with
    | zero=>omega
    | succ j=>simp
 ·rw [fill_len]; simp; omega
 ·intro i c hi hc
  rcases hcase i c hi hc with ⟨rfl,rfl⟩ | ⟨h1,h2⟩
  ·rfl
  ·exact h.up i c (by rw [hlen]; exact h1) h2
 ·intro i c hi hc
  rw [fill_len]
  rcases hcase i c hi hc with ⟨rfl,rfl⟩ | ⟨h1,h2⟩
  ·exact ⟨hkl.symm,h.kl,fun e=>absurd e hn,fun _=>rfl,by simp only; omega⟩
  ·exact h.ok i c (by rw [hlen]; exact h1) h2
 ·intro i c hi hc hv
  rcases hcase i c hi hc with ⟨rfl,rfl⟩ | ⟨h1,h2⟩
  ·exact absurd hv hn
  ·obtain ⟨s,hs,h3⟩:=h.occ i c (by rw [hlen]; exact h1) h2 hv
   exact ⟨s,by simp; exact Or.inr (List.mem_flatten.1 hs),h3⟩
 ·intro hu
  have hu1:UniqV (cs++[⟨⟨nm,0,ls.length⟩,[],cs.length⟩]):=by
   intro i j c d hc hd h1 h2 h3
   have hat:∀ (i:Nat) c,(cs++[(⟨⟨nm,0,ls.length⟩,[],cs.length⟩:CellS)])[i]?=some c→c.sym.name=[]→cs[i]?=some c:=fun i c hc hv=>by
    rcases Nat.lt_or_ge i cs.length with hi | hi
    ·rw [List.getElem?_append_left hi] at hc; exact hc
    ·have:=(List.getElem?_eq_some_iff.1 hc).1
     simp at this
     have e:i=cs.length:=by omega
     subst e
     simp at hc
     subst hc
     exact absurd hv hn
   exact hu i j c d (hat i c hc h1) (hat j d hd h2) h1 h2 h3
  have hu2:=h.uniq hu1
  have hat:∀ (i:Nat) c,(fill cs' cs.length ks)[i]?=some c→c.sym.name=[]→cs'[i]?=some c:=fun i c hc hv=>by
   by_cases e:i=cs.length
   ·subst e; rw [hfx] at hc; simp at hc; subst hc; exact absurd hv hn
   ·rw [hfo i e] at hc; exact hc
  intro i j c d hc hd h1 h2 h3
  exact hu2 i j c d (hat i c hc h1) (hat j d hd h2) h1 h2 h3
 ·intro tm0 h0
  obtain ⟨tm,e1,e2,e3⟩:=h.tm (fun i=>if i=cs.length then ⟨nm,0,ls.length⟩::ls.flatten else tm0 i) (fun i c hc hv=>by
   rcases Nat.lt_or_ge i cs.length with hi | hi
   ·rw [List.getElem?_append_left hi] at hc
    simp only [show i≠cs.length by omega,if_false]
    exact h0 i c hc hv
   ·have:=(List.getElem?_eq_some_iff.1 hc).1
    simp at this
    have e:i=cs.length:=by omega
    subst e
    simp at hc
    subst hc
    exact absurd hv hn)
  have ea:tm cs.length=⟨nm,0,ls.length⟩::ls.flatten:=by rw [e1 _ (by rw [hlen]; omega)]; simp
  refine ⟨tm,fun i hi => ?_,?_,by simp [ea]⟩
  ·rw [e1 i (by rw [hlen]; omega)]; simp [show i≠cs.length by omega]
  ·intro i c hi hc
   rcases hcase i c hi hc with ⟨rfl,rfl⟩ | ⟨h1,h2⟩
   ·rw [ea,← e3]
   ·exact e2 i c (by rw [hlen]; exact h1) h2
 ·have:=h.len
  rw [fill_len]
  simp at this ⊢
  omega
theorem Tryz.infoCell:(Tryz.prog.info? 314).map (fun i=>(i.zero,i.size,i.bytes))=some (some (.agg #[.string ⟨#[]⟩,.int .i64 0,.slice none 0 0,.int .i64 0]),4,56):=by kernel_rfl
theorem cell_one {s:ByteArray} {n m:Int} {ca:Option Addr} {cl cc:Nat}:∀ u ∈ (#[Value.string s,.int .i64 n,.slice ca cl cc,.int .i64 m]:Array Value).toList,u.oneCell'=true:=by
 intro u hu
 simp at hu
 rcases hu with rfl | rfl | rfl | rfl <;> rfl
structure LaidOut (w:World) (B:Nat) (lv:Value) (cs:List CellS) (vs:List Value) (lv':Value) (k:Nat) (cs':List CellS) (vs':List Value) (ts:List (List Sym)) (w':World):Prop where
 cells:CellsAt w' B lv' cs' vs'
 vals:∃ new,vs'=vs++new
 kept:Kept (ownOf lv) w w'
 where_:lv'.ownBlock=lv.ownBlock∨∃ g,lv'.ownBlock=some g∧w.heap.size≤g
 fresh:∀ (i:Nat) v k,vs.length≤i→vs'[i]?=some v→v.ownBlock=some k→w.heap.size≤k
def LaidSaid (n:Nat):Prop:=∀ (w:World) (B:Nat) (lv:Value) (cs:List CellS) (vs:List Value) (X:Nat→Prop) (a b c:Value) (t:List Sym),t.length≤n→CellsAt w B lv cs vs→Rep X w a b c t→B≤w.heap.size→cs.length+t.length≤4000 →
 Calls Tryz.prog 210 #[lv,.agg #[a,b,c]] w fun e w'=>∃ (lv':Value) (k:Nat) (cs':List CellS) (vs':List Value),e = .returned (.tuple #[lv',.int .i64 k])∧LaidOut w B lv cs vs lv' k cs' vs' [t] w'∧LaidL cs cs' [k] [t]
theorem cellsV_snoc:∀ {cs:List CellS} {vs:List Value} (c:CellS) (v:Value),vs.length=cs.length→cellsV (cs++[c]) (vs++[v])=cellsV cs vs++cellV c v:=by
 intro cs
 induction cs with
 | nil=>intro vs c v h; cases vs with
  | nil=>simp [cellsV]
  | cons _ _=>simp at h
 | cons d cs ih =>
  intro vs c v h
  cases vs with
  | nil=>simp at h
  | cons u vs =>
   simp only [List.cons_append,cellsV]
   rw [ih c v (by simpa using h)]
   simp
theorem CellsAt.snoc {w w1:World} {B:Nat} {lv lv':Value} {cs:List CellS} {vs:List Value} (h:CellsAt w B lv cs vs) (c:CellS) (hk:c.kids=[]) (ha:Appended w B 314 4 lv (cs.length+1) (cellsV cs vs++cellV c (.slice none 0 0)) lv' w1) :
  CellsAt w1 B lv' (cs++[c]) (vs++[.slice none 0 0]):=by
 refine ⟨by simp [h.len],?_,?_⟩
 ·rw [cellsV_snoc c _ h.len]
  simpa using ha.owns
 ·intro i d v h1 h2
  rcases Nat.lt_or_ge i cs.length with hi | hi
  ·rw [List.getElem?_append_left hi] at h1
   rw [List.getElem?_append_left (by rw [h.len]; exact hi)] at h2
   have hkk:=h.kids i d v h1 h2
   exact ha.kept.owns hkk (fun k e e'=>by
    obtain ⟨cur,hc⟩:=owns_terms hkk k e
    exact owns_apart h.owns (by decide) hc e')
  ·have:=(List.getElem?_eq_some_iff.1 h1).1
   simp at this
   have e:i=cs.length:=by omega
   subst e
   rw [List.getElem?_append_right (by rw [h.len]; exact Nat.le_refl _),h.len] at h2
   simp at h1 h2
   subst h1 h2
   rw [hk]
   exact World.ownsRow_nil _ _ _ _
theorem cellsV_fill:∀ {cs:List CellS} {vs:List Value} {x:Nat} {ks:List Nat} {v:Value},vs.length=cs.length→x<cs.length→cellsV (fill cs x ks) (vs.set x v)=(cellsV cs vs).set (x * 4+2) v:=by
 intro cs
 induction cs with
 | nil=>intro vs x ks v _ h; simp at h
 | cons d cs ih =>
  intro vs x ks v hl hx
  cases vs with
  | nil=>simp at hl
  | cons u vs =>
   cases x with
   | zero=>simp [fill,cellsV,cellV]
   | succ x =>
    have e:=ih (vs:=vs) (x:=x) (ks:=ks) (v:=v) (by simpa using hl) (by simpa using hx)
    have e2:fill (d::cs) (x+1) ks=d::fill cs x ks:=by simp [fill]
    rw [e2,List.set_cons_succ,cellsV,cellsV,e,List.set_append_right _ _ (by simp [cellV]; omega)]
    congr 2
    simp [cellV]
    try omega
theorem fill_same {cs:List CellS} {x:Nat} {c:CellS} (h:cs[x]?=some c):fill cs x c.kids=cs:=by
 apply List.ext_getElem?
 intro i
 rw [fill_at]
 by_cases e:x=i
 ·subst e; rw [h]; simp
 ·cases cs[i]? with
  | none=>rfl
  | some d=>simp [e]
theorem CellsAt.fill {w:World} {B g cap n:Nat} {cs:List CellS} {vs:List Value} (h:CellsAt w B (.slice (some ⟨g,0,none⟩) n cap) cs vs) {x:Nat} (hx:x<cs.length) {ks:List Nat} {av:Value} (ha:w.ownsRow B 3 1 av ks.length (ints ks)) :
  CellsAt (w.setCell ⟨g,x * 4+2,none⟩ av) B (.slice (some ⟨g,0,none⟩) n cap) (YtlmjilpjmgjjcaaGreatDoor.fill cs x ks) (vs.set x av):=by
 have hap:∀ {m:Nat} {v:Value} {ys:List Value},w.ownsRow B 3 1 v m ys→∀ k,v.ownBlock=some k→k≠g:=fun hk k e e'=>by
  subst e'
  obtain ⟨cur,hcur⟩:=owns_terms hk k e
  obtain ⟨cur',hcur'⟩:=owns_terms h.owns k rfl
  rw [hcur] at hcur'
  simp at hcur'
 refine ⟨by rw [fill_len]; simpa using h.len,?_,?_⟩
 ·rw [fill_len,cellsV_fill h.len hx]
  have ho:=h.owns
  refine ⟨by simpa using ho.1,?_⟩
  rcases ho.2 with ⟨h1,_⟩ | ⟨g',cap',cur,h1,hb,hg,hn,hc,hs,ht⟩
  ·simp at h1
  ·simp at h1
   obtain ⟨rfl,rfl,rfl⟩:=h1
   refine .inr ⟨g,cap,cur.setIfInBounds (x * 4+2) av,rfl,hb,block_set hg _ _,hn,hc,by simpa using hs,?_⟩
   rw [← ht]
   simp [List.take_set]
 ·intro i c v h1 h2
  rw [fill_at] at h1
  cases hc:cs[i]? with
  | none=>rw [hc] at h1; simp at h1
  | some c' =>
   rw [hc] at h1
   simp only [Option.map_some,Option.some.injEq] at h1
   by_cases e:x=i
   ·subst e
    rw [if_pos rfl] at h1
    subst h1
    rw [List.getElem?_set_self (by rw [h.len]; exact hx)] at h2
    simp only [Option.some.injEq] at h2
    subst h2
    exact owns_same ha (fun k e=>Below.heap_setCell _ _ _ _ (hap ha k e))
   ·rw [if_neg e] at h1
    subst h1
    rw [List.getElem?_set_ne e] at h2
    have hk:=h.kids i c' v hc h2
    exact owns_same hk (fun k e=>Below.heap_setCell _ _ _ _ (hap hk k e))
set_option maxRecDepth 10000 in
set_option maxHeartbeats 2000000 in
theorem laid_var (w:World) (B:Nat) (lv:Value) (cs:List CellS) (vs:List Value) (n:Nat) (h:CellsAt w B lv cs vs) (hB:B≤w.heap.size) (hl:cs.length+1≤4000) :
  Calls Tryz.prog 210 #[lv,.agg #[.string ⟨#[]⟩,.int .i64 n,.slice none 0 0]] w fun e w'=>∃ (lv':Value) (k:Nat) (cs':List CellS) (vs':List Value),e = .returned (.tuple #[lv',.int .i64 k])∧LaidOut w B lv cs vs lv' k cs' vs' [vr n] w'∧LaidL cs cs' [k] [vr n]:=by
 obtain ⟨la,lcap,rfl⟩:=owns_slice h.owns
 have H:=hide' h
 clear h
 go_enter Tryz.func210,Tryz.ntmps210
 go_wp2
 go_loopg [6] (cs.length+1) (fun gk i wr=>∃ (k:Nat),i = .int .i64 k∧k≤cs.length∧cs.length - k<gk∧Kept noBlock w wr∧wr.heap[w.heap.size]?=some (.cells #[.string ⟨#[]⟩,.int .i64 n,.slice none 0 0] 183 (0,0)) ∧
   (∀ (i:Nat) c,i<k→cs[i]?=some c→c.sym.name=[]→c.sym.num≠n))
 case atStart=>exact ⟨0,by go_num,Nat.zero_le _,by omega,(Kept.refl _ w).alloc _,heap_alloc_new w _,fun i c h=>by omega⟩
 case round =>
  obtain ⟨k,rfl,hk,hg,hkp,h0,hno⟩:=hrel
  obtain ⟨b0,b1,b2,bf⟩:=box3 h0
  have Hkp:=hide' hkp
  have H0:=hide' h0
  have Hno:=hide' hno
  have hs:=hkp.size
  have Hc:=hide' (H.out.ext (w':=wr) (fun k hk=>hkp.block k hk (fun h=>h)))
  clear hkp h0 hno
  by_cases hlt:k<cs.length
  ·obtain ⟨g,cap,c,v,he,hc,hv,_,hgl,hcap,c0,c1,c2,c3,cf,_⟩:=Hc.out.at hlt
   simp only [Value.slice.injEq] at he
   obtain ⟨rfl,_,rfl⟩:=he
   have Hc':=hide' hc
   clear hc hv
   by_cases hn:c.sym.name=[]
   ·have hn':c.sym.name.isEmpty=true:=by simpa using hn
    by_cases hq:c.sym.num=n
    ·have hq':((c.sym.num:Int) == (n:Int))=true:=by rw [beq_iff_eq]; omega
     have Hq:=hide' hq
     clear hq
     go_wp2_with fail
     go_quiet (fail)
     go_wp2
     go_ret2
     exact ⟨_,k,cs,vs,rfl,⟨Hc.out.ext (fun _ _=>rfl),⟨[],by simp⟩,(Hkp.out.drewN _).mono (fun _ _ h=>h.elim),Or.inl rfl,fun i v k h1 h2=>by have:=(List.getElem?_eq_some_iff.1 h2).1; omega⟩,LaidL.hit Hc'.out hn Hq.out⟩
    ·have hq':((c.sym.num:Int) == (n:Int))=false:=by rw [beq_eq_false_iff_ne]; omega
     have Hq:=hide' hq
     clear hq
     go_wp2_with fail
     go_quiet (fail)
     go_wp2
     go_roundg (cs.length - k)
     case measure=>omega
     case rel =>
      refine ⟨k+1,by go_num,by omega,by omega,Hkp.out.drewN _,H0.out,fun i d hi hd hdn => ?_⟩
      by_cases e:i=k
      ·subst e; rw [Hc'.out] at hd; simp at hd; subst hd; exact Hq.out
      ·exact Hno.out i d (by omega) hd hdn
   ·have hn':c.sym.name.isEmpty=false:=by simpa using hn
    go_wp2_with fail
    go_quiet (fail)
    go_wp2
    go_roundg (cs.length - k)
    case measure=>omega
    case rel =>
     refine ⟨k+1,by go_num,by omega,by omega,Hkp.out.drewN _,H0.out,fun i d hi hd hdn => ?_⟩
     by_cases e:i=k
     ·subst e; rw [Hc'.out] at hd; simp at hd; subst hd; exact absurd hdn hn
     ·exact Hno.out i d (by omega) hd hdn
  ·have hek:k=cs.length:=by omega
   subst hek
   have hsb:=lt_of_block H0.out
   go_wp2_with (at_builtin; refine wpList_append1 _ rfl (.tmp 43) (.tmp 50) 308 rfl B 314 Tryz.infoCell Tryz.underlying308 rfl (by decide) _ cs.length (cellsV cs vs) rfl Hc.out.owns _ rfl rfl rfl cell_one ?_ ?_ ?_)
   ·omega
   ·omega
   intro lv' w1 hap
   have hcs1:=CellsAt.snoc Hc.out ⟨⟨[],n,0⟩,[],cs.length⟩ rfl hap
   obtain ⟨g,cap,c,v,rfl,hc,hv,hBg,hgl,hcap,c0,c1,c2,c3,cf,_⟩:=hcs1.at (i:=cs.length) (by simp)
   have hblk:=(hap.kept.block _ hsb (owns_apart Hc.out.owns (by decide) H0.out)).trans H0.out
   obtain ⟨p0,p1,p2,pf⟩:=box3 hblk
   have Hcs1:=hide' hcs1
   have Hap:=hide' hap
   have Hblk:=hide' hblk
   have hs1:=hap.kept.size
   have hls:(cs++[(⟨⟨[],n,0⟩,[],cs.length⟩:CellS)]).length=cs.length+1:=by simp
   clear hcs1 hap hblk hc hv
   rw [hls] at Hcs1 Hap hcap ⊢
   clear hls
   go_wp2
   go_loopg [0,8,9] 1 (fun gk l ar i wr=>l = .slice (some ⟨g,0,none⟩) (cs.length+1) cap∧ar = .slice none 0 0∧i = .int .i64 0∧0<gk∧wr=w1)
   case atStart=>exact ⟨rfl,rfl,rfl,by omega,rfl⟩
   case round =>
    obtain ⟨rfl,rfl,rfl,_,rfl⟩:=hrel
    go_wp2
    go_ret2
    have hf:=Hcs1.out.fill (x:=cs.length) (ks:=[]) (av := .slice none 0 0) (by simp) (World.ownsRow_nil _ _ _ _)
    rw [fill_same (c:=⟨⟨[],n,0⟩,[],cs.length⟩) (by simp)] at hf
    have hv:(vs++[Value.slice none 0 0]).set cs.length (.slice none 0 0)=vs++[.slice none 0 0]:=by
     rw [← Hc.out.len]; simp
    rw [hv] at hf
    refine ⟨_,cs.length,_,_,rfl,⟨hf,⟨_,rfl⟩,?_,?_,?_⟩,LaidL.miss (fun i c hc=>Hno.out i c (List.getElem?_eq_some_iff.1 hc).1 hc)⟩
    ·have hk:=((Hkp.out.mono (fun _ _ h=>h.elim)).then (S:=ownOf (.slice la cs.length lcap)) Hap.out.kept (fun _ _ h=>h))
     refine Kept.setCell hk (fun hlt => ?_) _
     rcases Hap.out.where_ with hw | ⟨g',hw,hg⟩
     ·exact hw.symm
     ·simp [Value.ownBlock] at hw; subst hw; simp only at hlt; omega
    ·rcases Hap.out.where_ with hw | ⟨g',hw,hg⟩
     ·exact Or.inl hw
     ·exact Or.inr ⟨g',hw,by omega⟩
    ·intro i v k h1 h2 h3
     have:=(List.getElem?_eq_some_iff.1 h2).1
     simp at this
     have e:i=vs.length:=by omega
     subst e
     simp at h2
     subst h2
     simp [Value.ownBlock] at h3
set_option maxRecDepth 10000 in
set_option maxHeartbeats 4000000 in
theorem laid_name (m:Nat) (IH:LaidSaid m) (w:World) (B:Nat) (lv:Value) (cs:List CellS) (vs:List Value) (X:Nat→Prop) (nm:List UInt8) (hnm:nm≠[]) (c:Value) (ls:List (List Sym)) (xs:List Value) (h:CellsAt w B lv cs vs) (hrow:RowT X w c ls xs) (hB:B≤w.heap.size) (hm:ls.flatten.length≤m) (hl:cs.length+ls.flatten.length+1≤4000) :
  Calls Tryz.prog 210 #[lv,.agg #[.string ⟨nm.toArray⟩,.int .i64 0,c]] w fun e w'=>∃ (lv':Value) (k:Nat) (cs':List CellS) (vs':List Value),e = .returned (.tuple #[lv',.int .i64 k])∧LaidOut w B lv cs vs lv' k cs' vs' [⟨nm,0,ls.length⟩::ls.flatten] w'∧LaidL cs cs' [k] [⟨nm,0,ls.length⟩::ls.flatten]:=by
 obtain ⟨la,lcap,rfl⟩:=owns_slice h.owns
 obtain ⟨ca,ccap,rfl⟩:=owns_slice hrow.1
 have hwf:=hrow.wf
 have hll:ls.length≤ls.flatten.length:=wf_len (wf_flatten hwf)
 have he:nm.isEmpty=false:=by simpa using hnm
 have H:=hide' h
 have Hrow:=hide' hrow
 have Hih:=hide' IH
 clear h hrow IH
 go_enter Tryz.func210,Tryz.ntmps210
 go_wp2
 go_loopg [6] 1 (fun gk i wr=>i = .int .i64 0∧0<gk∧wr=w.alloc (.cells #[.string ⟨nm.toArray⟩,.int .i64 0,.slice ca ls.length ccap] 183))
 case atStart=>exact ⟨rfl,by omega,rfl⟩
 case round =>
  obtain ⟨rfl,_,rfl⟩:=hrel
  have Hc:=hide' (H.out.ext (w':=w.alloc (.cells #[.string ⟨nm.toArray⟩,.int .i64 0,.slice ca ls.length ccap] 183)) (fun k hk=>Below.heap_alloc _ _ _ hk))
  go_wp2_with (at_builtin; refine wpList_append1 _ rfl (.tmp 43) (.tmp 50) 308 rfl B 314 Tryz.infoCell Tryz.underlying308 rfl (by decide) _ cs.length (cellsV cs vs) rfl Hc.out.owns _ rfl (by simp) rfl cell_one ?_ ?_ ?_)
  ·omega
  ·simp; omega
  intro lv' w1 hap
  have hcs1:=CellsAt.snoc Hc.out ⟨⟨nm,0,ls.length⟩,[],cs.length⟩ rfl hap
  have h0:=(hap.kept.block _ (by simp) (owns_apart Hc.out.owns (by decide) (heap_alloc_new w _))).trans (heap_alloc_new w _)
  have Hcs1:=hide' hcs1
  have Hap:=hide' hap
  have H0:=hide' h0
  have hs1:=hap.kept.size
  simp at hs1
  obtain ⟨la1,lcap1,rfl⟩:=owns_slice hap.owns
  clear hcs1 hap h0
  go_wp2
  go_loopg [0,8,9] (ls.length+1) (fun gk lv2 av i wr=>∃ (k:Nat) (cs2:List CellS) (vs2:List Value) (ks:List Nat),i = .int .i64 k∧k≤ls.length∧ls.length - k<gk∧CellsAt wr B lv2 cs2 vs2∧(∃ new,vs2=(vs++[.slice none 0 0])++new)∧LaidL (cs++[⟨⟨nm,0,ls.length⟩,[],cs.length⟩]) cs2 ks (ls.take k)∧ks.length=k ∧
    wr.ownsRow (w.heap.size+1) 3 1 av ks.length (ints ks)∧Kept (ownOf (.slice la cs.length lcap)) w wr∧(lv2.ownBlock=(Value.slice la cs.length lcap).ownBlock∨∃ g,lv2.ownBlock=some g∧w.heap.size<g)∧(∀ (i:Nat) v k,vs2[i]?=some v→v.ownBlock=some k→¬ ownOf av k∧(vs.length≤i→w.heap.size≤k)) ∧
    wr.heap[w.heap.size]?=some (.cells #[.string ⟨nm.toArray⟩,.int .i64 0,.slice ca ls.length ccap] 183 (0,0)))
  case atStart =>
   refine ⟨0,_,_,[],by go_num,Nat.zero_le _,by omega,Hcs1.out,⟨[],by simp⟩,LaidL.nil _,rfl,World.ownsRow_nil _ _ _ _,((Kept.refl _ w).alloc _).then Hap.out.kept (fun _ _ h=>h),?_,?_,H0.out⟩
   rcases Hap.out.where_ with hw | ⟨g',hw,hg⟩
   ·exact Or.inl hw
   ·exact Or.inr ⟨g',hw,by simp at hg; omega⟩
   ·intro i v k h1 h2
    refine ⟨fun e=>by simp [ownOf,Value.ownBlock] at e,fun hi => ?_⟩
    have:=(List.getElem?_eq_some_iff.1 h1).1
    simp at this
    have e:i=vs.length:=by omega
    subst e
    simp at h1
    subst h1
    simp [Value.ownBlock] at h2
  case round =>
   obtain ⟨k,cs2,vs2,ks,rfl,hk,hg,hcs,hvs,hlay,rfl,hav,hkp,hwh,hfr,hb⟩:=hrel
   obtain ⟨b0,b1,b2,bf⟩:=box3 hb
   obtain ⟨l2a,l2cap,rfl⟩:=owns_slice hcs.owns
   obtain ⟨ava,avcap,rfl⟩:=owns_slice hav
   have hsz:=lt_of_block hb
   have hlen2:cs2.length+(ls.drop ks.length).flatten.length≤4000:=by
    have h1:=hlay.len
    have h2:=congrArg List.length (congrArg List.flatten (List.take_append_drop ks.length ls))
    simp only [List.flatten_append,List.length_append,List.length_cons,List.length_nil] at h1 h2
    omega
   have hle2:=hlay.le
   simp only [List.length_append,List.length_cons,List.length_nil] at hle2
   have Hcs:=hide' hcs
   have Hvs:=hide' hvs
   have Hlay:=hide' hlay
   have Hav:=hide' hav
   have Hkp:=hide' hkp
   have Hwh:=hide' hwh
   have Hb:=hide' hb
   have Hfr:=hide' hfr
   clear hcs hvs hlay hav hkp hwh hb hs1 hfr
   by_cases hlt:ks.length<ls.length
   ·obtain ⟨l',hl'⟩:∃ l',ls[ks.length]?=some l':=⟨_,List.getElem?_eq_getElem hlt⟩
    obtain ⟨_,hdk,hlf,_⟩:=flat_at hl' hwf
    obtain ⟨a',b',c',x0,x1,x2,hrep⟩:=Hrow.out.2.2 ks.length l' hl'
    obtain ⟨s1,n1,c1a,c1l,c1c,rfl,rfl,rfl⟩:=hrep.shape
    have hon:∀ j,j<w.heap.size→¬ X j→isTerms w j→wr.heap[j]?=w.heap[j]?∧¬ X j:=fun j hj hx ht=>by
     obtain ⟨cur,hcur⟩:=ht
     exact ⟨Hkp.out.block j hj (owns_apart H.out.owns (by decide) hcur),hx⟩
    have hrow':=Hrow.out.on hon
    obtain ⟨g,cap',cur,hge,hBg,hgb,hcp⟩:=owns_some hrow'.1 (by omega)
    simp only [Value.slice.injEq] at hge
    obtain ⟨rfl,_,rfl⟩:=hge
    have y0:wr.cell? ⟨g,ks.length * 3,none⟩=some (.string s1):=owns_cell hrow'.1 _ _ x0
    have y1:wr.cell? ⟨g,ks.length * 3+1,none⟩=some (.int .i64 n1):=owns_cell hrow'.1 _ _ x1
    have y2:wr.cell? ⟨g,ks.length * 3+2,none⟩=some (.slice c1a c1l c1c):=owns_cell hrow'.1 _ _ x2
    have hl'4:cs2.length+l'.length≤4000:=by
     rw [hdk] at hlen2
     simp only [List.flatten_cons,List.length_append] at hlen2
     omega
    have HI:=hide' (Hih.out wr B (.slice l2a cs2.length l2cap) cs2 vs2 X (.string s1) (.int .i64 n1) (.slice c1a c1l c1c) l' (by omega) Hcs.out (hrep.on hon) (by omega) hl'4)
    have Hlk:=hide' hl'
    clear hgb hrow' hrep x0 x1 x2 hl' hdk hon
    go_wp2_with fail
    refine HI.out.mono ?_
    rintro e w2 ⟨lv3,k3,cs3,vs3,rfl,ho,hlay3⟩
    obtain ⟨l3a,l3cap,rfl⟩:=owns_slice ho.cells.owns
    have hav2:=ho.kept.owns Hav.out (fun j e e'=>by
     obtain ⟨cur,hc⟩:=owns_terms Hav.out j e
     exact owns_apart Hcs.out.owns (by decide) hc e')
    have hb2:=(ho.kept.block _ hsz (owns_apart Hcs.out.owns (by decide) Hb.out)).trans Hb.out
    have hs2:=ho.kept.size
    have Ho:=hide' ho
    have Hlay3:=hide' hlay3
    have Hav2:=hide' hav2
    have Hb2:=hide' hb2
    clear ho hlay3 hav2 hb2 y0 y1 y2
    go_wp2_with (at_builtin; refine wpList_append1 _ rfl (.tmp 70) (.tmp 72) 25 rfl (w.heap.size+1) 3 Tryz.infoInt Tryz.underlying25 rfl (by decide) _ ks.length (ints ks) rfl Hav2.out _ rfl rfl rfl (int_one _) ?_ ?_ ?_)
    ·omega
    ·omega
    intro av' w3 hap3
    have Hap3:=hide' hap3
    clear hap3
    go_wp2
    go_roundg (ls.length - ks.length)
    case measure=>omega
    case rel =>
     have hapart:∀ j,ownOf (.slice ava ks.length avcap) j→w.heap.size<j:=fun j e=>(Hav2.out.lt j e).1
     have hdis:∀ (i:Nat) v,vs3[i]?=some v→∀ j,v.ownBlock=some j→¬ ownOf (.slice ava ks.length avcap) j:=fun i v h2 j e=>by
      obtain ⟨new3,hnew3⟩:=Ho.out.vals
      rcases Nat.lt_or_ge i vs2.length with hi | hi
      ·rw [hnew3,List.getElem?_append_left hi] at h2
       exact (Hfr.out i v j h2 e).1
      ·have h5:=Ho.out.fresh i v j hi h2 e
       intro e'
       have:=(Hav.out.lt j e').2
       omega
     have hcs4:CellsAt w3 B (.slice l3a cs3.length l3cap) cs3 vs3:=by
      refine ⟨Ho.out.cells.len,Hap3.out.kept.owns Ho.out.cells.owns (fun j e e' => ?_),fun i c v h1 h2 => ?_⟩
      ·obtain ⟨cur,hc⟩:=owns_terms Ho.out.cells.owns j e
       exact owns_apart Hav2.out (by decide) hc e'
      ·have hk:=Ho.out.cells.kids i c v h1 h2
       exact Hap3.out.kept.owns hk (hdis i v h2)
     have htk:ls.take (ks.length+1)=ls.take ks.length++[l']:=by rw [List.take_add_one,Hlk.out]; rfl
     obtain ⟨new,hnew⟩:=Hvs.out
     obtain ⟨new3,hnew3⟩:=Ho.out.vals
     refine ⟨ks.length+1,cs3,vs3,ks++[k3],by go_num,by omega,by omega,hcs4,⟨new++new3,by rw [hnew3,hnew]; simp⟩,by rw [htk]; exact Hlay.out.snoc Hlay3.out,by simp,by simpa [ints] using Hap3.out.owns,?_,?_,?_,?_⟩
     ·refine (Hkp.out.then Ho.out.kept (fun i hi e => ?_)).then Hap3.out.kept (fun i hi e=>absurd (hapart i e) (by omega))
      rcases Hwh.out with hw | ⟨g',hw,hg'⟩
      ·exact hw.symm.trans e
      ·have:some g'=some i:=hw.symm.trans e
       simp at this; omega
     ·rcases Ho.out.where_ with hw | ⟨g',hw,hg'⟩
      ·rcases Hwh.out with hw2 | ⟨g2,hw2,hg2⟩
       ·exact Or.inl (hw.trans hw2)
       ·exact Or.inr ⟨g2,hw.trans hw2,hg2⟩
      ·exact Or.inr ⟨g',hw,by omega⟩
     ·intro i v j h2 e
      have hvl:v.ownBlock=some j→j<w2.heap.size:=fun e=>by
       have hi:=(List.getElem?_eq_some_iff.1 h2).1
       rw [Ho.out.cells.len] at hi
       exact ((Ho.out.cells.kids i _ v (List.getElem?_eq_getElem hi) h2).lt j e).2
      refine ⟨fun e' => ?_,fun hi => ?_⟩
      ·rcases Hap3.out.where_ with hw | ⟨g',hw,hg'⟩
       ·exact hdis i v h2 j e (hw.symm.trans e')
       ·have h6:some g'=some j:=hw.symm.trans e'
        have:=hvl e
        simp at h6; omega
      ·rcases Nat.lt_or_ge i vs2.length with hi2 | hi2
       ·obtain ⟨new3,hnew3⟩:=Ho.out.vals
        rw [hnew3,List.getElem?_append_left hi2] at h2
        exact (Hfr.out i v j h2 e).2 hi
       ·have:=Ho.out.fresh i v j hi2 h2 e
        omega
     ·exact (Hap3.out.kept.block _ (by omega) (fun e=>by have:=hapart _ e; omega)).trans Hb2.out
   ·have hek:ks.length=ls.length:=by omega
    have Hek:=hide' hek
    have hlt2:cs.length<cs2.length:=by omega
    obtain ⟨g,cap,c,v,he2,hc,hv,hBg,hgl,hcap,c0,c1,c2,c3,cf,_⟩:=Hcs.out.at hlt2
    simp only [Value.slice.injEq] at he2
    obtain ⟨rfl,_,rfl⟩:=he2
    have Hvc:Hid (vs.length=cs.length):=H.out.len
    clear hek hc hv
    go_wp2
    go_ret2
    have hlay4:=Hlay.out
    rw [List.take_of_length_le (by rw [Hek.out]; exact Nat.le_refl _)] at hlay4
    have hf:=Hcs.out.fill hlt2 (owns_base Hav.out (by omega))
    obtain ⟨new,hnew⟩:=Hvs.out
    refine ⟨_,cs.length,_,_,rfl,⟨hf,?_,?_,?_,?_⟩,LaidL.name hnm (by omega) hlay4⟩
    ·refine ⟨.slice ava ks.length avcap::new,?_⟩
     rw [hnew,← Hvc.out]
     simp
    ·refine Kept.setCell Hkp.out (fun hlt3 => ?_) _
     rcases Hwh.out with hw | ⟨g',hw,hg'⟩
     ·exact hw.symm
     ·simp [Value.ownBlock] at hw; subst hw; simp only at hlt3; omega
    ·rcases Hwh.out with hw | ⟨g',hw,hg'⟩
     ·exact Or.inl hw
     ·exact Or.inr ⟨g',hw,by omega⟩
    ·intro i v j h1 h2 e
     by_cases ei:cs.length=i
     ·subst ei
      rw [List.getElem?_set_self (by rw [Hcs.out.len]; exact hlt2)] at h2
      simp only [Option.some.injEq] at h2
      subst h2
      have:=(Hav.out.lt j e).1
      omega
     ·rw [List.getElem?_set_ne ei] at h2
      exact (Hfr.out i v j h2 e).2 h1
theorem laid_any:∀ n,LaidSaid n:=by
 intro n
 induction n with
 | zero =>
  intro w B lv cs vs X a b c t hl _ h
  have:=wf_len (h.wf _ (Nat.le_refl _))
  omega
 | succ n ih =>
  intro w B lv cs vs X a b c t hl hc h hB hlen
  rcases h.out with ⟨k,rfl,rfl,rfl,rfl⟩ | ⟨nm,ls,xs,h1,rfl,rfl,rfl,h5⟩
  ·exact laid_var w B lv cs vs k hc hB (by simpa using hlen)
  ·simp only [List.length_cons] at hl hlen
   exact laid_name n ih w B lv cs vs X nm h1 c ls xs hc h5 hB (by omega) (by omega)
theorem two_laid {cs1 cs2:List CellS} {x y:Nat} {a b:List Sym} (h1:LaidL [] cs1 [x] [a]) (h2:LaidL cs1 cs2 [y] [b]) :
  ∃ tm,Lay (gr cs2) tm a b∧x<cs2.length∧y<cs2.length∧tm x=a∧tm y=b∧Firsts (gr cs2) (fun i=>i)∧UpOk cs2 (fun i=>i) (fun _=>0)∧∀ i,((gr cs2).kids i).length≤4000:=by
 have h:=h1.snoc h2
 obtain ⟨tm,_,e2,e3⟩:=h.tm (fun _=>[]) (fun i c hc=>by simp at hc)
 simp only [List.cons_append,List.nil_append,List.map_cons,List.map_nil,List.cons.injEq,and_true] at e3
 have hu:=h.uniq (fun i j c d hc=>by simp at hc)
 have hat:∀ i,i<cs2.length→∃ c,cs2[i]?=some c∧(gr cs2).hd i=c.sym∧(gr cs2).kids i=c.kids:=fun i hi=>by
  have hc:cs2[i]?=some cs2[i]:=List.getElem?_eq_getElem hi
  exact ⟨_,hc,(gr_at hc).1,(gr_at hc).2⟩
 refine ⟨tm,⟨⟨?_,?_,?_,?_⟩,?_,?_⟩,h.kl x (by simp),h.kl y (by simp),e3.1,e3.2,⟨⟨fun i hi=>hi,fun i _=>rfl⟩,?_,fun _ _ _=>rfl,fun i _ hn=>⟨hn,rfl⟩⟩,?_,?_⟩
 ·intro i hi k hk
  obtain ⟨c,hc,_,e⟩:=hat i hi
  rw [e] at hk
  exact (h.ok i c (Nat.zero_le _) hc).2.1 k hk
 ·intro i hi
  obtain ⟨c,hc,e,e'⟩:=hat i hi
  rw [e,e']
  exact (h.ok i c (Nat.zero_le _) hc).1
 ·intro i hi hn
  obtain ⟨c,hc,e,e'⟩:=hat i hi
  rw [e] at hn
  rw [e']
  exact (h.ok i c (Nat.zero_le _) hc).2.2.1 hn
 ·intro i hi hn
  obtain ⟨c,hc,e,e'⟩:=hat i hi
  rw [e] at hn ⊢
  exact (h.ok i c (Nat.zero_le _) hc).2.2.2.1 hn
 ·intro i hi
  obtain ⟨c,hc,e,e'⟩:=hat i hi
  rw [e,e']
  exact e2 i c (Nat.zero_le _) hc
 ·intro i hi hn
  obtain ⟨c,hc,e,_⟩:=hat i hi
  rw [e] at hn ⊢
  have:=h.occ i c (Nat.zero_le _) hc hn
  simp only [List.cons_append,List.nil_append,List.flatten_cons,List.flatten_nil,List.append_nil,occ_append] at this
  exact this
 ·intro i j hi hj h1 h2 h3
  obtain ⟨c,hc,e,_⟩:=hat i hi
  obtain ⟨d,hd,e',_⟩:=hat j hj
  rw [e] at h1 h3
  rw [e'] at h2 h3
  exact hu i j c d hc hd h1 h2 h3
 ·intro i c hc
  have:=h.up i c (Nat.zero_le _) hc
  exact ⟨by rw [this]; exact (List.getElem?_eq_some_iff.1 hc).1,this,fun _=>rfl,fun e=>absurd this e⟩
 ·intro i
  rcases Nat.lt_or_ge i cs2.length with hi | hi
  ·obtain ⟨c,hc,_,e⟩:=hat i hi
   rw [e]
   exact (h.ok i c (Nat.zero_le _) hc).2.2.2.2
  ·simp [gr,List.getElem?_eq_none hi]
theorem make_ints (w:World) (n:Nat) (hn:n≤100000):∃ w',(Instr.makeSlice 25 (.int .i64 (n:Int)) (.int .i64 (n:Int))).run Tryz.prog w = .ok (.slice (some ⟨w.heap.size,0,none⟩) n n) w' ∧
  w'.ownsRow w.heap.size 3 1 (.slice (some ⟨w.heap.size,0,none⟩) n n) (List.replicate n 0).length (ints (List.replicate n 0))∧w.grownBy w' none:=by
 obtain ⟨i,h1,h2,h3,h4⟩:=info_parts Tryz.infoInt
 obtain ⟨w',r1,r2,r3⟩:=run_make_full (P:=Tryz.prog) w w.heap.size 25 3 i _ 1 Tryz.underlying25 h1 h2 h3 .i64 .i64 n (by rw [h4]; omega) (by simp only [maxLen]; omega) (Nat.le_refl _)
 refine ⟨w',r1,?_,r3⟩
 have e:(madeCells (Value.int .i64 0).cells (n * 1)).toList=ints (List.replicate n 0):=by
  have:(Value.int .i64 0).cells=#[.int .i64 0]:=rfl
  rw [this,toList_madeCells_one]
  simp [ints]
 rw [e] at r2
 simpa using r2
set_option maxRecDepth 10000 in
set_option maxHeartbeats 2000000 in
theorem joins_any (w:World) (X:Nat→Prop) (a b c a' b' c':Value) (l m:List Sym) (h:Rep X w a b c l) (h':Rep X w a' b' c' m) (hl:l.length+m.length≤4000) :
  Calls Tryz.prog 206 #[.agg #[a,b,c],.agg #[a',b',c']] w fun e w'=>∃ qv,e = .returned qv∧Ext w w'∧((qv = .bool true∧∃ θ,Ts θ∧ap θ l=ap θ m)∨(qv = .bool false∧NoFit l m)):=by
 obtain ⟨s1,n1,c1a,c1l,c1c,rfl,rfl,rfl⟩:=h.shape
 obtain ⟨s2,n2,c2a,c2l,c2c,rfl,rfl,rfl⟩:=h'.shape
 have Hl:=hide' (laid_any l.length ((w.alloc (.cells #[.string s1,.int .i64 n1,.slice c1a c1l c1c] 183)).alloc (.cells #[.string s2,.int .i64 n2,.slice c2a c2l c2c] 183)) (w.heap.size+2) (.slice none 0 0) [] [] X _ _ _ l (Nat.le_refl _)
  ⟨rfl,World.ownsRow_nil _ _ _ _,fun i c v h=>by simp at h⟩ (h.ext (Ext.of (by repeat' (first | with_reducible exact Kept.refl _ _ | with_reducible apply Kept.drew | with_reducible apply Kept.drewN | with_reducible apply Kept.alloc | with_reducible refine Kept.setCell ?_ ?_ _ | exact fun h=>absurd h (by simp <;> omega)))) (fun _ _ h=>h)) (by simp) (by simp; omega))
 have H':=hide' h'
 clear h h'
 go_enter Tryz.func206,Tryz.ntmps206
 go_wp2_with fail
 refine Hl.out.mono ?_
 rintro e w1 ⟨lv1,x,cs1,vs1,rfl,ho1,hlay1⟩
 obtain ⟨l1a,l1cap,rfl⟩:=owns_slice ho1.cells.owns
 have hk1:Kept noBlock w w1:=(((Kept.refl noBlock w).alloc _).alloc _).then ho1.kept (fun i hi e=>by simp [ownOf,Value.ownBlock] at e)
 have hb1:w1.heap[w.heap.size+1]?=some (.cells #[.string s2,.int .i64 n2,.slice c2a c2l c2c] 183 (0,0)):=(ho1.kept.block (w.heap.size+1) (by simp) (fun e=>by simp [ownOf,Value.ownBlock] at e)).trans
  (by have:=heap_alloc_new (w.alloc (.cells #[.string s1,.int .i64 n1,.slice c1a c1l c1c] 183)) (.cells #[.string s2,.int .i64 n2,.slice c2a c2l c2c] 183); simp only [World.alloc,Array.size_push] at this ⊢; exact this)
 obtain ⟨p0,p1,p2,pf⟩:=box3 hb1
 have hs1:=ho1.kept.size
 simp at hs1
 have hlen1:=hlay1.len
 simp only [List.length_nil,List.flatten_cons,List.flatten_nil,List.append_nil] at hlen1
 have Hl2:=hide' (laid_any m.length w1 (w.heap.size+2) _ cs1 vs1 X _ _ _ m (Nat.le_refl _) ho1.cells (H'.out.ext (Ext.of hk1) (fun _ _ h=>h)) (by omega) (by omega))
 have Ho1:=hide' ho1
 have Hlay1:=hide' hlay1
 have Hk1:=hide' hk1
 clear ho1 hlay1 hk1 hb1
 go_wp2_with fail
 refine Hl2.out.mono ?_
 rintro e w2 ⟨lv2,y,cs2,vs2,rfl,ho2,hlay2⟩
 obtain ⟨l2a,l2cap,rfl⟩:=owns_slice ho2.cells.owns
 obtain ⟨tm,hlay,hxl,hyl,htx,hty,hfirst,hup,hk4⟩:=two_laid Hlay1.out hlay2
 have hlen2:=hlay2.len
 simp only [List.flatten_cons,List.flatten_nil,List.append_nil] at hlen2
 have hs2:=ho2.kept.size
 have hk2:Below w.heap.size w w2:=(Ext.of Hk1.out).trans (ho2.kept.below (by omega) (fun k e=>by have:=(Ho1.out.cells.owns.lt k e).1; omega))
 have Hj:=hide' (joined_any (rootsOf cs2) w2 (w.heap.size+2) _ cs2 vs2 _ _ x y ho2.cells hup hlay.ok (Nat.le_refl _) hxl hyl (by omega) hk4)
 have Ho2:=hide' ho2
 have Hlay:=hide' hlay
 have Hfirst:=hide' hfirst
 have Hk2:=hide' hk2
 have Hk4:=hide' hk4
 have Htx:=hide' htx
 have Hty:=hide' hty
 clear ho2 hlay2 hlay hfirst hk2 hup hk4 htx hty p0 p1 p2 pf
 go_wp2_with fail
 refine Hj.out.mono ?_
 rintro e w3 ⟨q,cs3,ρ,rk,rfl,hcs3,hgr,hup3,_,hk3,hq1,hq2⟩
 have hcl3:=gr_len hgr
 have hk3':Below w.heap.size w w3:=Hk2.out.trans (hk3.below (by omega) (fun k e=>by have:=(Ho2.out.cells.owns.lt k e).1; omega))
 have hs3:=hk3.size
 have Hcs3:=hide' hcs3
 have Hgr:=hide' hgr
 have Hup3:=hide' hup3
 have Hk3:=hide' hk3'
 have Hq1:=hide' hq1
 have Hq2:=hide' hq2
 have Hcl3:=hide' hcl3
 clear hcs3 hgr hup3 hk3 hk3' hq1 hq2 hcl3
 cases q
 ·go_wp2
  refine bodyPost_ret (v := .bool false) (by simp [results,Tryz.results206,go_sem]) rfl ?_
  exact ⟨_,rfl,Hk3.out,Or.inr ⟨rfl,no_clash Hlay.out Hfirst.out hxl hyl Htx.out Hty.out (Hq2.out trivial)⟩⟩
 ·obtain ⟨w4,hrun,hown,hgrown⟩:=make_ints w3 cs2.length (by omega)
  have hsz4:=hgrown.size
  have hk4:Kept noBlock w3 w4:=(Kept.of_grown hgrown).mono (fun _ _ e=>by simp at e)
  have hup4:=Hup3.out
  have hcs4:CellsAt w4 (w.heap.size+2) _ cs3 vs2:=Hcs3.out.ext (fun k hk=>hk4.block k hk (fun h=>h))
  have hj:=Hq1.out rfl
  have hst:Known (gr cs3) ρ (dn (List.replicate cs2.length 0)) (fun _=>[]):=(Known.none (gr cs3) ρ (fun _=>[])).congr (fun i=>by
   unfold dn
   simp only [iff_false]
   intro h
   have:=List.mem_of_getElem? h
   simp at this) (fun _ h=>h.elim)
  have He:=hide' (ends_any (fresh (List.replicate cs2.length 0)) w4 (w.heap.size+2) w3.heap.size _ _ cs3 vs2 ρ rk (List.replicate cs2.length 0) (fun _=>[]) x hcs4 hup4 (by rw [Hgr.out]; exact Hlay.out.ok) hown (fun j c v h1 h2 k e e'=>by
    have h5:=((Hcs3.out.kids j c v h1 h2).lt k e).2
    have h6:some w3.heap.size=some k:=e'
    simp at h6; omega) (by simp [Hcl3.out]) (by simp) (Nat.le_refl _) (by rw [Hcl3.out]; exact hxl) (by rw [Hcl3.out]; omega) (by rw [Hgr.out]; exact Hk4.out) hst)
  have Hk4':=hide' hk4
  have Hj:=hide' hj
  have Hown4:=hide' hown
  clear hk4 hcs4 hj hst hown hgrown hup4
  go_wp2_with fail
  refine He.out.mono ?_
  rintro e w5 ⟨qv,st',T',rfl,_,hk5,_,hres⟩
  have hk5':Below w.heap.size w w5:=(Hk3.out.trans (Kept.below (Hk4'.out) (by omega) (fun _ h=>h.elim))).trans (hk5.below (by omega) (fun k e=>by
   have h6:some w3.heap.size=some k:=e
   simp at h6; omega))
  have Hk5:=hide' hk5'
  have Hres:=hide' hres
  clear hk5 hk5' hres
  rcases Hres.out with ⟨rfl,_,_,hkn,hd,_,_⟩ | ⟨rfl,hst⟩
  ·have Hu:Hid (∃ θ,Ts θ∧ap θ l=ap θ m):=by
    rw [Hgr.out] at hkn
    have hm:=(join_mgu Hlay.out Hfirst.out hxl hyl Htx.out Hty.out Hj.out hkn hd).1
    exact ⟨_,hm.ts,hm.unif⟩
   clear hkn hd Hres
   go_wp2
   refine bodyPost_ret (v := .bool true) (by simp [results,Tryz.results206,go_sem]) rfl ?_
   exact ⟨_,rfl,Hk5.out,Or.inl ⟨rfl,Hu.out⟩⟩
  ·have Hn:Hid (NoFit l m):=by
    rw [Hgr.out] at hst
    refine no_stuck Hlay.out Hfirst.out hxl hyl Htx.out Hty.out Hj.out (i:=x) (fun val hv hc => ?_)
    obtain ⟨r,hr,hle⟩:=hst val hv hc
    unfold on at hr
    have:=List.mem_of_getElem? hr
    simp at this
   clear hst Hres
   go_wp2
   refine bodyPost_ret (v := .bool false) (by simp [results,Tryz.results206,go_sem]) rfl ?_
   exact ⟨_,rfl,Hk5.out,Or.inr ⟨rfl,Hn.out⟩⟩
end Go.Proofs.YtlmjilpjmgjjcaaGreatDoor
