/-
  PROVED HERE: plain facts on rows of goals in memory that are appended to each other (the conditions stand in each statement).
-/
import Derived.Test.YtlmjilpjmgjjcaaGreatDoorT4
set_option linter.unusedSimpArgs false
set_option linter.unusedVariables false
set_option maxRecDepth 10000
set_option maxHeartbeats 4000000
namespace Go.Proofs.YtlmjilpjmgjjcaaGreatDoor
open Go.RowKit
open Tryz
variable{w w' w1 w2 w0 wr:World}{n k B b i p size cap M rb bW x:Nat}{v cv gv vv lv:Value}{xs ys vs:Lv}{X Y S:Np}{s:ByteArray}{t e:TypeId}{fr:Nat×Nat}{P:Program}{l:Ly}{ls ts:Ll}{ρ:Nat->Nat}{σ:Nat->Ly}{cs:Lc}{c:Dt}{a:Ll×At}{ds r:Ln}{st:RS}{L:Bj}{G:Gr}{A:List Lu}
inductive Ph where
 |rd (lo hi:Nat) (g:List Value->Value)
 |st (p:Nat)
 |no
def Ph.val(vs:Lv):Ph->Value
 | .rd lo _ g=>g (vs.take lo)
 | .st p=>vs.getD p undef
 | .no=>undef
def Ph.due:Ph->Nat
 | .rd lo _ _=>lo
 | .st p=>p+1
 | .no=>0
def Ph.kd(vs:Lv)(q:Ph):Kd:= .pur (q.val vs)
def Ph.isSt(p:Nat):Ph->Bool
 | .st r=>r==p
 |_=>false
abbrev Hq(a0:Act)(vs:List Value)(lst:Nat->Bool)(ops:List Oper)(ph:List Ph):Act:=pa a0 undef Fn lst 0 ops (ph.map (Ph.kd vs))
abbrev El(a0:Act)(ops:List Oper)(ph:List Ph)(vs:List Value):Act:=Hq a0 vs (fun _=>true) ops ph
theorem I9{a0:Act}{lst:Nat->Bool}{f a:Ph->Kd}:∀{ops:List Oper}{ph:List Ph}{k:Nat},(∀j q,ph[j]?=some q->lst (k+j)=true->(f q).val undef Fn (k+j)=(a q).val undef Fn (k+j))->
  pa a0 undef Fn lst k ops (ph.map f)=pa a0 undef Fn lst k ops (ph.map a):=by
 intro ops
 induction ops with
 |nil=>intro ph k _;simp[pa]
 |cons o os d=>
  intro ph k h
  cases ph with
  |nil=>simp[pa]
  |cons q i=>
   have h0:=h 0 q rfl;simp only[Nat.add_zero]at h0;have g:=d (ph:=i) (k:=k+1) (fun j r c=>by
    have:=h (j+1) r (by simpa using c);have e:k+1+j=k+(j+1):=Yo
    rw[e];exact this)
   simp only[Qx];rw[pa,pa,g];split
   ·rename_i b;rw[h0 b]
   ·rfl
def D5(ops:List Oper):Nat->Nat->Nat->Bool
 |0,_,_=>false
 |n+1,i,j=>match ops[i]? with
  |some o=>Bl o j||(List.range i).any fun k=>Bl o k&&D5 ops n k j
  |none=>false
theorem GS{ops:List Oper}{L:Nat->Bool}(b:∀(i:Nat) o,ops[i]?=some o->L i=true->∀j,Bl o j=true->L j=true):∀(n i j:Nat),D5 ops n i j=true->L i=true->L j=true:=by
 intro n
 induction n with
 |zero=>intro i j h;simp[D5]at h
 |succ n e=>
  intro i j h hl;unfold D5 at h
  cases a:ops[i]? with
  |none=>rw[a]at h;simp at h
  |some o=>
   rw[a]at h;simp only[Bool.or_eq_true,List.any_eq_true,List.mem_range,Q6]at h;rcases h with h|⟨k,_,c,d⟩
   ·exact b i o a hl j h
   ·exact e k j d (b i o a hl k c)
theorem K6{ops:List Oper}{L:Nat->Bool}(d:∀(i:Nat) o,ops[i]?=some o->L i=true->∀j,Bl o j=true->L j=true){j:Nat}{o:Oper}(e:ops[i]?=some o)(a:∀k,Bl o k=true->L k=true)(h:D5 ops n i j=true):L j=true:=by
 cases n with
 |zero=>simp[D5]at h
 |succ n=>
  unfold D5 at h;rw[e]at h;simp only[Bool.or_eq_true,List.any_eq_true,List.mem_range,Q6]at h;rcases h with h|⟨k,_,b,c⟩
  ·exact a j h
  ·exact GS d n k j c (a k b)
def Iv(ph:List Ph)(p:Nat)(f:Nat->Bool):Bool:=(List.range ph.length).any fun j=>(match ph[j]? with|some r=>r.isSt p|none=>false)&&f j
theorem Et{ph:List Ph}{f:Nat->Bool}(h:Iv ph p f=true):∃j,ph[j]?=some (.st p)/\f j=true:=by
 unfold Iv at h;simp only[List.any_eq_true,List.mem_range,Q6]at h;obtain⟨j,_,a,c⟩:=h
 cases b:ph[j]? with
 |none=>rw[b]at a;simp at a
 |some r=>
  rw[b]at a
  cases r with
  |st q=>
   simp only[Ph.isSt,beq_iff_eq]at a;subst a;exact⟨j,b,c⟩
  |_=>simp[Ph.isSt]at a
def Nf(T:Nat)(ops:List Oper)(ph:List Ph)(m n:Nat):Bool:=
 (ops.length==ph.length&&(List.range m).all fun p=>Iv ph p (fun _=>true))&&
 (List.range ops.length).all fun i=>match ops[i]?,ph[i]? with
  |some o,some q=>
   (match o.guard with
    |none=>true
    |some (j,_)=>Bl o j&&(match ops[j]? with
     |some p=>match p.dst with|some d=>decide (d<T)|none=>false
     |_=>false))&&(match o.op with| .select .. =>false|_=>true)&&
   (o.after.all fun e=> !Region.binds .any e||e.on<i)&&
   ((List.range ops.length).all fun j=>match ops[j]? with
    |some p=>match p.dst with
     |some d=>((j==i)||(o.dst !=some d))&&(!(o.looksAt ops.toArray).contains d||Bl o j)
     |none=>true
    |none=>true)&&
   (match q with
    | .rd lo hi _=>(lo==0||Iv ph (lo-1) (fun j=>D5 ops n i j))&&(decide (m<=hi)||Iv ph hi (fun j=>D5 ops n j i))
    | .st p=>decide (p<m)&&(p==0||Iv ph (p-1) (fun j=>D5 ops n i j))&&((List.range ops.length).all fun j=>j==i||(match ph[j]? with|some r=> !r.isSt p|none=>true))
    | .no=>o.guard.isSome)
  |_,_=>false
structure XH(T:Nat)(ops:List Oper)(ph:List Ph)(m n i:Nat)(o:Oper)(q:Ph):Prop where
 gd:o.guard=none\/∃j b p d,o.guard=some (j,b)/\Bl o j=true/\ops[j]?=some p/\p.dst=some d/\d<T
 sel:∀cs b,o.op≠.select cs b
 low:∀e∈o.after,Region.binds .any e=true->e.on<i
 dst:∀j p d,ops[j]?=some p->p.dst=some d->j=i\/o.dst≠some d
 look:∀j p d,ops[j]?=some p->p.dst=some d->d∈o.looksAt ops.toArray->Bl o j=true
 rdl:∀lo hi g,q= .rd (lo+1) hi g->∃j,ph[j]?=some (.st lo)/\D5 ops n i j=true
 rdh:∀lo hi g,q= .rd lo hi g->m<=hi\/∃j,ph[j]?=some (.st hi)/\D5 ops n j i=true
 stm:∀p,q= .st p->p<m
 stl:∀p,q= .st (p+1)->∃j,ph[j]?=some (.st p)/\D5 ops n i j=true
 stu:∀p,q= .st p->∀j,ph[j]?=some (.st p)->j=i
 ng:q= .no->o.guard≠none
theorem S7{T:Nat}{ops:List Oper}{ph:List Ph}{m:Nat}(h:Nf T ops ph m n=true){o:Oper}(t:ops[i]?=some o):∃q,ph[i]?=some q/\XH T ops ph m n i o q:=by
 unfold Nf at h;simp only[Q6,List.all_eq_true,List.mem_range,beq_iff_eq]at h;obtain⟨⟨hl,_⟩,h⟩:=h;have hi:=(Qa.1 t).1;have h:=h i hi;rw[t]at h
 cases u:ph[i]? with
 |none=>rw[u]at h;simp at h
 |some q=>
  rw[u]at h;simp only[Q6,List.all_eq_true,List.mem_range]at h;obtain⟨⟨⟨⟨k,l⟩,v⟩,r⟩,a⟩:=h;refine⟨q,rfl,?_,?_,?_,?_,?_,?_,?_,?_,?_,?_,?_⟩
  ·cases y:o.guard with
   |none=>exact Or.inl rfl
   |some A=>
    obtain⟨j,b⟩:=A;rw[y]at k;simp only[Q6]at k;obtain⟨w,f⟩:=k
    cases c:ops[j]? with
    |none=>rw[c]at f;simp at f
    |some p=>
     rw[c]at f;simp only at f
     cases hd:p.dst with
     |none=>rw[hd]at f;simp at f
     |some d=>
      rw[hd]at f;exact Or.inr ⟨j,b,p,d,rfl,w,c,hd,by simpa using f⟩
  ·intro cs b e;rw[e]at l;simp at l
  ·intro e x hb;have:=Array.all_eq_true_iff_forall_mem.1 v e x;simpa[hb]using this
  ·intro j p d c hd;have:=r j (Qa.1 c).1;rw[c]at this;simp only[hd,Q6,Bool.or_eq_true,beq_iff_eq,bne_iff_ne]at this;exact this.1
  ·intro j p d c hd z;have:=r j (Qa.1 c).1;rw[c]at this;simp only[hd,Q6,Bool.or_eq_true,beq_iff_eq,bne_iff_ne]at this;rcases this.2 with h|h
   ·simp[z]at h
   ·exact h
  ·intro lo hi g e;subst e;simp only[Q6,Bool.or_eq_true]at a;rcases a.1 with h|h
   ·simp at h
   ·exact Et h
  ·intro lo hi g e;subst e;simp only[Q6,Bool.or_eq_true,Q7]at a;rcases a.2 with h|h
   ·exact Or.inl h
   ·exact Or.inr (Et h)
  ·intro p e;subst e;simp only[Q6,Q7]at a;exact a.1.1
  ·intro p e;subst e;simp only[Q6,Bool.or_eq_true]at a;rcases a.1.2 with h|h
   ·simp at h
   ·exact Et h
  ·intro p e j s;subst e;simp only[Q6,List.all_eq_true,List.mem_range,Bool.or_eq_true,beq_iff_eq]at a;rcases a.2 j (by have:=(Qa.1 s).1;omega)with h|h
   ·exact h
   ·rw[s]at h;simp[Ph.isSt]at h
  ·intro e;subst e;intro hn;rw[hn]at a;simp at a
inductive S0 (P:Program) (S:List Value->World->Prop) (vs:List Value) (u:World) (ev:Operand->Value) (o:Oper):Prop
 |value (v:Value) (w':World) (h:(execOp ev o).run P u= .ok (.value v) w') (hS:S (vs++[v]) w')
 |skip (w':World) (h:(execOp ev o).run P u= .ok .skip w') (hS:S (vs++[undef]) w')
 |call (f:FuncId) (args:Array Value) (u1:World) (h:(execOp ev o).run P u= .ok (.enter f args) u1) (hS:Calls P f args u1 (fun e u'=>∃v,e= .returned v/\S (vs++[v]) u'))
 |row (f:String) (args:Array Value) (u1:World) (h:(execOp ev o).run P u= .ok (.row f args) u1) (hS:Rows P f args u1 (fun v u'=>S (vs++[v]) u'))
def XV(P:Program)(S:Lv->World->Prop)(FA:Lv->Act)(ph:List Ph)(o:Oper)(q:Ph):Prop:=
 (match o.guard with
  |none=>True
  |some (j,b)=>match ph[j]? with
   |none=>False
   |some r=>∀vs u,r.due<=vs.length->S vs u->(match q with| .no=>r.val vs≠.bool b|_=>r.val vs= .bool b))/\
 (match q with
  | .rd lo hi g=>∀vs u,lo<=vs.length->vs.length<=hi->S vs u->(execOp (FA vs).eval o).run P u= .ok (.value (g (vs.take lo))) u
  | .st p=>∀vs u,vs.length=p->S vs u->S0 P S vs u (FA vs).eval o
  | .no=>True)
def Og(P:Program)(S:Lv->World->Prop)(FA:Lv->Act)(ph0:List Ph):List Oper->List Ph->Prop
 |o::os,q::qs=>XV P S FA ph0 o q/\Og P S FA ph0 os qs
 |_,_=>True
theorem Og.at{S:Lv->World->Prop}{c:Lv->Act}{d:List Ph}:∀{ops:List Oper}{ks:List Ph},Og P S c d ops ks->
  ∀{i:Nat}{o:Oper}{q:Ph},ops[i]?=some o->ks[i]?=some q->XV P S c d o q:=by
 intro ops
 induction ops with
 |nil=>intro ks _ i o q h;simp at h
 |cons p os e=>
  intro ks h i o q b a
  cases ks with
  |nil=>simp at a
  |cons r f=>
   cases i with
   |zero=>simp at b a;subst b a;exact h.1
   |succ i=>exact e h.2 (i:=i) (by simpa using b) (by simpa using a)
structure JN(ops:List Oper)(ph:List Ph)(m:Nat)(a0:Act)(S:List Value->World->Prop)(L:Array Bool)(a:Act)(w:World):Prop where
 size:L.size=ops.length
 closed:∀(i:Nat) o,ops[i]?=some o->L.getD i false=true->∀j,Bl o j=true->L.getD j false=true
 st:∃vs,a=Hq a0 vs (fun j=>L.getD j false) ops ph/\S vs w/\vs.length<=m/\(∀(i p:Nat),ph[i]?=some (Ph.st p)->(L.getD i false=true↔p<vs.length))/\(∀(i:Nat) q,ph[i]?=some q->L.getD i false=true->q.due<=vs.length)
theorem FB{ops:List Oper}{bz:Nat}{au:Exit->Act->World->Prop}{a0:Act}(bo:P.follows .mixedOrders=true)(ph:List Ph)(m n:Nat)(G:Nf a0.tmps.size ops ph m n=true)
  (S:Lv->World->Prop) (bj:S [] w.drew) (bq:Og P S (fun vs=>El a0 ops ph vs) ph ops ph)
  (bi:∀vs u,vs.length=m->S vs u->au .normal (El a0 ops ph vs) u):
  (Code.region bz ops.toArray true).wp P au a0 w:=by
 have a1:ops.length=ph.length/\∀p,p<m->∃j:Nat,ph[j]?=some (Ph.st p):=by
  unfold Nf at G;simp only[Q6,beq_iff_eq,List.all_eq_true,List.mem_range]at G;exact⟨G.1.1,fun p ai=>by obtain⟨j,h,_⟩:=Et (G.1.2 p ai);exact⟨j,h⟩⟩
 obtain⟨a1,bk⟩:=a1;have b3:∀{t:Nat}{O:Ph},ph[t]?=some O->∃N,ops[t]?=some N/\XH a0.tmps.size ops ph m n t N O:=fun{t O} s=>by
  have A:=Qb (l:=ops) (i:=t) (by have:=(Qa.1 s).1;omega);obtain⟨b5,aj,bh⟩:=S7 G A;rw[s]at aj;simp at aj;subst aj;exact⟨_,A,bh⟩
 refine wp_region_any bo (Gz (J:=JN ops ph m a0 S) ?_ ?_ _ _ _ _ ?_ ?_)
 ·intro L a u i R ag;obtain⟨al,ac,vs,rfl,K,a9,I,W⟩:=ag;obtain⟨h0,o,a4,_⟩:=mem_ready.1 R;have A:ops[i]?=some o:=by simpa using a4
  have hi:i<ops.length:=(Qa.1 A).1;have ay:i<L.size:=Yo
  have am:L.getD i false=false:=by simp[ay]at h0⊢;exact h0
  obtain⟨q,H,C⟩:=S7 G A;have ab:=bq.at A H;have an:∀k,Bl o k=true->L.getD k false=true:=fun k X=>Be R A X;have bl:execOp (Hq a0 vs (fun j=>L.getD j false) ops ph).eval o=execOp (El a0 ops ph vs).eval o:=by
   refine execOp_congr o C.sel (fun x bx=>Kt (fun j p ai hl d hd e=> ?_));subst e;have bw:=C.look j p d ai hd (Q9 _ (List.mem_filterMap.2 ⟨.tmp d,by simpa using bx,rfl⟩));have:=Be R A bw;simp only[Nat.zero_add]at hl;rw[hl]at this;simp at this
  have ba:∀j b,o.guard=some (j,b)->∃r,ph[j]?=some r/\r.due<=vs.length/\yielded ops.toArray (Hq a0 vs (fun j=>L.getD j false) ops ph).tmps j=(match r.val vs with| .bool c=>some c|_=>none):=by
   intro j b z;rcases C.gd with ah|⟨ae,b2,p,d,ah,s,V,af,bd⟩
   ·rw[ah]at z;simp at z
   ·rw[ah]at z;simp only[Qo,Prod.mk.injEq]at z;obtain⟨rfl,rfl⟩:=z;obtain⟨r,y,bg⟩:=S7 G V;have X:(ph.map (Ph.kd vs))[ae]?=some (r.kd vs):=by simp[y]
    have bt:=U1 (a0:=a0) (vc:=undef) (β:=Fn) (lst:=fun j=>L.getD j false) (k:=0) V X (by simpa using an ae s) af (fun b0 p' be bf=>by
     rcases bg.dst b0 p' d be bf with h|h
     ·exact h
     ·exact absurd af h) bd
    refine⟨r,y,W ae r y (an ae s),?_⟩;unfold yielded;simp only[List.getElem?_toArray,V,Option.bind_some,af,bt,Kd.val,Ph.kd]
    cases r.val vs<;>rfl
  have aa:=E7 ay;have a5:∀j,L.getD j false=true->(L.setIfInBounds i true).getD j false=true:=fun j h=>by rw[aa,h];rfl
  have Y:∀j,j≠i->(L.setIfInBounds i true).getD j false=L.getD j false:=fun j h=>by
   rw[aa];have:(j==i)=false:=by rw[Qu];exact h
   simp[this]
  have a6:∀E,(∀j r,ph[j]?=some r->L.getD j false=true->r.val vs=r.val E)->
    (Hq a0 vs (fun j=>L.getD j false) ops ph).put o.dst (q.val E)=Hq a0 E (fun j=>(L.setIfInBounds i true).getD j false) ops ph:=by
   intro E T;have bb:Hq a0 vs (fun j=>L.getD j false) ops ph=Hq a0 E (fun j=>L.getD j false) ops ph:=I9 (fun j r y hl=>by
    simp only[Nat.zero_add]at hl;exact T j r y hl)
   rw[bb];have X:(ph.map (Ph.kd E))[i]?=some (q.kd E):=by simp[H]
   have U:=Lq (a0:=a0) (vc:=undef) (β:=Fn) (lst:=fun j=>L.getD j false) (k:=0) A X (by simpa using am) C.dst;simp only[Nat.zero_add]at U;have bc:(q.kd E).val undef Fn i=q.val E:=rfl;rw[bc]at U;show(pa a0 undef Fn (fun j=>L.getD j false) 0 ops (ph.map (Ph.kd E))).put o.dst (q.val E)=_;rw[<-U];exact CV (fun j r y=>⟨by simp only[Nat.zero_add,aa],fun _=>rfl⟩)
  have aw:∀(t:Nat) N,ops[t]?=some N->(L.setIfInBounds i true).getD t false=true->∀j,Bl N j=true->(L.setIfInBounds i true).getD j false=true:=by
   intro t N s B j M
   by_cases e:t=i
   ·subst e;rw[A]at s;simp at s;subst s;exact a5 _ (Be R A M)
   ·exact a5 _ (ac t N s ((Y t e).symm.trans B) j M)
  have a8:∀j,D5 ops n i j=true->L.getD j false=true:=fun j h=>K6 (L:=fun j=>L.getD j false) ac A an h
  --the operation turns no memory
  have az:(∀p,q≠.st p)->q.due<=vs.length->JN ops ph m a0 S (L.setIfInBounds i true) ((Hq a0 vs (fun j=>L.getD j false) ops ph).put o.dst (q.val vs)) u:=fun bp br=>by
   refine⟨by simpa using al,aw,vs,a6 vs (fun _ _ _ _=>rfl),K,a9,?_,?_⟩
   ·intro t p s;have a3:t≠i:=fun e=>by subst e;rw[H]at s;exact bp p (Option.some.inj s)
    rw[Y t a3];exact I t p s
   ·intro t O s B
    by_cases e:t=i
    ·subst e;rw[H]at s;simp at s;subst s;exact br
    ·exact W t O s ((Y t e).symm.trans B)
  unfold wpOp;simp only[a4]
  by_cases ak:q= .no
  ·subst ak
   cases z:o.guard with
   |none=>exact absurd z (C.ng rfl)
   |some ar=>
    obtain⟨j,b⟩:=ar;obtain⟨r,y,hd,ap⟩:=ba j b z;have D:=ab.1;rw[z]at D;simp only[y]at D;have T:=D vs u hd K;have ao:Region.wanted o (yielded ops.toArray (Hq a0 vs (fun j=>L.getD j false) ops ph).tmps)=false:=by
     unfold Region.wanted;rw[z];simp only;rw[ap]
     cases bs:r.val vs with
     |bool c=>
      rw[bs]at T;have:c≠b:=fun e=>T (by rw[e]);simpa using this
     |_=>simp
    rw[if_neg (by rw[ao];simp)];exact az (fun p=>by simp) (Qm _)
  ·have ao:Region.wanted o (yielded ops.toArray (Hq a0 vs (fun j=>L.getD j false) ops ph).tmps)=true:=by
    cases z:o.guard with
    |none=>simp[Region.wanted,z]
    |some ar=>
     obtain⟨j,b⟩:=ar;obtain⟨r,y,hd,ap⟩:=ba j b z;have D:=ab.1;rw[z]at D;simp only[y]at D;have T:=D vs u hd K;have bu:r.val vs= .bool b:=by cases q<;>first|exact T|exact absurd rfl ak
     unfold Region.wanted;rw[z];simp only;rw[ap,bu];simp
   rw[if_pos ao];refine Or.inl ?_;unfold Oper.wp;rw[bl]
   cases q with
   |no=>exact absurd rfl ak
   |rd lo hi g=>
    have a2:lo<=vs.length:=by
     cases lo with
     |zero=>exact Qm _
     |succ lo=>
      obtain⟨j,s,B⟩:=C.rdl lo hi g rfl;exact(I j lo s).1 (a8 j B)
    have bm:vs.length<=hi:=by
     rcases C.rdh lo hi g rfl with h|⟨j,s,B⟩
     ·omega
     ·rcases QB hi vs.length with h|h
      ·have M:=(I j hi s).2 h;have:=GS (L:=fun j=>L.getD j false) ac n j i B M;rw[am]at this;simp at this
      ·exact h
    have D:(execOp (El a0 ops ph vs).eval o).run P u=_:=ab.2 vs u a2 bm K;rw[D];exact az (fun p=>by simp) a2
   |st p=>
    have a7:vs.length=p:=by
     have s:¬p<vs.length:=fun h=>by
      have:=(I i p H).2 h;rw[am]at this;simp at this
     cases p with
     |zero=>omega
     |succ p=>
      obtain⟨j,B,V⟩:=C.stl p rfl;have:=(I j p B).1 (a8 j V);omega
    have b4:=C.stm p rfl;have ad:∀v Q,S (vs++[v]) Q->JN ops ph m a0 S (L.setIfInBounds i true) ((Hq a0 vs (fun j=>L.getD j false) ops ph).put o.dst v) Q:=by
     intro v Q F;have bv:(Ph.st p).val (vs++[v])=v:=by
      subst a7;simp[Ph.val]
     refine⟨by simpa using al,aw,vs++[v],?_,F,by simp;omega,?_,?_⟩
     ·rw[<-a6 (vs++[v]) ?_,bv];intro j r s B;have hd:=W j r s B
      cases r with
      |rd lo hi g=>
       simp only[Ph.due]at hd;simp only[Ph.val];rw[List.take_append_of_le_length hd]
      |st p'=>
       simp only[Ph.due]at hd;simp only[Ph.val,List.getD_eq_getElem?_getD];rw[Qc Yo]
      |no=>rfl
     ·intro t p' s
      by_cases e:t=i
      ·subst e;rw[H]at s;simp at s;subst s;rw[aa];simp;omega
      ·rw[Y t e,I t p' s];have a3:p'≠p:=fun U=>by subst U;exact e (C.stu p' rfl t s)
       simp only[Qg,Qf,Qt];omega
     ·intro t O s B;simp only[Qg,Qf,Qt]
      by_cases e:t=i
      ·subst e;rw[H]at s;simp at s;subst s;simp only[Ph.due];omega
      ·have:=W t O s ((Y t e).symm.trans B);omega
    have D:S0 P S vs u (El a0 ops ph vs).eval o:=ab.2 vs u a7 K
    cases D with
    |value v w' h F=>rw[h];exact ad v w' F
    |skip w' h F=>rw[h];exact ad undef w' F
    |call f args b1 h F=>
     rw[h];apply F.mono;rintro e Q ⟨v,rfl,y⟩;exact ad v Q y
    |row f args b1 h F=>
     rw[h];exact F.mono (fun v Q y=>ad v Q y)
 ·intro L a u R ag;obtain⟨al,ac,vs,rfl,K,a9,I,W⟩:=ag;have av:∀i,i<ops.length->L.getD i false=true:=by
   intro i
   induction i using Nat.strongRecOn with
   |_ i aq=>
    intro hi
    cases hl:L.getD i false with
    |true=>rfl
    |false=>
     exfalso;have A:ops[i]?=some ops[i]:=Qb hi;obtain⟨q,H,C⟩:=S7 G A;have:i∈Region.ready .any ops.toArray L:=by
      refine mem_ready.2 ⟨?_,ops[i],Ys,fun e ax hb=>aq e.on (C.low e ax hb) (by have:=C.low e ax hb;omega)⟩;have bn:i<L.size:=Yo
      simp[bn]at hl⊢;exact hl
     rw[R]at this;simp at this
  have e:Hq a0 vs (fun j=>L.getD j false) ops ph=El a0 ops ph vs:=CV (fun j r y=>⟨by
   simp only[Nat.zero_add];exact av j (by have:=(Qa.1 y).1;simp at this;omega),fun _=>rfl⟩)
  rw[e];refine bi vs u ?_ K;rcases QB vs.length m with h|h
  ·obtain⟨j,M⟩:=bk _ h;have:=(I j _ M).1 (av j (by have:=(Qa.1 M).1;omega));omega
  ·omega
 ·have:(ops.toArray).size=ops.length:=Ys
  unfold Xn;exact Qq (List.length_filter_le _ _) Ys
 ·have hz:∀j,(Array.replicate ops.toArray.size false).getD j false=false:=fun j=>by
   simp only[Array.getD_eq_getD_getElem?,Array.getElem?_replicate];split<;>rfl
  refine⟨Ys,?_,[],?_,bj,Qm _,?_,?_⟩
  ·intro i o _ h;rw[hz]at h;simp at h
  ·have:∀(k:Nat)(os:List Oper)(Z:List Kd),pa a0 undef Fn (fun j=>(Array.replicate ops.toArray.size false).getD j false) k os Z=a0:=by
    intro k os
    induction os generalizing k with
    |nil=>intro Z;simp[pa]
    |cons o os aq=>
     intro Z
     cases Z with
     |nil=>simp[pa]
     |cons q Z=>rw[pa,hz];simp only[Bool.false_eq_true,if_false];exact aq _ _
   exact(this _ _ _).symm
  ·intro i p _;rw[hz];simp
  ·intro i q _ h;rw[hz]at h;simp at h
theorem Wm{a0:Act}{vc:Value}{β:Nat->Nat}{lst i:Nat->Bool}{x:Operand}:∀{ops:List Oper}{kd:List Kd}{k:Nat},(∀j o d,ops[j]?=some o->o.dst=some d->x= .tmp d->lst (k+j)=i (k+j))->
  (pa a0 vc β lst k ops kd).eval x=(pa a0 vc β i k ops kd).eval x:=by
 intro ops
 induction ops with
 |nil=>intro kd k _;simp[pa]
 |cons o os n=>
  intro kd k h
  cases kd with
  |nil=>simp[pa]
  |cons q p=>
   have g:=n (kd:=p) (k:=k+1) (fun j r d m hd a=>by
    have e:k+1+j=k+(j+1):=Yo
    rw[e];exact h (j+1) r d (by simpa using m) hd a)
   rw[pa,pa]
   by_cases a:∃d,o.dst=some d/\x= .tmp d
   ·obtain⟨d,hd,rfl⟩:=a;have h0:=h 0 o d rfl hd rfl;simp only[Nat.add_zero]at h0;rw[<-h0];split
    ·rw[hd];simp only[Act.eval,Act.put,Array.getD_eq_getD_getElem?];rcases QB d a0.tmps.size with c|c
     ·rw[Array.getElem?_setIfInBounds_self_of_lt (by rw[I8];exact c),Array.getElem?_setIfInBounds_self_of_lt (by rw[I8];exact c)]
     ·rw[Array.getElem?_eq_none (by simp[I8];omega),Array.getElem?_eq_none (by simp[I8];omega)]
    ·exact g
   ·have l:∀d,o.dst=some d->x≠.tmp d:=fun d hd e=>a ⟨d,hd,e⟩;have f:∀(b:Bool)(A:Act)(v:Value),(if b then A.put o.dst v else A).eval x=A.eval x:=fun b A v=>by
     cases b
     ·rfl
     ·exact Act.eval_put l
    rw[f,f];exact g
theorem Uz{o:Oper}{j:Nat}(h:Bl o j=true):∃e∈o.after,Region.binds .any e=true/\e.on=j:=by
 unfold Bl at h;rw[<-Array.any_toList]at h;obtain⟨e,a,hb⟩:=List.any_eq_true.1 h;simp only[Q6,beq_iff_eq]at hb;exact⟨e,by simpa using a,hb.1,hb.2⟩
def NV(z T:Nat)(ops:List Oper)(ph:List Ph)(m n:Nat):Bool:=
 (ops.length==ph.length&&(List.range m).all fun p=>Iv ph p (fun _=>true))&&
 (List.range ops.length).all fun i=>match ops[i]?,ph[i]? with
  |some o,some q=>
   (match o.guard with
    |none=>true
    |some (j,_)=>Bl o j&&(match ops[j]? with
     |some p=>match p.dst with|some d=>decide (d<T)|none=>false
     |_=>false))&&(match o.op with| .select .. =>false|_=>true)&&
   (o.after.all fun e=> !Region.binds .any e||e.on<i)&&
   ((List.range ops.length).all fun j=>match ops[j]? with
    |some p=>match p.dst with
     |some d=>((j==i)||(o.dst !=some d))&&(!(o.looksAt ops.toArray).contains d||(Bl o j&&j !=z)||(j==z&&Bl p i))
     |none=>true
    |none=>true)&&
   (match q with
    | .rd lo hi _=>(lo==0||Iv ph (lo-1) (fun j=>D5 ops n i j))&&(decide (m<=hi)||Iv ph hi (fun j=>D5 ops n j i))
    | .st p=>decide (p<m)&&(p==0||Iv ph (p-1) (fun j=>D5 ops n i j))&&((List.range ops.length).all fun j=>j==i||(match ph[j]? with|some r=> !r.isSt p|none=>true))
    | .no=>o.guard.isSome)
  |_,_=>false
structure XG(z T:Nat)(ops:List Oper)(ph:List Ph)(m n i:Nat)(o:Oper)(q:Ph):Prop where
 gd:o.guard=none\/∃j b p d,o.guard=some (j,b)/\Bl o j=true/\ops[j]?=some p/\p.dst=some d/\d<T
 sel:∀cs b,o.op≠.select cs b
 low:∀e∈o.after,Region.binds .any e=true->e.on<i
 dst:∀j p d,ops[j]?=some p->p.dst=some d->j=i\/o.dst≠some d
 look:∀j p d,ops[j]?=some p->p.dst=some d->d∈o.looksAt ops.toArray->(Bl o j=true/\j≠z)\/(j=z/\Bl p i=true)
 rdl:∀lo hi g,q= .rd (lo+1) hi g->∃j,ph[j]?=some (.st lo)/\D5 ops n i j=true
 rdh:∀lo hi g,q= .rd lo hi g->m<=hi\/∃j,ph[j]?=some (.st hi)/\D5 ops n j i=true
 stm:∀p,q= .st p->p<m
 stl:∀p,q= .st (p+1)->∃j,ph[j]?=some (.st p)/\D5 ops n i j=true
 stu:∀p,q= .st p->∀j,ph[j]?=some (.st p)->j=i
 ng:q= .no->o.guard≠none
theorem Tt{v T:Nat}{ops:List Oper}{ph:List Ph}{m:Nat}(h:NV v T ops ph m n=true){o:Oper}(t:ops[i]?=some o):∃q,ph[i]?=some q/\XG v T ops ph m n i o q:=by
 unfold NV at h;simp only[Q6,List.all_eq_true,List.mem_range,beq_iff_eq]at h;obtain⟨⟨hl,_⟩,h⟩:=h;have hi:=(Qa.1 t).1;have h:=h i hi;rw[t]at h
 cases u:ph[i]? with
 |none=>rw[u]at h;simp at h
 |some q=>
  rw[u]at h;simp only[Q6,List.all_eq_true,List.mem_range]at h;obtain⟨⟨⟨⟨k,l⟩,w⟩,r⟩,a⟩:=h;refine⟨q,rfl,?_,?_,?_,?_,?_,?_,?_,?_,?_,?_,?_⟩
  ·cases z:o.guard with
   |none=>exact Or.inl rfl
   |some B=>
    obtain⟨j,b⟩:=B;rw[z]at k;simp only[Q6]at k;obtain⟨x,f⟩:=k
    cases c:ops[j]? with
    |none=>rw[c]at f;simp at f
    |some p=>
     rw[c]at f;simp only at f
     cases hd:p.dst with
     |none=>rw[hd]at f;simp at f
     |some d=>
      rw[hd]at f;exact Or.inr ⟨j,b,p,d,rfl,x,c,hd,by simpa using f⟩
  ·intro cs b e;rw[e]at l;simp at l
  ·intro e y hb;have:=Array.all_eq_true_iff_forall_mem.1 w e y;simpa[hb]using this
  ·intro j p d c hd;have:=r j (Qa.1 c).1;rw[c]at this;simp only[hd,Q6,Bool.or_eq_true,beq_iff_eq,bne_iff_ne]at this;exact this.1
  ·intro j p d c hd A;have:=r j (Qa.1 c).1;rw[c]at this;simp only[hd,Q6,Bool.or_eq_true,beq_iff_eq,bne_iff_ne]at this;rcases this.2 with(h|h)|h
   ·simp[A]at h
   ·exact Or.inl h
   ·exact Or.inr h
  ·intro lo hi g e;subst e;simp only[Q6,Bool.or_eq_true]at a;rcases a.1 with h|h
   ·simp at h
   ·exact Et h
  ·intro lo hi g e;subst e;simp only[Q6,Bool.or_eq_true,Q7]at a;rcases a.2 with h|h
   ·exact Or.inl h
   ·exact Or.inr (Et h)
  ·intro p e;subst e;simp only[Q6,Q7]at a;exact a.1.1
  ·intro p e;subst e;simp only[Q6,Bool.or_eq_true]at a;rcases a.1.2 with h|h
   ·simp at h
   ·exact Et h
  ·intro p e j s;subst e;simp only[Q6,List.all_eq_true,List.mem_range,Bool.or_eq_true,beq_iff_eq]at a;rcases a.2 j (by have:=(Qa.1 s).1;omega)with h|h
   ·exact h
   ·rw[s]at h;simp[Ph.isSt]at h
  ·intro e;subst e;intro hn;rw[hn]at a;simp at a
abbrev XQ(z i:Nat)(a0:Act)(ops:List Oper)(ph:List Ph)(vs:List Value):Act:=Hq a0 vs (fun j=>i==z||j !=z) ops ph
def N7(P:Program)(S:Lv->World->Prop)(z:Nat)(a0:Act)(ops0:List Oper)(ph0:List Ph):Nat->List Oper->List Ph->Prop
 |k,o::os,q::qs=>XV P S (XQ z k a0 ops0 ph0) ph0 o q/\N7 P S z a0 ops0 ph0 (k+1) os qs
 |_,_,_=>True
theorem N7.at{S:Lv->World->Prop}{f:Nat}{a0:Act}{d:List Oper}{c:List Ph}:∀{ops:List Oper}{ks:List Ph}{k:Nat},N7 P S f a0 d c k ops ks->
  ∀{i:Nat}{o:Oper}{q:Ph},ops[i]?=some o->ks[i]?=some q->XV P S (XQ f (k+i) a0 d c) c o q:=by
 intro ops
 induction ops with
 |nil=>intro ks k _ i o q h;simp at h
 |cons p os g=>
  intro ks k h i o q b a
  cases ks with
  |nil=>simp at a
  |cons r j=>
   cases i with
   |zero=>simp at b a;subst b a;exact h.1
   |succ i=>
    have:=g h.2 (i:=i) (by simpa using b) (by simpa using a);have e:k+1+i=k+(i+1):=Yo
    rw[e]at this;exact this
theorem FC{ops:List Oper}{b6:Nat}{aw:Exit->Act->World->Prop}{a0:Act}(bv:P.follows .mixedOrders=true)(V:Nat)(ph:List Ph)(m n:Nat)(G:NV V a0.tmps.size ops ph m n=true)
  (S:Lv->World->Prop) (bl:S [] w.drew) (bx:N7 P S V a0 ops ph 0 ops ph)
  (bk:∀vs u,vs.length=m->S vs u->aw .normal (El a0 ops ph vs) u):
  (Code.region b6 ops.toArray true).wp P aw a0 w:=by
 have a3:ops.length=ph.length/\∀p,p<m->∃j:Nat,ph[j]?=some (Ph.st p):=by
  unfold NV at G;simp only[Q6,beq_iff_eq,List.all_eq_true,List.mem_range]at G;exact⟨G.1.1,fun p N=>by obtain⟨j,h,_⟩:=Et (G.1.2 p N);exact⟨j,h⟩⟩
 obtain⟨a3,bm⟩:=a3;have cb:∀{t:Nat}{Q:Ph},ph[t]?=some Q->∃O,ops[t]?=some O/\XG V a0.tmps.size ops ph m n t O Q:=fun{t Q} s=>by
  have A:=Qb (l:=ops) (i:=t) (by have:=(Qa.1 s).1;omega);obtain⟨cd,am,bj⟩:=Tt G A;rw[s]at am;simp at am;subst am;exact⟨_,A,bj⟩
 refine wp_region_any bv (Gz (J:=JN ops ph m a0 S) ?_ ?_ _ _ _ _ ?_ ?_)
 ·intro L a u i T ak;obtain⟨ao,Z,vs,rfl,K,bb,I,aa⟩:=ak;obtain⟨h0,o,a6,_⟩:=mem_ready.1 T;have A:ops[i]?=some o:=by simpa using a6
  have hi:i<ops.length:=(Qa.1 A).1;have a1:i<L.size:=Yo
  have ag:L.getD i false=false:=by simp[a1]at h0⊢;exact h0
  obtain⟨q,H,B⟩:=Tt G A;have Y:=bx.at A H;have ap:∀k,Bl o k=true->L.getD k false=true:=fun k ab=>Be T A ab;rw[Nat.zero_add]at Y;have bp:execOp (Hq a0 vs (fun j=>L.getD j false) ops ph).eval o=execOp (XQ V i a0 ops ph vs).eval o:=by
   refine execOp_congr o B.sel (fun x b5=>Wm (fun j p d N hd e=> ?_));subst e;simp only[Nat.zero_add];rcases B.look j p d N hd (Q9 _ (List.mem_filterMap.2 ⟨.tmp d,by simpa using b5,rfl⟩))with⟨ah,bu⟩|⟨rfl,ah⟩
   ·rw[Be T A ah];symm;simp only[Bool.or_eq_true,bne_iff_ne];exact Or.inr bu
   ·have bt:L.getD j false=false:=by
     cases bz:L.getD j false with
     |false=>rfl
     |true=>
      have:=Z j p N bz i ah;rw[ag]at this;simp at this
    rw[bt];have bs:i≠j:=by
     intro e;subst e;rw[A]at N;simp at N;subst N;obtain⟨e',bo,bn,ca⟩:=Uz ah;have:=B.low e' bo bn;omega
    symm;simp[bs]
  have bc:∀j b,o.guard=some (j,b)->∃r,ph[j]?=some r/\r.due<=vs.length/\yielded ops.toArray (Hq a0 vs (fun j=>L.getD j false) ops ph).tmps j=(match r.val vs with| .bool c=>some c|_=>none):=by
   intro j b z;rcases B.gd with al|⟨ai,b9,p,d,al,s,X,aj,bf⟩
   ·rw[al]at z;simp at z
   ·rw[al]at z;simp only[Qo,Prod.mk.injEq]at z;obtain⟨rfl,rfl⟩:=z;obtain⟨r,y,bi⟩:=Tt G X;have ab:(ph.map (Ph.kd vs))[ai]?=some (r.kd vs):=by simp[y]
    have b2:=U1 (a0:=a0) (vc:=undef) (β:=Fn) (lst:=fun j=>L.getD j false) (k:=0) X ab (by simpa using ap ai s) aj (fun b7 p' bg bh=>by
     rcases bi.dst b7 p' d bg bh with h|h
     ·exact h
     ·exact absurd aj h) bf
    refine⟨r,y,aa ai r y (ap ai s),?_⟩;unfold yielded;simp only[List.getElem?_toArray,X,Option.bind_some,aj,b2,Kd.val,Ph.kd]
    cases r.val vs<;>rfl
  have ae:=E7 a1;have a7:∀j,L.getD j false=true->(L.setIfInBounds i true).getD j false=true:=fun j h=>by rw[ae,h];rfl
  have ac:∀j,j≠i->(L.setIfInBounds i true).getD j false=L.getD j false:=fun j h=>by
   rw[ae];have:(j==i)=false:=by rw[Qu];exact h
   simp[this]
  have a8:∀E,(∀j r,ph[j]?=some r->L.getD j false=true->r.val vs=r.val E)->
    (Hq a0 vs (fun j=>L.getD j false) ops ph).put o.dst (q.val E)=Hq a0 E (fun j=>(L.setIfInBounds i true).getD j false) ops ph:=by
   intro E U;have bd:Hq a0 vs (fun j=>L.getD j false) ops ph=Hq a0 E (fun j=>L.getD j false) ops ph:=I9 (fun j r y hl=>by
    simp only[Nat.zero_add]at hl;exact U j r y hl)
   rw[bd];have ab:(ph.map (Ph.kd E))[i]?=some (q.kd E):=by simp[H]
   have W:=Lq (a0:=a0) (vc:=undef) (β:=Fn) (lst:=fun j=>L.getD j false) (k:=0) A ab (by simpa using ag) B.dst;simp only[Nat.zero_add]at W;have be:(q.kd E).val undef Fn i=q.val E:=rfl;rw[be]at W;show(pa a0 undef Fn (fun j=>L.getD j false) 0 ops (ph.map (Ph.kd E))).put o.dst (q.val E)=_;rw[<-W];exact CV (fun j r y=>⟨by simp only[Nat.zero_add,ae],fun _=>rfl⟩)
  have ay:∀(t:Nat) O,ops[t]?=some O->(L.setIfInBounds i true).getD t false=true->∀j,Bl O j=true->(L.setIfInBounds i true).getD j false=true:=by
   intro t O s C j M
   by_cases e:t=i
   ·subst e;rw[A]at s;simp at s;subst s;exact a7 _ (Be T A M)
   ·exact a7 _ (Z t O s ((ac t e).symm.trans C) j M)
  have ba:∀j,D5 ops n i j=true->L.getD j false=true:=fun j h=>K6 (L:=fun j=>L.getD j false) Z A ap h
  --the operation turns no memory
  have a2:(∀p,q≠.st p)->q.due<=vs.length->JN ops ph m a0 S (L.setIfInBounds i true) ((Hq a0 vs (fun j=>L.getD j false) ops ph).put o.dst (q.val vs)) u:=fun bw b0=>by
   refine⟨by simpa using ao,ay,vs,a8 vs (fun _ _ _ _=>rfl),K,bb,?_,?_⟩
   ·intro t p s;have a5:t≠i:=fun e=>by subst e;rw[H]at s;exact bw p (Option.some.inj s)
    rw[ac t a5];exact I t p s
   ·intro t Q s C
    by_cases e:t=i
    ·subst e;rw[H]at s;simp at s;subst s;exact b0
    ·exact aa t Q s ((ac t e).symm.trans C)
  unfold wpOp;simp only[a6]
  by_cases an:q= .no
  ·subst an
   cases z:o.guard with
   |none=>exact absurd z (B.ng rfl)
   |some av=>
    obtain⟨j,b⟩:=av;obtain⟨r,y,hd,ar⟩:=bc j b z;have D:=Y.1;rw[z]at D;simp only[y]at D;have U:=D vs u hd K;have aq:Region.wanted o (yielded ops.toArray (Hq a0 vs (fun j=>L.getD j false) ops ph).tmps)=false:=by
     unfold Region.wanted;rw[z];simp only;rw[ar]
     cases b1:r.val vs with
     |bool c=>
      rw[b1]at U;have:c≠b:=fun e=>U (by rw[e]);simpa using this
     |_=>simp
    rw[if_neg (by rw[aq];simp)];exact a2 (fun p=>by simp) (Qm _)
  ·have aq:Region.wanted o (yielded ops.toArray (Hq a0 vs (fun j=>L.getD j false) ops ph).tmps)=true:=by
    cases z:o.guard with
    |none=>simp[Region.wanted,z]
    |some av=>
     obtain⟨j,b⟩:=av;obtain⟨r,y,hd,ar⟩:=bc j b z;have D:=Y.1;rw[z]at D;simp only[y]at D;have U:=D vs u hd K;have b3:r.val vs= .bool b:=by cases q<;>first|exact U|exact absurd rfl an
     unfold Region.wanted;rw[z];simp only;rw[ar,b3];simp
   rw[if_pos aq];refine Or.inl ?_;unfold Oper.wp;rw[bp]
   cases q with
   |no=>exact absurd rfl an
   |rd lo hi g=>
    have a4:lo<=vs.length:=by
     cases lo with
     |zero=>exact Qm _
     |succ lo=>
      obtain⟨j,s,C⟩:=B.rdl lo hi g rfl;exact(I j lo s).1 (ba j C)
    have bq:vs.length<=hi:=by
     rcases B.rdh lo hi g rfl with h|⟨j,s,C⟩
     ·omega
     ·rcases QB hi vs.length with h|h
      ·have M:=(I j hi s).2 h;have:=GS (L:=fun j=>L.getD j false) Z n j i C M;rw[ag]at this;simp at this
      ·exact h
    have D:(execOp (XQ V i a0 ops ph vs).eval o).run P u=_:=Y.2 vs u a4 bq K;rw[D];exact a2 (fun p=>by simp) a4
   |st p=>
    have a9:vs.length=p:=by
     have s:¬p<vs.length:=fun h=>by
      have:=(I i p H).2 h;rw[ag]at this;simp at this
     cases p with
     |zero=>omega
     |succ p=>
      obtain⟨j,C,X⟩:=B.stl p rfl;have:=(I j p C).1 (ba j X);omega
    have cc:=B.stm p rfl;have af:∀v R,S (vs++[v]) R->JN ops ph m a0 S (L.setIfInBounds i true) ((Hq a0 vs (fun j=>L.getD j false) ops ph).put o.dst v) R:=by
     intro v R F;have b4:(Ph.st p).val (vs++[v])=v:=by
      subst a9;simp[Ph.val]
     refine⟨by simpa using ao,ay,vs++[v],?_,F,by simp;omega,?_,?_⟩
     ·rw[<-a8 (vs++[v]) ?_,b4];intro j r s C;have hd:=aa j r s C
      cases r with
      |rd lo hi g=>
       simp only[Ph.due]at hd;simp only[Ph.val];rw[List.take_append_of_le_length hd]
      |st p'=>
       simp only[Ph.due]at hd;simp only[Ph.val,List.getD_eq_getElem?_getD];rw[Qc Yo]
      |no=>rfl
     ·intro t p' s
      by_cases e:t=i
      ·subst e;rw[H]at s;simp at s;subst s;rw[ae];simp;omega
      ·rw[ac t e,I t p' s];have a5:p'≠p:=fun W=>by subst W;exact e (B.stu p' rfl t s)
       simp only[Qg,Qf,Qt];omega
     ·intro t Q s C;simp only[Qg,Qf,Qt]
      by_cases e:t=i
      ·subst e;rw[H]at s;simp at s;subst s;simp only[Ph.due];omega
      ·have:=aa t Q s ((ac t e).symm.trans C);omega
    have D:S0 P S vs u (XQ V i a0 ops ph vs).eval o:=Y.2 vs u a9 K
    cases D with
    |value v w' h F=>rw[h];exact af v w' F
    |skip w' h F=>rw[h];exact af undef w' F
    |call f args b8 h F=>
     rw[h];apply F.mono;rintro e R ⟨v,rfl,y⟩;exact af v R y
    |row f args b8 h F=>
     rw[h];exact F.mono (fun v R y=>af v R y)
 ·intro L a u T ak;obtain⟨ao,Z,vs,rfl,K,bb,I,aa⟩:=ak;have ax:∀i,i<ops.length->L.getD i false=true:=by
   intro i
   induction i using Nat.strongRecOn with
   |_ i au=>
    intro hi
    cases hl:L.getD i false with
    |true=>rfl
    |false=>
     exfalso;have A:ops[i]?=some ops[i]:=Qb hi;obtain⟨q,H,B⟩:=Tt G A;have:i∈Region.ready .any ops.toArray L:=by
      refine mem_ready.2 ⟨?_,ops[i],Ys,fun e az hb=>au e.on (B.low e az hb) (by have:=B.low e az hb;omega)⟩;have br:i<L.size:=Yo
      simp[br]at hl⊢;exact hl
     rw[T]at this;simp at this
  have e:Hq a0 vs (fun j=>L.getD j false) ops ph=El a0 ops ph vs:=CV (fun j r y=>⟨by
   simp only[Nat.zero_add];exact ax j (by have:=(Qa.1 y).1;simp at this;omega),fun _=>rfl⟩)
  rw[e];refine bk vs u ?_ K;rcases QB vs.length m with h|h
  ·obtain⟨j,M⟩:=bm _ h;have:=(I j _ M).1 (ax j (by have:=(Qa.1 M).1;omega));omega
  ·omega
 ·have:(ops.toArray).size=ops.length:=Ys
  unfold Xn;exact Qq (List.length_filter_le _ _) Ys
 ·have hz:∀j,(Array.replicate ops.toArray.size false).getD j false=false:=fun j=>by
   simp only[Array.getD_eq_getD_getElem?,Array.getElem?_replicate];split<;>rfl
  refine⟨Ys,?_,[],?_,bl,Qm _,?_,?_⟩
  ·intro i o _ h;rw[hz]at h;simp at h
  ·have:∀(k:Nat)(os:List Oper)(ad:List Kd),pa a0 undef Fn (fun j=>(Array.replicate ops.toArray.size false).getD j false) k os ad=a0:=by
    intro k os
    induction os generalizing k with
    |nil=>intro ad;simp[pa]
    |cons o os au=>
     intro ad
     cases ad with
     |nil=>simp[pa]
     |cons q ad=>rw[pa,hz];simp only[Bool.false_eq_true,if_false];exact au _ _
   exact(this _ _ _).symm
  ·intro i p _;rw[hz];simp
  ·intro i q _ h;rw[hz]at h;simp at h
attribute [local simp] XQ El Hq pa Ph.kd Ph.val Kd.val
def Hj(w:World)(l:Ly)(ρ:Nat->Nat)(T:Nat->Ly)(k:Nat)(tv:Value)(ts:Ll)(vs:Lv)(wr:World):Prop:=
 wr.heap[w.heap.size+1]?=some (.cells #[tv] 216 (0,0))/\AK wr w.heap.size tv ts vs/\Ey l ρ T k ts/\Ao w wr/\wr.heap[w.heap.size]?=some (.cells #[.slice none 0 0] 216 (0,0))/\ts.length<=200001
theorem Hj.ext{T:Nat->Ly}{tv:Value}(h:Hj w l ρ T k tv ts vs wr)(e:Ao wr w1):Hj w l ρ T k tv ts vs w1:=by
 obtain⟨a,d,f,b,c,g⟩:=h;exact⟨(e.block _ (Ab a)).trans a,d.ext e,f,b.trans (e.mono b.size),(e.block _ (Ab c)).trans c,g⟩
theorem Hj.to{T:Nat->Ly}{a:Nat}{tv:Value}(h:Hj w l ρ T k tv ts vs wr)(g:Ey l ρ T a ts):Hj w l ρ T a tv ts vs wr:=⟨h.1,h.2.1,g,h.2.2.2⟩
def Xu(l:Ly)(ρ:Nat->Nat)(T:Nat->Ly)(w:World)(e:Ending)(w':World):Prop:=∃tv ts vs,e= .returned (.agg #[tv])/\AK w' w.heap.size tv ts vs/\Ey l ρ T l.length ts/\Ao w w'/\ts.length<=200001
def U2(w wr:World)(l:Ly)(ρ:Nat->Nat)(T:Nat->Ly)(k:Nat)(tv:Value)(ts:Ll):Lv->World->Prop
 |[],u=>u=wr.drew
 |[v],u=>G1 (T (ρ k)) wr.drew (.returned v) u
 |[_,_],u=>∃vs',Hj w l ρ T (k+1) tv (ts.set (AB l k).num (T (ρ k))) vs' u
 |_,_=>False
theorem U2.ext{T:Nat->Ly}{tv:Value}:∀{vs:Lv}{u:World},U2 w wr l ρ T k tv ts vs u->vs.length<=1->Ao wr.drew u
 |[],u,h,_=>by obtain rfl:u=wr.drew:=h;exact Ao.of (Ad.refl _ _)
 |[v],u,h,_=>by obtain⟨_,_,_,_,_,h⟩:=h;exact h
 |_::_::_,_,_,h=>by simp at h
theorem JA(w:World)(y:Nat)(v:Value)(gs:List GC)(l:Ly)(d a2:Nat->Nat)(D:Np)(T:Nat->Ly)(h:F8 w y v gs)(C:DU gs l)(ae:Wf 2 l)(X:Fa (gs.map GC.up) d a2)(f:CP (Cc l) d D T)(am:∀i,i<gs.length->D (d i))(ay:NR (Cc l) d)(hl:gs.length<=4000)(ap:∀i,i<gs.length->(AB l i).name=[]->(T (d i)).length<=4000)(hn:∀i,(AB l i).num<=200000):
  Calls prog 160 #[Pt y] w (Xu l d T w):=by
 have bw:0<gs.length:=by have:=BN ae;have:=C.len;omega
 obtain⟨cb,R,rfl,cc,ca,cm,ce⟩:=h.shape bw;have Z:w.cell? ⟨y,0,none⟩=some (.slice (some ⟨cb,0,none⟩) gs.length R):=Aa h.box 0 _ rfl;have cf:=Ab h.box;have ah:=hd h;have I:=hd C;have bh:=hd ae;have bf:=hd X;have aj:=hd f;have ai:=hd am;have bg:=hd ay;have bb:=hd ap;have bd:=hd hn;clear h C ae X f am ay ap hn;go_enter func160,cr;go_wp2
 go_loopg [12] (gs.length+1) (fun gk bz wr=>∃(k:Nat)(tv:Value)(ts:Ll)(vs:Lv),bz=Vi k/\k<=gs.length/\gs.length-k<gk/\Hj w l d T k tv ts vs wr)
 case atStart=>exact⟨0,Nl,[],[],Yg,Qm _,Yo,by have:=QL (w.alloc (.cells #[Nl] 216)) (.cells #[Nl] 216);simpa using this,AK.nil _ _,Ey.nil _ _ _,Mxt,(Below.heap_alloc _ _ _ Ys).trans (QL w _),Ys⟩
 case round=>
  obtain⟨k,tv,ts,vs,rfl,bq,ch,a⟩:=hrel;have b:=hd a;have E:=a.2.2.2.1;have ax:=E.size;have q:=ah.o.ext E;have au:=Ab q.box;have bo:cb<wr.hz:=Yo
  have ab:=Ab a.1;have Z:wr.cell? ⟨y,0,none⟩=some (.slice (some ⟨cb,0,none⟩) gs.length R):=Aa q.box 0 _ rfl;have af:wr.cell? ⟨w.hz+1,0,none⟩=some tv:=Aa a.1 0 _ rfl;have b0:wr.cell? ⟨w.hz,0,none⟩=some Nl:=Aa a.2.2.2.2.1 0 _ rfl;have b1:=fun i=>Ae a.2.2.2.2.1 i;have ag:=fun i=>Ae a.1 i;have Q:=hd q;clear a E q
  by_cases O:k<gs.length
  ·obtain⟨c,C⟩:∃c,gs[k]?=some c:=⟨_,Qb O⟩;obtain⟨aa,L,bi,bj,bk,bl⟩:=Q.o.cell C;obtain⟨ac,_⟩:=I.o.all k c C;have cd:c.sym.num<=200000:=by rw[ac];exact bd.o k
   have K:=hd ac;clear C ac
   cases H:c.sym.name with
   |cons x xs=>
    have P:Hd ((AB l k).name≠[]):=by show _≠_;rw[<-K.o,H];simp
    rw[H]at aa;clear H;go_wp2
    go_roundg (gs.length-k)
    case measure=>omega
    case rel=>
     exact⟨k+1,tv,ts,vs,Yg,Yo,Yo,Hj.to (b.o.ext Mxt) (b.o.2.2.1.skip P.o)⟩
   |nil=>
    have P:Hd ((AB l k).name=[]):=by show _=_;rw[<-K.o,H]
    rw[H]at aa;clear H;have cn:¬((c.sym.num:Int)<0):=Yo
    go_wp2;have ak:Hd (∀o,Hj w l d T k tv ts vs (wr.alloc o)):=fun o=>b.o.ext Mxt;obtain⟨cu,bx⟩:∃x,x=wr:=⟨_,rfl⟩;subst bx;clear Z af b0 b1 ag aa L bi bj bk bl Q b au bo ab ax
    go_loopg [28] 200003 (fun gk nv wr=>∃(tv:Value)(ts:Ll)(vs:Lv),200002-ts.length<gk/\Hj w l d T k tv ts vs wr)
    case atStart=>exact⟨tv,ts,vs,Yo,ak.o _⟩
    case round=>
     clear ak;obtain⟨tv,ts,vs,ci,a⟩:=hrel;have b:=hd a;have E:=a.2.2.2.1;have ax:=E.size;have q:=ah.o.ext E;have au:=Ab q.box;have ab:=Ab a.1;have cq:=a.2.2.2.2.2;obtain⟨ta,m,rfl⟩:=Ac a.2.1.owns;have Z:wr.cell? ⟨y,0,none⟩=some (.slice (some ⟨cb,0,none⟩) gs.length R):=Aa q.box 0 _ rfl;have af:wr.cell? ⟨w.hz+1,0,none⟩=some (.slice ta ts.length m):=Aa a.1 0 _ rfl;have ag:=fun i=>Ae a.1 i;have Q:=hd q;clear a E q
     by_cases cl:ts.length<=c.sym.num
     ·have bs:((ts.length:Nat):Int)<=((c.sym.num:Nat):Int):=Yo
      have J:Hd (wr.ownsRow w.hz 105 1 (.slice ta ts.length m) ts.length vs):=b.o.2.1.owns
      go_wp2_with (at_builtin;go_loud (refine Am _ rfl (.tmp 34) (.tmp 35) 85 rfl w.hz 105 infoSyms underlying85 rfl Yd (.slice ta ts.length m) ts.length vs rfl J.o _ rfl rfl rfl (DB _ _ _) ?_ ?_ ?_))
      ·omega
      ·omega
      intro ct w1 z;obtain⟨Y,L,rfl⟩:=Ac z.owns;have ao:Hj w l d T k (.slice Y (ts.length+1) L) (ts++[[]]) (vs++[Nl]) (w1.setCell ⟨w.hz+1,0,none⟩ (.slice Y (ts.length+1) L)):=by
       obtain⟨r,s,F,G,n,S⟩:=b.o;have A:=(z.kept.block _ (Ab r) (Ai J.o Yd r)).trans r;have aq:=(z.kept.block _ (Ab n) (Ai J.o Yd n)).trans n;have f:Ad (fun j=>j=w.hz+1) w1 (w1.setCell ⟨w.hz+1,0,none⟩ (.slice Y (ts.length+1) L)):=(Ad.refl (only (w.hz+1)) w1).put 0 _;have cp:=z.kept.size;refine⟨Af A 0 _,(s.snoc z (Q2 _ _ _ _)).box A Yd Yd f,F.pad,(G.trans (z.kept.below Yo (fun j V=>(J.o.lt j V).1))).trans (f.below Yo (fun j V=>by omega)),(f.block _ (Ab aq) Yo).trans aq,by simp;omega⟩
      have A:=(z.kept.block _ (Ab b.o.1) (Ai J.o Yd b.o.1)).trans b.o.1;have af:w1.cell? ⟨w.hz+1,0,none⟩=some (.slice ta ts.length m):=Aa A 0 _ rfl;have ag:=fun i=>Ae A i;have co:=Ab A;have a9:=hd ao;clear z ao A;go_wp2
      go_roundg (200002-ts.length)
      case measure=>omega
      case rel=>exact⟨_,_,_,by simp;omega,a9.o⟩
     ·have bs:¬(((ts.length:Nat):Int)<=((c.sym.num:Nat):Int)):=Yo
      have W:c.sym.num<ts.length:=Yo
      obtain⟨t,ad⟩:∃t,ts[c.sym.num]?=some t:=⟨_,Qb W⟩;obtain⟨cv,a1,az⟩:=b.o.2.1.all _ t ad;obtain⟨a5,a6,rfl⟩:=Ac az;obtain⟨g,cs,b7,N,_,U,cg⟩:=An b.o.2.1.owns Yo;simp only[QH]at N;obtain⟨rfl,_,rfl⟩:=N;have b5:wr.cell? ⟨g,c.sym.num,none⟩=some (.slice a5 t.length a6):=Ag b.o.2.1.owns _ _ a1;have ar:=Ab U;have b8:=fun i=>Ae U i;have al:=hd ad;have bc:=hd U;have br:k<l.length:=by rw[<-I.o.len];exact O
      clear ad a1 az U
      cases t with
      |cons a0 t=>
       go_wp2
       go_roundg (gs.length-k)
       case measure=>omega
       case rel=>exact⟨k+1,_,ts,vs,Yg,Yo,Yo,b.o.to (b.o.2.2.1.old bg.o br P.o (by rw[<-K.o];exact al.o) Ys)⟩
      |nil=>
       have a7:=hd (Vr _ wr.drew y (.slice (some ⟨cb,0,none⟩) gs.length R) gs l d a2 D T k (Q.o.on (fun _ _=>rfl)) I.o bh.o bf.o aj.o (ai.o k O) O hl (Qe _) (bb.o k O P.o));have be:Hd (∀i,i<l.length->T (d i)≠[]):=fun i hi=>by rw[aj.o.tm _ (ai.o i (by rw[I.o.len];exact hi))];simp
       go_wp2_with fail;refine FC Yk 999 [.rd 0 1 (fun _=>Pt (w.hz+1)),.rd 0 1 (fun _=> .slice (some ⟨g,0,none⟩) ts.length m),.rd 0 1 (fun _=>Vi c.sym.num),.rd 0 1 (fun _=>Pt y),.rd 0 1 (fun _=>Vi k),.st 0,.rd 0 1 (fun _=> .pointer (some ⟨g,c.sym.num,none⟩)),.st 1] 2 4 Yk
        (U2 w wr l d T k (.slice (some ⟨g,0,none⟩) ts.length m) ts) rfl ?_ ?_
       ·have bn:∀u,Ao wr.drew u->u.cell? ⟨w.hz+1,0,none⟩=some (.slice (some ⟨g,0,none⟩) ts.length m):=fun u M=>Aa ((M.block _ ab).trans b.o.1) 0 _ rfl;refine⟨⟨trivial,fun vs u _ hl a=> ?_⟩,⟨trivial,fun vs u _ hl a=> ?_⟩,⟨trivial,fun vs u _ hl a=> ?_⟩,⟨trivial,fun vs u _ hl a=> ?_⟩,⟨trivial,fun vs u _ hl a=> ?_⟩,⟨trivial,fun vs u hl a=> ?_⟩,⟨trivial,fun vs u _ hl a=> ?_⟩,⟨trivial,fun vs u hl a=> ?_⟩,trivial⟩
        ·simp[go_sem]
        ·have b2:=bn u (a.ext hl);simp[go_sem,b2]
        ·simp[go_sem]
        ·simp[go_sem]
        ·simp[go_sem]
        ·obtain rfl:=Q3.1 hl;have X:u=wr.drew:=a;subst X;refine .call 192 #[Pt y,Vi k] _ (by simp[go_sem]) (a7.o.mono ?_);rintro e u ⟨v,B,rfl,h⟩;exact⟨v,rfl,v,B,rfl,h⟩
        ·simp[go_sem,W]
        ·obtain⟨v,rfl⟩:=Q1.1 hl;have M:=a.ext Ys;obtain⟨b3,B,N,b9,aw,_⟩:=a;simp only[Ending.returned.injEq]at N;subst N;have ba:=b.o.ext ((Ao.of (Ad.refl _ _).drew:Ao wr wr.drew).trans M);have av:=(M.block _ ar).trans bc.o;have bm:=Ae av c.sym.num;obtain⟨a3,a4,rfl⟩:=Ac aw;have b6:u.cell? ⟨g,c.sym.num,none⟩=some (.slice a5 0 a6):=(M.cell (p:=⟨g,c.sym.num,none⟩) ar).trans b5;have cj:g<u.hz:=Ab av;have f:Ad (only g) u (u.setCell ⟨g,c.sym.num,none⟩ (.slice a3 (T (d k)).length a4)):=(Ad.refl (only g) u).put c.sym.num _;refine .skip (u.setCell ⟨g,c.sym.num,none⟩ (.slice a3 (T (d k)).length a4)) ?_ ?_
         ·simp[go_sem,b6,bm]
         ·obtain⟨r,s,F,G,n,S⟩:=ba;have bu:w.hz+1≠g:=fun e=>Ai s.owns Yd r (by rw[e];rfl);have bt:w.hz≠g:=fun e=>Ai s.owns Yd n (by rw[e];rfl);have ck:=(s.owns.lt g rfl).1;rw[K.o]at W f⊢;have bv:=s.put (l:=T (d k)) W (AI aw (Qm _));exact⟨_,(f.block _ (Ab r) bu).trans r,bv,F.new (fun i hi _=>be.o i Yo) P.o (by rw[<-K.o];exact al.o),G.trans (f.below G.size (fun j V=>by have:j=g:=V;omega)),(f.block _ (Ab n) bt).trans n,by rw[List.length_set];exact S⟩
       ·rintro vs u hl a
        match vs,hl,a with
        |[v,b3],_,a=>
        obtain⟨b4,an⟩:=a;simp only[El,Hq,B4,pa,Ph.kd,Ph.val,Kd.val,Qx,List.map_nil,if_true,Act.put,List.setIfInBounds_toArray,List.set_cons_succ,List.set_cons_zero];have a8:=hd an;clear an;go_wp2
        go_roundg (gs.length-k)
        case measure=>omega
        case rel=>exact⟨k+1,_,_,b4,Yg,Yo,Yo,a8.o⟩
  ·have bp:k=gs.length:=Yo
   subst bp;obtain⟨ta,m,rfl⟩:=Ac b.o.2.1.owns;go_wp2;have f:Ad (fun j=>j=w.hz) wr (wr.setCell ⟨w.hz,0,none⟩ (.slice ta ts.length m)):=(Ad.refl (only w.hz) wr).put 0 _;have h0:(wr.setCell ⟨w.hz,0,none⟩ (.slice ta ts.length m)).cell? ⟨w.hz,0,none⟩=some (.slice ta ts.length m):=Aa (Af b.o.2.2.2.2.1 0 _) 0 _ rfl;obtain⟨r,s,F,G,n,S⟩:=b.o;rw[I.o.len]at F;refine bodyPost_ret (v:= .agg #[.slice ta ts.length m]) (by simp[results,results160,go_sem,h0]) rfl ?_;exact⟨_,ts,vs,rfl,s.box n Yd Yd f,F,G.trans (f.below Yo (fun k bq=>by omega)),S⟩
def B3(ts:Ll)(n:Nat):Ly:=match ts[n]? with
 |some (x::xs)=>x::xs
 |_=>vr n
theorem Xd{D:Np}{T:Nat->Ly}(f:Ey l ρ T l.length ts)(g:CP (Cc l) ρ D T)(j:NR (Cc l) ρ)(e:∀i,i<l.length->D (ρ i)):B3 ts=Dr (Cc l) ρ D T:=by
 funext n
 by_cases d:∃i,i<l.length/\(AB l i).name=[]/\(AB l i).num=n
 ·obtain⟨i,hi,hn,rfl⟩:=d;have a:Dr (Cc l) ρ D T (AB l i).num=T (ρ i):=Ky (G:=Cc l) j hi hn (e i hi);rw[a];have b:=f.has i hi hn;have c:=g.tm _ (e i hi);unfold B3;rw[b];rw[c]
 ·have a:Dr (Cc l) ρ D T n=vr n:=by
   unfold Dr;rw[dif_neg];rintro⟨i,a,b,c,_⟩;exact d ⟨i,a,b,c⟩
  rw[a];unfold B3
  cases h:ts[n]? with
  |none=>rfl
  |some t=>
   rcases f.only n t h with rfl|⟨i,a,b,c,_⟩
   ·rfl
   ·exact absurd ⟨i,a,b,c⟩ d
theorem WY{gs:List GC}(h:∀c∈gs,c.size=0):sz gs (fun _=>0)=gs:=by
 apply List.ext_getElem?;intro i
 cases a:gs[i]? with
 |none=>rw[List.getElem?_eq_none (by rw[Dm];exact List.getElem?_eq_none_iff.1 a)]
 |some c=>
  rw[Kc a];have:=h c (Qh a)
  cases c
  simp at this;subst this;rfl
theorem TE{a:List GC}(h:a.map (·.size)=(DS l (Cx l) 0).map (·.size)):sz a (fun _=>0)=a:=by
 refine WY (fun c f=> ?_);have b:c.size∈(DS l (Cx l) 0).map (·.size):=by rw[<-h];exact Q0.2 ⟨c,f,rfl⟩
 rw[<-WZ l]at b;obtain⟨d,hd,e⟩:=Q0.1 b;obtain⟨i,hi⟩:=List.mem_iff_getElem?.1 hd;simp only[sz,List.getElem?_mapIdx,Option.map_eq_some_iff]at hi;obtain⟨g,_,rfl⟩:=hi;exact e.symm
def N6(a b:Ly)(w:World)(e:Ending)(w':World):Prop:=Ao w w'/\∃x n c q,e= .returned (.tuple #[.agg #[.slice x n c],.int .i64 q])/\
 ((q=0/\Dg a b)\/(q=2/\Hp a b)\/(q=1/\∃ts vs,AK w' 0 (.slice x n c) ts vs/\I5 (B3 ts) a b/\(ap (B3 ts) a).length<=30/\ts.length<=200001/\∀t∈ts,t.length<=30))
theorem Th(hi:i<l.length)(hn:(AB l i).name=[]):Cj (AB l i).num l:=by
 refine⟨AB l i,?_,hn,rfl⟩;unfold AB;rw[List.getD_eq_getElem?_getD,Qb hi];simp
theorem L0{a b:Ly}(h:I5 σ a b)(hl:(ap σ a).length<=30)(c:Cj n (a++b)):(σ n).length<=30:=by
 rcases Ca.1 c with c|c
 ·have:=FE h.ts c;have e:0<a.length:=by obtain⟨s,d,_⟩:=c;exact List.length_pos_of_mem d
  omega
 ·have:=FE h.ts c;have e:0<b.length:=by obtain⟨s,d,_⟩:=c;exact List.length_pos_of_mem d
  rw[<-h.unif]at this;omega
theorem TR{a b:Ly}(ha:Wf 1 a)(hb:Wf 1 b){c:Nat->Nat}(d:Bg (Cc (a++b)) (A1 (a++b)) c [0] [a.length]){D:Np}{T:Nat->Ly}(e:CP (Cc (a++b)) c D T)(hd:D (c 0)):
  I5 (Dr (Cc (a++b)) c D T) a b/\ap (Dr (Cc (a++b)) c D T) a=T (c 0)/\NR (Cc (a++b)) c/\∀i,i<(a++b).length->D (c i):=by
 have hl:=SG ha hb;have j:Wf 2 (a++b):=EJ ha hb;have h0:=Ih (a++b) j;have m:=BN ha;have o:=BN hb;have k:(0:Nat)<(Cc (a++b)).n:=by show 0<(a++b).length;simp;omega
 have l:a.length<(Cc (a++b)).n:=by show a.length<(a++b).length;simp;omega
 obtain⟨f,g⟩:=OU hl h0 k l (IJ ha) (HI hb) d e hd;have h:c 0=c a.length:=by simpa using d.eq
 refine⟨f,g,h0.vars' d.grow,TV ha hb (fun i hi=>d.cg i hi (h0.cg i hi)) e hd (h▸hd)⟩
def rn(v:Nat)(s:BL):BL:=if s.name=[]then⟨[],s.num+v,s.args⟩else s
theorem Jg{v:Nat}(a:Wf k l):ap (AX v) l=l.map (rn v):=by
 have h:∀s∈l,EG (AX v) s=[rn v s]:=fun s c=>by
  obtain⟨i,hi⟩:=List.mem_iff_getElem?.1 c;have b:=(G5 a hi).1;unfold EG rn
  by_cases hn:s.name=[]
  ·rw[if_pos hn,if_pos hn,b hn];rfl
  ·rw[if_neg hn,if_neg hn]
 clear a
 induction l with
 |nil=>rfl
 |cons s l e=>
  rw[Bw,h s Ys,e (fun t d=>h t (by simp[d]))];rfl
abbrev BJ(w:World)(v:Value)(l:List BL):Prop:=w.ownsRow 0 133 3 v l.length (Aq l)
theorem BJ.ext(h:BJ w v l)(e:Ao w w'):BJ w' v l:=Aj h (fun j a=>e.block j (h.lt j a).2)
def AF(w:World)(v:Value)(ls:Ll):Prop:=∃vs,AK w 0 v ls vs
theorem AF.ext(h:AF w v ls)(e:Ao w w'):AF w' v ls:=by
 obtain⟨vs,h⟩:=h;exact⟨vs,h.ext e⟩
theorem AK.inn(h:AK w B v ls vs):AF w v ls:=⟨vs,AI h.owns (Qm _),h.all⟩
def BO(F:Nat)(w:World)(v:Value)(ls:Ll):Prop:=∃vs,AK w 0 v ls vs/\(∀j,v.ownBlock=some j->F<=j)/\∀x∈vs,∀j,x.ownBlock=some j->F<=j
theorem BO.inn{a:Nat}(h:BO a w v ls):AF w v ls:=by
 obtain⟨vs,h,_⟩:=h;exact⟨vs,h⟩
theorem BO.ext{a:Nat}(h:BO a w v ls)(e:Ao w w'):BO a w' v ls:=by
 obtain⟨vs,h,b⟩:=h;exact⟨vs,h.ext e,b⟩
theorem BO.mono{b c:Nat}(h:BO b w v ls)(d:c<=b):BO c w v ls:=by
 obtain⟨vs,h,e,f⟩:=h;exact⟨vs,h,fun j a=>Qq d (e j a),fun x g j a=>Qq d (f x g j a)⟩
theorem BO.box{a:Nat}{cs:Av}(h:BO a w v ls)(e:w.heap[M]?=some (.cells cs t fr))(b:105≠t)(c:133≠t)(f:Ad (fun k=>k=M) w w'):BO a w' v ls:=by
 obtain⟨vs,h,d⟩:=h;exact⟨vs,h.box e b c f,d⟩
structure MV(w:World)(hv bv vv:Value)(c:Dt):Prop where
 head:BJ w hv c.head
 body:AF w bv c.body
 names:w.ownsRow 0 9 1 vv c.names.length (Ba c.names)
theorem MV.ext{b a:Value}(h:MV w b a vv c)(e:Ao w w'):MV w' b a vv c:=
 ⟨h.head.ext e,h.body.ext e,Aj h.names (fun j d=>e.block j (h.names.lt j d).2)⟩
theorem Cp.terms{a:Nat}(h:Cp w B a v ls vs):AF w v ls:=
 ⟨vs,AI h.1 (Qm _),fun i l hl=>by
  obtain⟨x,b,c⟩:=h.2 i l hl;exact⟨x,b,AI c.1 (Qm _)⟩⟩
structure DD(w:World)(v:Value)(cs:List Dt)(xs:List (List Value)):Prop where
 owns:w.ownsRow 0 107 3 v cs.length xs.flatten
 len:xs.length=cs.length
 three:∀x∈xs,x.length=3
 all:∀(i:Nat)(c:Dt),cs[i]?=some c->∃hv bv vv,xs[i]?=some [hv,bv,vv]/\MV w hv bv vv c
theorem DD.ext{xs:List (Lv)}(h:DD w v cs xs)(e:Ao w w'):DD w' v cs xs:=
 ⟨Aj h.owns (fun j g=>e.block j (h.owns.lt j g).2),h.len,h.three,fun i c f=>by
  obtain⟨k,a,l,b,d⟩:=h.all i c f;exact⟨k,a,l,b,d.ext e⟩⟩
theorem Fm.prog{a b:Nat}{xs:List (Lv)}(h:Fm w B a b v cs xs):DD w v cs xs:=
 ⟨AI h.1 (Qm _),h.2.1,h.2.2.1,fun i c k=>by
  obtain⟨l,d,m,p,e,f,g,n,j,o⟩:=h.2.2.2 i c k;exact⟨l,d,m,e,AI f.1 (Qm _),g.terms,AI j (Qm _)⟩⟩
structure Gd(w:World)(gv vv rv:Value)(n:ND):Prop where
 goals:AF w gv (n.goals.map (·.1))
 vals:AF w vv n.vals
 done:AF w rv (n.done.map (·.1))
structure Xa(F:Nat)(w:World)(gv vv rv:Value)(n:ND):Prop where
 goals:BO F w gv (n.goals.map (·.1))
 vals:BO F w vv n.vals
 done:BO F w rv (n.done.map (·.1))
theorem Gd.ext{a:Value}{n:ND}(h:Gd w gv vv a n)(e:Ao w w'):Gd w' gv vv a n:=⟨h.goals.ext e,h.vals.ext e,h.done.ext e⟩
theorem DU.sz{gs:List GC}(h:DU gs l)(f:Nat->Int):DU (YtlmjilpjmgjjcaaGreatDoor.sz gs f) l:=
 ⟨by rw[Dm];exact h.len,fun i c a=>by
  simp only[YtlmjilpjmgjjcaaGreatDoor.sz,List.getElem?_mapIdx,Option.map_eq_some_iff]at a;obtain⟨d,hd,rfl⟩:=a;exact h.all i d hd⟩
theorem SP(w:World)(bs bt:Value)(a b:Ly)(k:BJ w bs a)(aj:BJ w bt b)(ha:Wf 1 a)(hb:Wf 1 b)(cc:a.length<=1000)(cd:b.length<=1000)(hn:∀s∈a++b,s.num<=200000):
  Calls prog 127 #[bs,bt] w (N6 a b w):=by
 have cy:=BN ha;have c0:=BN hb;obtain⟨cw,cs,cu,rfl,_,cg,ce⟩:=An k Yo;obtain⟨cx,ct,cv,rfl,_,ch,cf⟩:=An aj Yo;have co:((a.length:Int)==0)=false:=by rw[Qu];omega
 have cp:((b.length:Int)==0)=false:=by rw[Qu];omega
 obtain⟨l,hl⟩:=Ex (a++b);have bn:Wf 2 l:=by rw[hl];exact EJ ha hb
 have N:l.length=a.length+b.length:=by rw[hl];simp
 have Z:Ao w (w.alloc (.cells #[Nl] 216)):=Mxt;have ah:=hd (SY (w.alloc (.cells #[Nl] 216)) _ _ a b (BJ.ext k Z) (BJ.ext aj Z) ha hb cc cd);have A:=hd bn;have W:=hd ha;have X:=hd hb;have q:=hd hl;have b7:Hd (∀i,(AB l i).num<=200000):=fun i=>by
  rw[hl]
  by_cases hi:i<(a++b).length
  ·have:AB (a++b) i∈a++b:=by
    unfold AB;rw[List.getD_eq_getElem?_getD,Qb hi];simp
   exact hn _ this
  ·unfold AB;rw[List.getD_eq_getElem?_getD,List.getElem?_eq_none Yo];simp
 rw[<-hl]at ah;clear k aj bn ha hb hl hn cg ch ce cf;go_enter func127,ntmps127;go_wp2_with fail;apply ah.o.mono;rintro e w1 ⟨v,rfl,R,ac,bg⟩;have x:=RM l;have ae:=Ww A.o;have m:(DS l (Cx l) 0).length=l.length:=x.len;have bk:=ac.size;have bk:w.hz+1<=w1.hz:=by simpa using bk
 obtain⟨gs,ar⟩:=Ex (DS l (Cx l) 0);have bq:∀c,c.map (·.size)=gs.map (·.size)->sz c (fun _=>0)=c:=fun c h=>TE (by rw[h,ar]);rw[<-ar]at x ae m R;clear ar;have a9:F8 (w1.alloc (.cells #[v] 266)) w1.hz v gs:=⟨QL w1 _,by rw[m];exact Aj R (fun j d=>Below.heap_alloc _ _ _ (R.lt j d).2)⟩;obtain⟨va,E,rfl⟩:=Ac R;have bd:w1.heap[w.hz]?=some (.cells #[Nl] 216 (0,0)):=(ac.block _ Ys).trans (QL w _);have a6:Ao w (w1.alloc (.cells #[.slice va l.length E] 266)):=(Z.trans (ac.mono Ys)).alloc Yo _;have ag:=hd (VX _ (w1.alloc (.cells #[.slice va l.length E] 266)) w1.hz _ gs l _ _ 0 a.length a9 x A.o ae (Qe _) Yo Yo Yo);have b3:=hd m;have b6:=hd N;have c1:l.length<=2000:=Yo
 have cq:=hd x;have cr:=hd ae;have cb:=hd bq;have a4:=hd bg;have b0:=hd bd;have bu:=hd a6;clear x ae a9 bq bg bd a6 ac R m N Z ah co cp;go_wp2_with fail;apply ag.o.mono;rintro e w2 ⟨c,g,f,br,af,B⟩;have m:=b3.o;have N:=b6.o;have bl:=g.kept.size;have bl:w1.hz+1<=w2.hz:=by simpa using bl
 have av:=g.len;have ao:Below (w.hz+1) (w1.alloc (.cells #[.slice va l.length E] 266)) w2:=g.kept.below Yp (fun j d=>by have:=a4.o j d;simpa using this);have a7:Ao w w2:=bu.o.trans (ao.mono Yo);have I:w2.heap[w.hz]?=some (.cells #[Nl] 216 (0,0)):=(ao.block _ Yo).trans ((Below.heap_alloc _ _ _ Yo).trans b0.o);have C:=Aa I 0 _ rfl;have D:=fun i=>Ae I i;have Q:=Ab I;have ad:Tb (Cc l) (Gb l) a b:=by rw[q.o];exact SG W.o X.o
 have bo:(0:Nat)<(Cc l).n:=by show 0<l.length;omega
 have bp:a.length<(Cc l).n:=by show a.length<l.length;omega
 have y:Gb l 0=a:=by rw[q.o];exact IJ W.o
 have z:Gb l a.length=b:=by rw[q.o];exact HI X.o
 have a0:=hd a7;have b1:=hd I;clear ao a7 I;rcases B with⟨rfl,d⟩|⟨rfl,be⟩
 ·have ba:F8 w2 w1.hz (.slice va l.length E) (sz c (fun _=>0)):=by rw[cb.o c g.sizes];exact g.at'
  have HM:=hd (VK _ w2 w1.hz (.slice va l.length E) c l f br (fun _=>0) (fun _=>[]) 0 ba g.cells A.o af (fun j _=>Or.inl rfl) (Qe _) Yo Yo ⟨fun r h=>absurd h.2 (Int.lt_irrefl _),fun r h=>absurd h.2 (Int.lt_irrefl _),fun r h=>absurd h.2 (Int.lt_irrefl _)⟩);have Y:=hd d;have b9:=hd af;have bw:=hd g.cells;have b5:=hd ad;have M:c.length=(a++b).length:=by rw[av,m,q.o]
  have b4:=hd M;clear d af g ad ba M av m N y z ag;go_wp2_with fail;apply HM.o.mono;rintro e w3 ⟨u,bb,au,B⟩;have c2:=au.size;have aq:Below (w.hz+1) w2 w3:=au.below Yo (fun j d=>by have:=a4.o j d;simpa using this);have a8:Ao w w3:=a0.o.trans (aq.mono Yo);have J:w3.heap[w.hz]?=some (.cells #[Nl] 216 (0,0)):=(aq.block _ Yo).trans b1.o;have C:=Aa J 0 _ rfl;have D:=fun i=>Ae J i;have Q:=Ab J;have V:=hd a8;have b2:=hd J;have bv:=hd bb;clear aq a8 J au bb;have y:Gb l 0=a:=by rw[q.o];exact IJ W.o
  have z:Gb l a.length=b:=by rw[q.o];exact HI X.o
  rcases B with⟨T,rfl,bi,_,F,ak,_,_⟩|⟨rfl,bj⟩
  ·have d:=Y.o;clear y z;have hl:=q.o;subst hl;have M:=b4.o;obtain⟨O,an,S,H⟩:=TR W.o X.o d F ak;have ab:(ap (Dr (Cc (a++b)) f (Mh c.length u) T) a).length=(T (f 0)).length:=by rw[an]
   obtain⟨L,am⟩:=Ex ((T (f 0)).length);rw[<-am]at ab⊢
   by_cases cz:30<L
   ·have bm:Hp a b:=O.small Yo;have ca:=hd bm;have az:min 31 L=31:=Yo
    rw[az];clear bm O an S H F ak bi d am ab Y M HM;go_wp2;refine bodyPost_ret (v:= .tuple #[.agg #[Nl],Vi 2]) (by simp[results,results127,go_sem,C,D,Q]) rfl ?_;exact⟨V.o.setCell (p:=⟨w.hz,0,none⟩) (Qe _) _,none,0,0,2,rfl,Or.inr (Or.inl ⟨rfl,ca.o⟩)⟩
   ·have bh:∀i,i<(sz c u).length->(AB (a++b) i).name=[]->(T (f i)).length<=4000:=fun i hi hn=>by
     have hi:i<(a++b).length:=by rw[Dm]at hi;omega
     have k:=L0 O Yo (Th hi hn);rw[show Dr (Cc (a++b)) f (Mh c.length u) T (AB (a++b) i).num=T (f i) from Ky (G:=Cc (a++b)) S hi hn (H i hi)]at k;omega
    have bz:=hd (JA w3 w1.hz (.slice va (a++b).length E) (sz c u) (a++b) f br (Mh c.length u) T bv.o (bw.o.sz u) A.o (by rw[Xm];exact b9.o) F (fun i hi=>H i (by rw[Dm]at hi;omega)) S (by rw[Dm];omega) bh b7.o);have a3:=hd O;have bx:=hd F;have a5:=hd S;have a1:=hd H;have a2:=hd ab;have az:min 31 L=L:=Yo
    have c3:¬((L:Int)= -1):=Yo
    have c4:¬((30:Int)<L):=Yo
    have c5:((L:Int)== -1)=false:=by rw[Qu];omega
    rw[az];clear O an S H F ak bi d am ab Y bh M HM;go_wp2_with fail;apply bz.o.mono;rintro e w4 ⟨tv,ts,vs,rfl,ay,aw,al,cl⟩;obtain⟨ta,U,rfl⟩:=Ac ay.owns;have K:=(al.block _ Q).trans b2.o;have C:=Aa K 0 _ rfl;have D:=fun i=>Ae K i;have cj:=Ab K;have ax:=Xd aw bx.o a5.o a1.o;have bc:Ad (fun j=>j=w.hz) w4 (w4.setCell ⟨w.hz,0,none⟩ (.slice ta ts.length U)):=(Ad.refl (only w.hz) w4).put 0 _;have aa:=(ay.box K Yd Yd bc).inn;have B:N6 a b w (Rq #[.agg #[.slice ta ts.length U],Vi 1]) (w4.setCell ⟨w.hz,0,none⟩ (.slice ta ts.length U)):=by
     obtain⟨cn,aa⟩:=aa;refine⟨(V.o.trans (al.mono V.o.size)).setCell (p:=⟨w.hz,0,none⟩) (Qe _) _,ta,ts.length,U,1,rfl,Or.inr (Or.inr ⟨rfl,ts,cn,aa,by rw[ax];exact a3.o,by rw[ax,a2.o];omega,cl,fun t ck=> ?_⟩)⟩;obtain⟨n,hn⟩:=List.mem_iff_getElem?.1 ck;rcases aw.only n t hn with rfl|⟨i,hi,bf,_,rfl⟩
     ·simp
     ·have k:=L0 a3.o (by rw[a2.o];omega) (Th hi bf);rw[show Dr (Cc (a++b)) f (Mh c.length u) T (AB (a++b) i).num=T (f i) from Ky (G:=Cc (a++b)) a5.o hi bf (a1.o i hi)]at k;exact k
    have b8:=hd B;clear B aa bc ax aw ay al K;go_wp2;refine bodyPost_ret (v:= .tuple #[.agg #[.slice ta ts.length U],Vi 1]) (by simp[results,results127,go_sem,C,D,cj]) rfl ?_;exact b8.o
  ·have P:Dg a b:=PB b5.o (Ih l A.o) bo bp y z Y.o (i:=0) (fun val cm x=>by
    obtain⟨r,ci,_⟩:=bj val cm x;simp at ci)
   have ai:=hd P;clear P bj y z HM;go_wp2;refine bodyPost_ret (v:= .tuple #[.agg #[Nl],Vi 0]) (by simp[results,results127,go_sem,C,D,Q]) rfl ?_;exact⟨V.o.setCell (p:=⟨w.hz,0,none⟩) (Qe _) _,none,0,0,0,rfl,Or.inl ⟨rfl,ai.o⟩⟩
 ·have P:=PY ad (Ih l A.o) bo bp y z be;have ai:=hd P;clear P be g af ad y z av m N ag;go_wp2;refine bodyPost_ret (v:= .tuple #[.agg #[Nl],Vi 0]) (by simp[results,results127,go_sem,C,D,Q]) rfl ?_;exact⟨a0.o.setCell (p:=⟨w.hz,0,none⟩) (Qe _) _,none,0,0,0,rfl,Or.inl ⟨rfl,ai.o⟩⟩
theorem Hb(w:World)(v:Value)(a:Ly)(m:Nat)(h:BJ w v a)(hl:a.length<=1000)(hn:∀s∈a,s.num<=200000)(Z:m<=200000):
  Calls prog 74 #[v,Vi m] w (G1 (a.map (rn m)) w):=by
 obtain⟨va,ac,rfl⟩:=Ac h;have u:=hd h;have J:=hd hn;clear h hn;go_enter func74,ab;go_wp2
 go_loopg [5,10] (a.length+1) (fun gk tv P wr=>∃(k:Nat),P=Vi k/\k<=a.length/\a.length-k<gk/\Ao w wr/\wr.ownsRow w.hz 133 3 tv k (Aq ((a.take k).map (rn m))))
 case atStart=>exact⟨0,Yg,Qm _,Yo,Below.refl _ _,Q2 _ _ _ _⟩
 case round=>
  obtain⟨k,rfl,Y,V,A,B⟩:=hrel;obtain⟨ta,t,rfl⟩:=Ac B;have I:=A.size;have q:=hd A;have l:=hd B;clear A B
  by_cases O:k<a.length
  ·obtain⟨s,f⟩:∃s,a[k]?=some s:=⟨_,Qb O⟩;obtain⟨g,R,S,E,_,F,_⟩:=An u.o Yo;simp only[QH]at E;obtain⟨rfl,_,rfl⟩:=E;have r:=Aj u.o (fun j b=>q.o.block j (u.o.lt j b).2);have X:=Ab F;have W:g<wr.hz:=Yo
   have D:wr.cell? ⟨g,k*3,none⟩=some (.string ⟨s.name.toArray⟩):=Ag r _ _ (by have:=AV a k s f 0 Yo;rw[Nat.add_zero]at this;rw[this];rfl);have T:wr.cell? ⟨g,k*3+1,none⟩=some (Vi s.num):=Ag r _ _ (by rw[AV a k s f 1 Yo];rfl);have U:wr.cell? ⟨g,k*3+2,none⟩=some (Vi s.args):=Ag r _ _ (by rw[AV a k s f 2 Yo];rfl);have G:a.take (k+1)=a.take k++[s]:=by rw[List.take_add_one,f];rfl
   have aa:=J.o s (Qh f);have C:=hd G;clear f r G F
   cases e:s.name with
   |nil=>
    rw[e]at D;have p:rn m s=⟨[],s.num+m,s.args⟩:=by unfold rn;rw[if_pos e]
    have z:=hd p;clear e p;have c:Ao wr (wr.alloc (.cells #[.string ⟨#[]⟩,Vi ((s.num:Int)+m),Vi s.args] 133)):=Mxt;have n:Hd ((wr.alloc (.cells #[.string ⟨#[]⟩,Vi ((s.num:Int)+m),Vi s.args] 133)).ownsRow w.hz 133 3 (.slice ta k t) k (Aq ((a.take k).map (rn m)))):=Aj l.o (fun j b=>c.block j (l.o.lt j b).2);have y:=hd c;clear c
    go_wp2_with (at_builtin;go_loud (refine Am (wr.alloc (.cells #[.string ⟨#[]⟩,Vi ((s.num:Int)+m),Vi s.args] 133)) rfl (.tmp 22) (.tmp 24) 105 rfl w.hz 133 infoSym underlying105 rfl Yd (.slice ta k t) k (Aq ((a.take k).map (rn m))) rfl n.o #[.string ⟨#[]⟩,Vi ((s.num:Int)+m),Vi s.args] (N:=wr.hz+1) rfl Ys rfl (Fu _ _ _) ?_ ?_ ?_))
    ·omega
    ·simp;omega
    intro Q w1 d;obtain⟨K,L,rfl⟩:=Ac d.owns;have i:=hd d;clear d;go_wp2
    go_roundg (a.length-k)
    case measure=>omega
    case rel=>
     refine⟨k+1,Yg,Yo,Yo,?_,?_⟩
     ·exact q.o.trans ((y.o.mono I).trans (i.o.kept.below Yp (fun j b=>(n.o.lt j b).1)))
     ·have:=i.o.owns;rw[C.o,Qr,Db];simpa[Aq,Bz,z.o]using this
   |cons x xs=>
    have p:rn m s=s:=by unfold rn;rw[if_neg (by rw[e];simp)]
    have c:Ao wr (wr.alloc (.cells #[.string ⟨(x::xs).toArray⟩,Vi s.num,Vi s.args] 133)):=Mxt;have n:Hd ((wr.alloc (.cells #[.string ⟨(x::xs).toArray⟩,Vi s.num,Vi s.args] 133)).ownsRow w.hz 133 3 (.slice ta k t) k (Aq ((a.take k).map (rn m)))):=Aj l.o (fun j b=>c.block j (l.o.lt j b).2);have y:=hd c;have H:rn m s=⟨x::xs,s.num,s.args⟩:=by rw[p,<-e]
    have z:=hd H;rw[e]at D;clear e p c H
    go_wp2_with (at_builtin;go_loud (refine Am (wr.alloc (.cells #[.string ⟨(x::xs).toArray⟩,Vi s.num,Vi s.args] 133)) rfl (.tmp 22) (.tmp 24) 105 rfl w.hz 133 infoSym underlying105 rfl Yd (.slice ta k t) k (Aq ((a.take k).map (rn m))) rfl n.o #[.string ⟨(x::xs).toArray⟩,Vi s.num,Vi s.args] (N:=wr.hz+1) rfl Ys rfl (Fu _ _ _) ?_ ?_ ?_))
    ·omega
    ·simp;omega
    intro Q w1 d;obtain⟨K,L,rfl⟩:=Ac d.owns;have i:=hd d;clear d;go_wp2
    go_roundg (a.length-k)
    case measure=>omega
    case rel=>
     refine⟨k+1,Yg,Yo,Yo,?_,?_⟩
     ·exact q.o.trans ((y.o.mono I).trans (i.o.kept.below Yp (fun j b=>(n.o.lt j b).1)))
     ·have:=i.o.owns;rw[C.o,Qr,Db];simpa[Aq,Bz,z.o]using this
  ·have M:k=a.length:=Yo
   subst M;go_wp2;go_ret;refine⟨_,w.hz,rfl,Qe _,?_,q.o⟩;have:=l.o;rw[List.take_length]at this;simpa using this
def Td(ts:Ll)(s:BL):Ly:=if s.name=[]then(ts[s.num]?).getD []else[]
theorem WP{s:BL}(h:Td ts s=[])(ha:s.name=[]->s.args=0):EG (B3 ts) s=[s]:=by
 unfold EG
 by_cases hn:s.name=[]
 ·rw[if_pos hn];unfold Td at h;rw[if_pos hn]at h;unfold B3;have a:vr s.num=[s]:=by
   have:=ha hn
   cases s
   simp at hn this;subst hn this;rfl
  cases b:ts[s.num]? with
  |none=>exact a
  |some t=>rw[b]at h;simp at h;subst h;exact a
 ·rw[if_neg hn]
theorem V0{s b:BL}{t:Ly}(h:Td ts s=b::t):EG (B3 ts) s=b::t:=by
 unfold Td at h
 by_cases hn:s.name=[]
 ·rw[if_pos hn]at h;unfold EG;rw[if_pos hn];unfold B3
  cases a:ts[s.num]? with
  |none=>rw[a]at h;simp at h
  |some u=>rw[a]at h;simp at h;subst h;rfl
 ·rw[if_neg hn]at h;simp at h
def Ua(ts:Ll)(s:BL)(w:World)(e:Ending)(w':World):Prop:=Ao w w'/\∃x,e= .returned x/\BJ w' x (Td ts s)
theorem SJ(w:World)(tv:Value)(ts:Ll)(vs:Lv)(s:BL)(h:AK w 0 tv ts vs)(hl:ts.length<=200001)(hn:s.num<=200000):
  Calls prog 208 #[.agg #[tv],.agg #[.string ⟨s.name.toArray⟩,Vi s.num,Vi s.args]] w (Ua ts s w):=by
 obtain⟨ta,z,rfl⟩:=Ac h.owns;have c:Hd (∀o l,Ao w ((w.alloc o).alloc l)):=fun o l=>Mxt
 cases a:s.name with
 |cons x xs=>
  have b:Hd (Td ts s=[]):=by show _=_;unfold Td;rw[if_neg (by rw[a];simp)]
  clear h a;go_enter func208,k;go_wp2;go_ret;exact⟨c.o _ _,_,rfl,by rw[b.o];exact Q2 _ _ _ _⟩
 |nil=>
  have h0:(0:Int)<=(s.num:Int):=Yo
  by_cases r:s.num<ts.length
  ·have u:(s.num:Int)<(ts.length:Int):=Yo
   obtain⟨t,d⟩:∃t,ts[s.num]?=some t:=⟨_,Qb r⟩;obtain⟨x,j,e⟩:=h.all _ t d;obtain⟨m,n,rfl⟩:=Ac e;obtain⟨g,A,v,f,_,i,q⟩:=An h.owns Yo;simp only[QH]at f;obtain⟨rfl,_,rfl⟩:=f;have B:w.cell? ⟨g,s.num,none⟩=some (.slice m t.length n):=Ag h.owns _ _ j;have y:=Ab i;have b:Hd (Td ts s=t):=by show _=_;unfold Td;rw[if_pos a,d];rfl
   have p:Hd (BJ w (.slice m t.length n) t):=e;clear h a d j e i q;go_enter func208,k;go_wp2;go_ret;exact⟨c.o _ _,_,rfl,by rw[b.o];exact p.o.ext (c.o _ _)⟩
  ·have u:¬(s.num:Int)<(ts.length:Int):=Yo
   have b:Hd (Td ts s=[]):=by show _=_;unfold Td;rw[if_pos a,List.getElem?_eq_none Yo];rfl
   clear h a;go_enter func208,k;go_wp2;go_ret;exact⟨c.o _ _,_,rfl,by rw[b.o];exact Q2 _ _ _ _⟩
def VV(ts:Ll)(a:Ly)(w:World)(e:Ending)(w':World):Prop:=Ao w w'/\
 (((ap (B3 ts) a).length<=30/\∃x n c,e= .returned (.tuple #[.slice x n c,.bool true])/\w'.ownsRow w.heap.size 133 3 (.slice x n c) (ap (B3 ts) a).length (Aq (ap (B3 ts) a)))\/(30<(ap (B3 ts) a).length/\e= .returned (.tuple #[.slice none 0 0,.bool false])))
theorem LZ(σ:Nat->Ly)(a:Ly)(k:Nat):(ap σ (a.take k)).length<=(ap σ a).length:=by
 have h:ap σ a=ap σ (a.take k)++ap σ (a.drop k):=by rw[<-EQ,List.take_append_drop]
 rw[h];simp
def G2(w:World)(tv:Value)(ts:Ll)(a:Ly)(k:Nat)(rv:Value)(wr:World):Prop:=
 Ao w wr/\wr.heap[w.heap.size]?=some (.cells #[tv] 216 (0,0))/\wr.ownsRow w.heap.size 133 3 rv (ap (B3 ts) (a.take k)).length (Aq (ap (B3 ts) (a.take k)))
theorem G2.app{tv l n:Value}{a:Ly}{s:BL}{m:Ly}(h:G2 w tv ts a k l wr)(b:Ao wr w1)(q:a[k]?=some s)(o:EG (B3 ts) s=m)(d:Ar w1 w.hz 133 3 l ((ap (B3 ts) (a.take k)).length+m.length) (Aq (ap (B3 ts) (a.take k))++Aq m) n w2):G2 w tv ts a (k+1) n w2:=by
 obtain⟨c,f,g⟩:=h;have i:=Aj g (fun j e=>b.block j (g.lt j e).2);have hb:=(b.block _ (Ab f)).trans f;have r:=b.size;have p:ap (B3 ts) (a.take (k+1))=ap (B3 ts) (a.take k)++m:=by
  rw[List.take_add_one,q,EQ,<-o];simp[ap]
 refine⟨c.trans ((b.mono c.size).trans (d.kept.below (Qq c.size r) (fun j e=>(i.lt j e).1))),(d.kept.block _ (Ab hb) (Ai i Yd hb)).trans hb,?_⟩;rw[p,Db,Qg];exact d.owns
theorem Uk(w:World)(tv av:Value)(ts:Ll)(vs:Lv)(a:Ly)(h:AK w 0 tv ts vs)(Y:BJ w av a)(ar:∃k,Wf k a)(hl:ts.length<=200001)(ao:∀t∈ts,t.length<=30)(bk:a.length<=1000)(hn:∀s∈a,s.num<=200000):
  Calls prog 193 #[.agg #[tv],av] w (VV ts a w):=by
 obtain⟨ta,y,rfl⟩:=Ac h.owns;obtain⟨va,bt,rfl⟩:=Ac Y;have ax:=hd h;have Q:=hd Y;have az:=hd hn;have a1:=hd ao;have a3:=hd ar;clear h Y hn ao ar;go_enter func193,bs;go_wp2
 go_loopg [6,12] (a.length+1) (fun gk bf bc wr=>∃(k:Nat),bc=Vi k/\k<=a.length/\a.length-k<gk/\(ap (B3 ts) (a.take k)).length<=30/\G2 w (.slice ta ts.length y) ts a k bf wr)
 case atStart=>exact⟨0,Yg,Qm _,Yo,by simp[ap],Mxt,QL w _,Q2 _ _ _ _⟩
 case round=>
  obtain⟨k,rfl,bq,bn,aj,l⟩:=hrel;obtain⟨G,H,rfl⟩:=Ac l.2.2;have bb:=l.1.size;have bl:=Ab l.2.1;have bg:wr.cell? ⟨w.hz,0,none⟩=some (.slice ta ts.length y):=Aa l.2.1 0 _ rfl;have I:=hd l;clear l
  by_cases a9:k<a.length
  ·obtain⟨s,r⟩:∃s,a[k]?=some s:=⟨_,Qb a9⟩;obtain⟨g,bi,bj,ak,_,al,_⟩:=An Q.o Yo;simp only[QH]at ak;obtain⟨rfl,_,rfl⟩:=ak;have L:=Aj Q.o (fun j C=>I.o.1.block j (Q.o.lt j C).2);have bp:=Ab al;have bo:g<wr.hz:=Yo
   have a5:wr.cell? ⟨g,k*3,none⟩=some (.string ⟨s.name.toArray⟩):=Ag L _ _ (by have:=AV a k s r 0 Yo;rw[Nat.add_zero]at this;rw[this];rfl);have a6:wr.cell? ⟨g,k*3+1,none⟩=some (Vi s.num):=Ag L _ _ (by rw[AV a k s r 1 Yo];rfl);have a7:wr.cell? ⟨g,k*3+2,none⟩=some (Vi s.args):=Ag L _ _ (by rw[AV a k s r 2 Yo];rfl);have an:s.name=[]->s.args=0:=by obtain⟨j,C⟩:=a3.o;exact(G5 C r).1
   have X:Ao wr (wr.alloc (.cells #[.string ⟨s.name.toArray⟩,Vi s.num,Vi s.args] 133)):=Mxt;have ae:=hd (SJ (wr.alloc (.cells #[.string ⟨s.name.toArray⟩,Vi s.num,Vi s.args] 133)) _ ts vs s (ax.o.ext (I.o.1.trans (X.mono bb))) hl (az.o s (Qh r)));have aq:(Td ts s).length<=30:=by
    unfold Td;split
    ·cases ba:ts[s.num]? with
     |none=>simp
     |some t=>exact a1.o t (Qh ba)
    ·simp
   have ah:=hd r;have ay:=hd X;have a0:=hd an;clear r L al X an;go_wp2_with fail;apply ae.o.mono;rintro e w1 ⟨J,x,rfl,O⟩;obtain⟨au,aw,rfl⟩:=Ac O;obtain⟨t,aa⟩:=Ex (Td ts s);have K:Ao wr w1:=ay.o.trans (J.mono Ys);have f:G2 w (.slice ta ts.length y) ts a k (.slice G (ap (B3 ts) (a.take k)).length H) w1:=by
    obtain⟨P,ab,E⟩:=I.o;exact⟨P.trans (K.mono P.size),(K.block _ (Ab ab)).trans ab,Aj E (fun j C=>K.block j (E.lt j C).2)⟩
   have B:w1.heap[wr.hz]?=some (.cells #[.string ⟨s.name.toArray⟩,Vi s.num,Vi s.args] 133 (0,0)):=(J.block _ Ys).trans (QL wr _);have bu:=Aa B 0 _ rfl;have bv:=Aa B 1 _ rfl;have bw:=Aa B 2 _ rfl;have bm:=Ab B;have am:=J.size;have am:wr.hz+1<=w1.hz:=by simpa using am
   have bg:w1.cell? ⟨w.hz,0,none⟩=some (.slice ta ts.length y):=Aa f.2.1 0 _ rfl;obtain⟨b,d⟩:∃n,n=(ap (B3 ts) (a.take k)).length:=⟨_,rfl⟩;obtain⟨U,Z⟩:∃c,c=Aq (ap (B3 ts) (a.take k)):=⟨_,rfl⟩;have ag:Hd (w1.ownsRow w.hz 133 3 (.slice G b H) b U):=by rw[d,Z];exact f.2.2
   rw[<-aa]at O aq⊢;rw[<-d]at aj⊢;have ac:=hd f;have ai:=hd aa;have v:=hd d;have af:=hd Z;have a4:=hd O;clear J K f B aa d Z O a5 a6 a7 ae
   cases t with
   |nil=>
    have R:Hd (EG (B3 ts) s=[s]):=WP ai.o.symm a0.o
    go_wp2_with (at_builtin;go_loud (refine Am w1 rfl (.tmp 22) (.tmp 24) 105 rfl w.hz 133 infoSym underlying105 rfl Yd (.slice G b H) b U rfl ag.o #[.string ⟨s.name.toArray⟩,Vi s.num,Vi s.args] (N:=w1.hz) rfl Ys rfl (Fu _ _ _) ?_ ?_ ?_))
    ·omega
    ·omega
    intro bh w2 q;obtain⟨S,T,rfl⟩:=Ac q.owns;have p:G2 w (.slice ta ts.length y) ts a (k+1) (.slice S (b+1) T) w2:=by
     have f:=ac.o;rw[<-v.o]at f;refine f.app (w1:=w1) (m:=[s]) (Below.refl _ _) ah.o R.o ?_;rw[<-v.o,<-af.o];simpa[Aq,Bz]using q
    have D:(ap (B3 ts) (a.take (k+1))).length=b+1:=by
     obtain⟨bd,be,F⟩:=Ac p.2.2;simp only[QH]at F;exact F.2.1.symm
    have z:=hd p;have A:=hd D;clear q p D
    by_cases V:b+1<=30
    ·have W:¬((30:Int)<((b+1:Nat):Int)):=Yo
     go_wp2
     go_roundg (a.length-k)
     case measure=>omega
     case rel=>exact⟨k+1,Yg,Yo,Yo,by rw[A.o];exact V,z.o⟩
    ·have W:(30:Int)<((b+1:Nat):Int):=Yo
     go_wp2;go_ret2;exact⟨z.o.1,Or.inr ⟨by have:=LZ (B3 ts) a (k+1);rw[A.o]at this;omega,rfl⟩⟩
   |cons u t=>
    have R:Hd (EG (B3 ts) s=u::t):=V0 ai.o.symm;have ad:Hd (Jn w1 3 (.slice au (u::t).length aw) (u::t).length (Aq (u::t))):=Gf a4.o (MD _);obtain⟨i,M⟩:∃n,n=(u::t).length:=⟨_,rfl⟩;have br:0<i:=by rw[M];simp
    have hz:((i:Int)==0)=false:=by rw[Qu];omega
    rw[<-M]at ad aq⊢;have a2:=hd M;clear M
    go_wp2_with (at_builtin;go_loud (refine BT w1 rfl (.tmp 26) (.tmp 27) 105 rfl w.hz 133 infoSym underlying105 rfl Yd (.slice G b H) b U rfl ag.o (.slice au i aw) i (Aq (u::t)) rfl ad.o ?_ ?_ ?_))
    ·omega
    ·omega
    intro bh w2 q;obtain⟨S,T,rfl⟩:=Ac q.owns;have p:G2 w (.slice ta ts.length y) ts a (k+1) (.slice S (b+i) T) w2:=by
     have f:=ac.o;rw[<-v.o]at f;refine f.app (w1:=w1) (m:=u::t) (Below.refl _ _) ah.o R.o ?_;rw[<-v.o,<-af.o,<-a2.o];exact q
    have D:(ap (B3 ts) (a.take (k+1))).length=b+i:=by
     obtain⟨bd,be,F⟩:=Ac p.2.2;simp only[QH]at F;exact F.2.1.symm
    have z:=hd p;have A:=hd D;clear q p D
    by_cases V:b+i<=30
    ·have W:¬((30:Int)<((b+i:Nat):Int)):=Yo
     go_wp2
     go_roundg (a.length-k)
     case measure=>omega
     case rel=>exact⟨k+1,Yg,Yo,Yo,by rw[A.o];exact V,z.o⟩
    ·have W:(30:Int)<((b+i:Nat):Int):=Yo
     go_wp2;go_ret2;exact⟨z.o.1,Or.inr ⟨by have:=LZ (B3 ts) a (k+1);rw[A.o]at this;omega,rfl⟩⟩
  ·have a8:k=a.length:=Yo
   subst a8;obtain⟨b,d⟩:∃n,n=(ap (B3 ts) (a.take a.length)).length:=⟨_,rfl⟩;rw[<-d]at aj⊢;have v:=hd d;clear d;go_wp2;go_ret2;have d:=v.o;have l:=I.o;rw[List.take_length]at d;obtain⟨P,ab,E⟩:=l;rw[List.take_length]at E;refine⟨P,Or.inl ⟨Yo,G,b,H,rfl,?_⟩⟩;rw[d];exact E
structure IG(a:List BL):Prop where
 wf:∃k,Wf k a
 len:a.length<=1000
 num:∀s∈a,s.num<=200000
def FK(ts ls:Ll)(w:World)(e:Ending)(w':World):Prop:=Ao w w'/\
 (((∀l∈ls,(ap (B3 ts) l).length<=30)/\∃x c,e= .returned (.tuple #[.slice x ls.length c,.bool true])/\BO w.heap.size w' (.slice x ls.length c) (ls.map (ap (B3 ts))))\/((∃l∈ls,30<(ap (B3 ts) l).length)/\e= .returned (.tuple #[.slice none 0 0,.bool false])))
def Ic(w:World)(tv:Value)(ts ls:Ll)(k:Nat)(rv:Value)(xs:Lv)(wr:World):Prop:=
 Ao w wr/\wr.heap[w.heap.size]?=some (.cells #[tv] 216 (0,0))/\AK wr w.heap.size rv ((ls.take k).map (ap (B3 ts))) xs/\∀x∈xs,∀j,x.ownBlock=some j->w.heap.size<=j
theorem Ic.app{tv m n x:Value}(h:Ic w tv ts ls k m xs wr)(b:Ao wr w1)(hl:ls[k]?=some l)(i:w1.ownsRow w.hz 133 3 x (ap (B3 ts) l).length (Aq (ap (B3 ts) l)))(f:Ar w1 w.hz 105 1 m (k+1) (xs++[x]) n w2):Ic w tv ts ls (k+1) n (xs++[x]) w2:=by
 obtain⟨d,g,o,p⟩:=h;have e:=o.ext b;have hb:=(b.block _ (Ab g)).trans g;have r:=b.size;have s:=(Qa.1 hl).1;have q:((ls.take k).map (ap (B3 ts))).length=k:=by simp;omega
 refine⟨d.trans ((b.mono d.size).trans (f.kept.below (Qq d.size r) (fun j c=>(e.owns.lt j c).1))),(f.kept.block _ (Ab hb) (Ai e.owns Yd hb)).trans hb,?_,fun y a j c=> ?_⟩
 rotate_left
 ·rcases Qk.1 a with a|a
  ·exact p y a j c
  ·simp at a;subst a;exact(i.lt j c).1
 rw[List.take_add_one,hl];simp only[Option.toList,Qr,Qx,List.map_nil];exact e.snoc (by rw[q];exact f) (AI i (Qm _))
theorem HV(w:World)(tv av:Value)(ts ls:Ll)(vs:Lv)(h:AK w 0 tv ts vs)(i:AF w av ls)(hl:ts.length<=200001)(M:∀t∈ts,t.length<=30)(az:ls.length<=4000)(J:∀l∈ls,IG l):
  Calls prog 161 #[.agg #[tv],av] w (FK ts ls w):=by
 obtain⟨a8,i⟩:=i;obtain⟨ta,B,rfl⟩:=Ac h.owns;obtain⟨va,ba,rfl⟩:=Ac i.owns;have U:=hd h;have r:=hd i;have ac:=hd M;have Z:=hd J;clear h i M J;go_enter func161,a5;go_wp2
 go_loopg [6,13] (ls.length+1) (fun gk an aj wr=>∃(k:Nat)(xs:Lv),aj=Vi k/\k<=ls.length/\ls.length-k<gk/\(∀l∈ls.take k,(ap (B3 ts) l).length<=30)/\Ic w (.slice ta ts.length B) ts ls k an xs wr)
 case atStart=>exact⟨0,[],Yg,Qm _,Yo,Ys,Mxt,QL w _,AK.nil _ _,Ys⟩
 case round=>
  obtain⟨k,xs,rfl,a3,a1,f,c⟩:=hrel;have I:((ls.take k).map (ap (B3 ts))).length=k:=by simp;omega
  have v:=c.2.2.1.owns;rw[I]at v;obtain⟨z,A,rfl⟩:=Ac v;have L:=c.1.size;have a0:=Ab c.2.1;have a7:wr.cell? ⟨w.hz,0,none⟩=some (.slice ta ts.length B):=Aa c.2.1 0 _ rfl;have a:=hd c;have C:=hd f;clear c f v I
  by_cases ah:k<ls.length
  ·obtain⟨l,n⟩:∃l,ls[k]?=some l:=⟨_,Qb ah⟩;obtain⟨x,O,y⟩:=r.o.all _ l n;obtain⟨S,T,rfl⟩:=Ac y;obtain⟨g,ax,ay,G,_,H,_⟩:=An r.o.owns Yo;simp only[QH]at G;obtain⟨rfl,_,rfl⟩:=G;have af:=Ab H;have a2:g<wr.hz:=Yo
   have bb:wr.cell? ⟨g,k,none⟩=some (.slice S l.length T):=(a.o.1.cell (p:=⟨g,k,none⟩) af).trans (Ag r.o.owns _ _ O);obtain⟨Q,ak,R⟩:=Z.o l (Qh n);have D:=hd (Uk wr (.slice ta ts.length B) (.slice S l.length T) ts vs l (U.o.ext a.o.1) (BJ.ext y a.o.1) Q hl ac.o ak R);have s:=hd n;clear n O y H Q R;go_wp2_with fail;apply D.o.mono;rintro e w1 ⟨d,ai⟩;have a4:=d.size;rcases ai with⟨K,ao,ar,aq,rfl,P⟩|⟨F,rfl⟩
   ·have aa:Hd (w1.ownsRow w.hz 105 1 (.slice z k A) k xs):=by
     have:=(a.o.2.2.1.ext d).owns;rw[show((ls.take k).map (ap (B3 ts))).length=k by simp;omega]at this;exact this
    have X:=hd d;have ab:=hd K;have ad:=hd P;clear d K P D
    go_wp2_with (at_builtin;go_loud (refine Am w1 rfl (.tmp 25) (.tmp 27) 85 rfl w.hz 105 infoSyms underlying85 rfl Yd (.slice z k A) k xs rfl aa.o #[.slice ao ar aq] (N:=w1.hz) rfl Ys rfl (DB _ _ _) ?_ ?_ ?_))
    ·omega
    ·omega
    intro a9 w2 u;obtain⟨au,aw,rfl⟩:=Ac u.owns;have E:=a.o.app X.o s.o (AI ad.o L) u;have V:=hd E;clear u E;go_wp2
    go_roundg (ls.length-k)
    case measure=>omega
    case rel=>
     refine⟨k+1,_,Yg,Yo,Yo,fun m b=> ?_,V.o⟩;rw[List.take_add_one,s.o]at b;rcases Qk.1 b with b|b
     ·exact C.o m b
     ·simp at b;subst b;exact ab.o
   ·have W:Hd (Ao w w1):=a.o.1.trans (d.mono L);have Y:Hd (∃l∈ls,30<(ap (B3 ts) l).length):=⟨l,Qh s.o,F⟩;clear d F;go_wp2;go_ret2;exact⟨W.o,Or.inr ⟨Y.o,rfl⟩⟩
  ·have ae:k=ls.length:=Yo
   subst ae;go_wp2;go_ret2;have f:=C.o;obtain⟨al,a6,q,am⟩:=a.o;rw[List.take_length]at q f;exact⟨al,Or.inl ⟨f,z,A,rfl,xs,⟨AI q.owns (Qm _),q.all⟩,fun j ag=>(q.owns.lt j ag).1,am⟩⟩
theorem FK.form{e:Ending}(h:FK ts ls w e w'):Ao w w'/\∃x n c b,e=Rq #[.slice x n c,.bool b]/\(b=true->(∀l∈ls,(ap (B3 ts) l).length<=30)/\BO w.hz w' (.slice x n c) (ls.map (ap (B3 ts))))/\(b=false->∃l∈ls,30<(ap (B3 ts) l).length):=by
 obtain⟨d,⟨a,x,c,rfl,f⟩|⟨a,rfl⟩⟩:=h
 ·exact⟨d,x,_,c,true,rfl,fun _=>⟨a,f⟩,fun h=>by simp at h⟩
 ·exact⟨d,none,0,0,false,rfl,fun h=>(by simp at h),fun _=>a⟩
def S3(ts gs vs ds:Ll)(u:Nat)(w:World)(e:Ending)(w':World):Prop:=Ao w w'/\
 (((∀l∈gs++(vs++ds),(ap (B3 ts) l).length<=30)/\∃g1 g2 g3 v1 v2 v3 r1 r2 r3,e= .returned (.tuple #[.agg #[.slice g1 g2 g3,.slice v1 v2 v3,.slice r1 r2 r3,.int .i64 u],.int .i64 1])/\BO w.heap.size w' (.slice g1 g2 g3) (gs.map (ap (B3 ts)))/\BO w.heap.size w' (.slice v1 v2 v3) (vs.map (ap (B3 ts)))/\BO w.heap.size w' (.slice r1 r2 r3) (ds.map (ap (B3 ts))))\/
  ((∃l∈gs++(vs++ds),30<(ap (B3 ts) l).length)/\e= .returned (.tuple #[.agg #[.slice none 0 0,.slice none 0 0,.slice none 0 0,.int .i64 0],.int .i64 2])))
theorem Mn(w:World)(tv W ag af:Value)(ts gs vs ds:Ll)(T:Lv)(u:Nat)(h:AK w 0 tv ts T)(f:AF w W gs)(g:AF w ag vs)(X:AF w af ds)(hl:ts.length<=200001)(N:∀t∈ts,t.length<=30)
  (br:gs.length<=4000) (bs:vs.length<=4000) (hd:ds.length<=4000) (L:∀l∈gs++(vs++ds),IG l) (b4:u<=1000000):
  Calls prog 129 #[.agg #[W,ag,af,Vi u],.agg #[tv]] w (S3 ts gs vs ds u w):=by
 obtain⟨ta,r,rfl⟩:=Ac h.owns;obtain⟨x,z,rfl⟩:∃a c,W= .slice a gs.length c:=by obtain⟨_,q⟩:=f;exact Ac q.owns
 obtain⟨va,C,rfl⟩:∃a c,ag= .slice a vs.length c:=by obtain⟨_,q⟩:=g;exact Ac q.owns
 obtain⟨A,B,rfl⟩:∃a c,af= .slice a ds.length c:=by obtain⟨_,q⟩:=X;exact Ac q.owns
 obtain⟨b,n⟩:=Ex (((w.alloc (.cells #[.slice x gs.length z,.slice va vs.length C,.slice A ds.length B,Vi u] 87)).alloc (.cells #[.slice ta ts.length r] 216)).alloc (.cells #[Nl,Nl,Nl,Vi 0] 87));have m:Ao w b:=by rw[n];exact Mxt
 have b3:b.hz=w.hz+3:=by rw[n];simp
 have ab:b.heap[w.hz]?=some (.cells #[.slice x gs.length z,.slice va vs.length C,.slice A ds.length B,Vi u] 87 (0,0)):=by rw[n];exact Ah (Ah (QL w _) _) _
 have ac:b.heap[w.hz+1]?=some (.cells #[.slice ta ts.length r] 216 (0,0)):=by
  rw[n];refine Ah ?_ _;have:=QL (w.alloc (.cells #[.slice x gs.length z,.slice va vs.length C,.slice A ds.length B,Vi u] 87)) (.cells #[.slice ta ts.length r] 216);simpa using this
 have ad:b.heap[w.hz+2]?=some (.cells #[Nl,Nl,Nl,Vi 0] 87 (0,0)):=by
  rw[n];have:=QL ((w.alloc (.cells #[.slice x gs.length z,.slice va vs.length C,.slice A ds.length B,Vi u] 87)).alloc (.cells #[.slice ta ts.length r] 216)) (.cells #[Nl,Nl,Nl,Vi 0] 87);simpa using this
 have ah:=hd (HV b (.slice ta ts.length r) (.slice x gs.length z) ts gs T (h.ext m) (f.ext m) hl N br (fun l hl=>L l (by simp[hl])));have a6:Hd (∀u,Ao b u->Calls prog 161 #[.agg #[.slice ta ts.length r],.slice va vs.length C] u (FK ts vs u)):=fun u k=>HV u _ _ ts vs T ((h.ext m).ext k) ((g.ext m).ext k) hl N bs (fun l hl=>L l (by simp[hl]));have a7:Hd (∀u,Ao b u->Calls prog 161 #[.agg #[.slice ta ts.length r],.slice A ds.length B] u (FK ts ds u)):=fun u k=>HV u _ _ ts ds T ((h.ext m).ext k) ((X.ext m).ext k) hl N hd (fun l hl=>L l (by simp[hl]));have U:Hd (∀y,Ao b y->y.cell? ⟨w.hz,0,none⟩=some (.slice x gs.length z)/\y.cell? ⟨w.hz,1,none⟩=some (.slice va vs.length C)/\y.cell? ⟨w.hz,2,none⟩=some (.slice A ds.length B)/\y.cell? ⟨w.hz,3,none⟩=some (Vi u)/\y.cell? ⟨w.hz+1,0,none⟩=some (.slice ta ts.length r)/\
   y.heap[w.hz+2]?=some (.cells #[Nl,Nl,Nl,Vi 0] 87 (0,0))/\w.hz+2<y.hz):=fun y k=>by
  have H:=(k.block _ (Ab ab)).trans ab;have bh:=(k.block _ (Ab ac)).trans ac;have au:=(k.block _ (Ab ad)).trans ad;exact⟨Aa H 0 _ rfl,Aa H 1 _ rfl,Aa H 2 _ rfl,Aa H 3 _ rfl,Aa bh 0 _ rfl,au,Ab au⟩
 have a8:=hd m;clear h f g X N L m ab ac ad;go_enter func129,ntmps129;go_wp2_with fail;rw[<-n];apply ah.o.mono;rintro e w1 a2;obtain⟨I,bi,bo,bl,b1,rfl,az,aw⟩:=a2.form;obtain⟨am,an,ao,aq,ar,d,s⟩:=U.o w1 I;have a5:=I.size;have be:=hd az;have bb:=hd aw;have ai:=hd I;have b0:=hd n;clear a2 az aw I ah n;go_wp2_with fail;apply(a6.o w1 ai.o).mono;rintro e w2 a3;obtain⟨J,bj,bp,bm,b2,rfl,a0,ax⟩:=a3.form;have Y:=ai.o.trans (J.mono a5);obtain⟨am,an,ao,aq,ar,d,s⟩:=U.o w2 Y;have bt:=J.size;have bf:=hd a0;have bc:=hd ax;have a9:=hd J;have aj:=hd Y;clear a3 a0 ax J Y;go_wp2_with fail;apply(a7.o w2 aj.o).mono;rintro e w3 a4;obtain⟨K,bk,bq,bn,al,rfl,a1,ay⟩:=a4.form;have Z:=aj.o.trans (K.mono (Qq a5 bt));obtain⟨am,an,ao,aq,ar,d,s⟩:=U.o w3 Z;have O:=Aa d 0 _ rfl;have P:=Aa d 1 _ rfl;have Q:=Aa d 2 _ rfl;have R:=Aa d 3 _ rfl;have S:=fun i=>Ae d i;have b5:=K.size;have av:Ao w w3:=a8.o.trans (Z.mono Yo);have bg:=hd a1;have bd:=hd ay;have ak:=hd K;have ba:=hd av;have V:=hd d;clear a4 a1 ay K Z av d;have ae:Hd (b1=false\/b2=false\/al=false->∃l∈gs++(vs++ds),30<(ap (B3 ts) l).length):=by
  show _->_;rintro(h|h|h)
  ·obtain⟨l,f,g⟩:=bb.o h;exact⟨l,by simp[f],g⟩
  ·obtain⟨l,f,g⟩:=bc.o h;exact⟨l,by simp[f],g⟩
  ·obtain⟨l,f,g⟩:=bd.o h;exact⟨l,by simp[f],g⟩
 have M:Hd (∀D E F G,Ao w ((((w3.setCell ⟨w.hz+2,0,none⟩ D).setCell ⟨w.hz+2,1,none⟩ E).setCell ⟨w.hz+2,2,none⟩ F).setCell ⟨w.hz+2,3,none⟩ G)):=fun D E F G=>
  (((ba.o.setCell (p:=⟨w.hz+2,0,none⟩) Ys _).setCell (p:=⟨w.hz+2,1,none⟩) Ys _).setCell (p:=⟨w.hz+2,2,none⟩) Ys _).setCell (p:=⟨w.hz+2,3,none⟩) Ys _
 cases b1 with
 |false=>
  go_wp2;refine bodyPost_ret (v:= .tuple #[.agg #[Nl,Nl,Nl,Vi 0],Vi 2]) (by simp[results,results129,go_sem,O,P,Q,R,S,s]) rfl ?_;exact⟨M.o _ _ _ _,Or.inr ⟨ae.o Ys,rfl⟩⟩
 |true=>
  cases b2 with
  |false=>
   go_wp2;refine bodyPost_ret (v:= .tuple #[.agg #[Nl,Nl,Nl,Vi 0],Vi 2]) (by simp[results,results129,go_sem,O,P,Q,R,S,s]) rfl ?_;exact⟨M.o _ _ _ _,Or.inr ⟨ae.o Ys,rfl⟩⟩
  |true=>
   cases al with
   |false=>
    go_wp2;refine bodyPost_ret (v:= .tuple #[.agg #[Nl,Nl,Nl,Vi 0],Vi 2]) (by simp[results,results129,go_sem,O,P,Q,R,S,s]) rfl ?_;exact⟨M.o _ _ _ _,Or.inr ⟨ae.o Ys,rfl⟩⟩
   |true=>
    go_wp2;refine bodyPost_ret (v:= .tuple #[.agg #[.slice bi bo bl,.slice bj bp bm,.slice bk bq bn,Vi u],Vi 1]) (by simp[results,results129,go_sem,O,P,Q,R,S,s]) rfl ?_;have aa:∀D E F G,Ad (fun j=>j=w.hz+2) w3 ((((w3.setCell ⟨w.hz+2,0,none⟩ D).setCell ⟨w.hz+2,1,none⟩ E).setCell ⟨w.hz+2,2,none⟩ F).setCell ⟨w.hz+2,3,none⟩ G):=fun D E F G=>((((Ad.refl (only (w.hz+2)) w3).put 0 _).put 1 _).put 2 _).put 3 _;obtain⟨bu,bw⟩:=be.o Ys;obtain⟨s2,bx⟩:=bf.o Ys;obtain⟨bv,bz⟩:=bg.o Ys;refine⟨M.o _ _ _ _,Or.inl ⟨fun l hl=> ?_,_,_,_,_,_,_,_,_,_,rfl,?_,?_,?_⟩⟩
    ·rcases Qk.1 hl with hl|hl
     ·exact bu l hl
     ·rcases Qk.1 hl with hl|hl
      ·exact s2 l hl
      ·exact bv l hl
    ·exact(((bw.ext a9.o).ext ak.o).box V.o Yd Yd (aa _ _ _ _)).mono Yo
    ·exact((bx.ext ak.o).box V.o Yd Yd (aa _ _ _ _)).mono Yo
    ·exact(bz.box V.o Yd Yd (aa _ _ _ _)).mono Yo
theorem W9(a:Ly):a.map (rn 0)=a:=by
 have:∀s:BL,rn 0 s=s:=fun s=>by
  unfold rn;split
  ·rename_i h;cases s;simp at h;subst h;rfl
  ·rfl
 induction a with
 |nil=>rfl
 |cons s a b=>rw[Qx,this,b]
theorem Pg(w:World)(n:Nat):BJ (w.alloc (.cells #[.string ⟨#[]⟩,Vi n,Vi 0] 133)) (.slice (some ⟨w.hz,0,none⟩) 1 1) (vr n):=
 ⟨rfl,Or.inr ⟨_,1,#[.string ⟨#[]⟩,Vi n,Vi 0],rfl,Qm _,QL w _,Qe _,by unfold maxLen;omega,rfl,rfl⟩⟩
theorem AK.aside{c:Nat}(h:AK w B v ls vs)(hl:∀j,v.ownBlock=some j->j<c)(f:w.ownsRow c 105 1 vv n ys)(e:Ad (Ak vv) w w'):AK w' B v ls vs:=
 ⟨e.owns h.owns (fun j b a=>by have:=(f.lt j a).1;have:=hl j b;omega),fun i l hi=>by
  obtain⟨x,g,d⟩:=h.all i l hi;refine⟨x,g,e.owns d (fun j b a=> ?_)⟩;obtain⟨m,k⟩:=Ay f j a;exact Ai d Yd k b⟩
theorem AF.aside{a:Nat}(h:AF w v ls)(hl:∀j,v.ownBlock=some j->j<a)(c:w.ownsRow a 105 1 vv n ys)(b:Ad (Ak vv) w w'):AF w' v ls:=by
 obtain⟨vs,h⟩:=h;exact⟨vs,h.aside hl c b⟩
theorem AF.box{cs:Av}(h:AF w v ls)(c:w.heap[M]?=some (.cells cs t fr))(a:105≠t)(b:133≠t)(d:Ad (fun k=>k=M) w w'):AF w' v ls:=by
 obtain⟨vs,h⟩:=h;exact⟨vs,h.box c a b d⟩
theorem AF.shape(h:AF w v ls):∃a c,v= .slice a ls.length c:=by
 obtain⟨vs,h⟩:=h;exact Ac h.owns
abbrev NB(w:World)(b:Nat)(gv vv rv:Value)(u:Nat):Prop:=w.heap[b]?=some (.cells #[gv,vv,rv,.int .i64 u] 87 (0,0))
def Kz(w0:World)(B:Nat)(l:Ly)(gv:Value)(n:Nat)(xs:Lv)(F:Value->World->Prop):Lv->World->Prop
 |[],u=>u=w0
 |[x],u=>G1 l w0 (.returned x) u
 |[x,y],u=>∃u1,G1 l w0 (.returned x) u1/\y= .slice (some ⟨u1.heap.size,0,none⟩) 1 1/\u=u1.alloc (.cells #[x] 105)
 |[x,_,z],u=>∃u1,G1 l w0 (.returned x) u1/\Ar u1 B 105 1 gv (n+1) (xs++[x]) z u
 |[_,_,z,_],u=>F z u
 |_,_=>False
theorem Kz.ext{a:Value->World->Prop}:∀{vs:Lv}{u:World},Kz w0 B l gv n xs a vs u->vs.length<=2->Ao w0 u
 |[],u,h,_=>by obtain rfl:u=w0:=h;exact Below.refl _ _
 |[x],u,h,_=>by obtain⟨_,_,_,_,_,h⟩:=h;exact h
 |[x,y],u,h,_=>by
  obtain⟨b,⟨_,_,_,_,_,h⟩,_,rfl⟩:=h;exact h.alloc h.size _
 |_::_::_::_,_,_,h=>by simp at h
theorem CU(h:w.hz=n)(o:Obj):(w.alloc o).heap[n]?=some o:=by subst h;exact QL w o
structure UI(w:World)(B2:Nat)(hv bv vv:Value)(ls:List (List BL))(j:Nat)(gv v2:Value)(ys:List Value)(wr:World):Prop where
 ext:Ao w wr
 cls:wr.heap[w.heap.size]?=some (.cells #[hv,bv,vv] 107 (0,0))
 res:NB wr (w.heap.size+1) (.slice none 0 0) (.slice none 0 0) (.slice none 0 0) 0
 box:NB wr (w.heap.size+2) gv v2 (.slice none 0 0) 0
 goals:AF wr gv ls
 low:∀j,gv.ownBlock=some j->j<B2
 b1:w.heap.size<=B2
 b2:B2<=wr.heap.size
 vals:AK wr B2 v2 ((List.range j).map vr) ys
theorem UI.app{c:Nat}{s n t d:Value}{j:Nat}(h:UI w c s n vv ls j gv t ys wr)
  (a:Ar (wr.alloc (.cells #[.string ⟨#[]⟩,Vi j,Vi 0] 133)) c 105 1 t (j+1) (ys++[.slice (some ⟨wr.hz,0,none⟩) 1 1]) d w2):UI w c s n vv ls (j+1) gv d (ys++[.slice (some ⟨wr.hz,0,none⟩) 1 1]) (w2.setCell ⟨w.hz+2,1,none⟩ d):=by
 obtain⟨o,u,v,x,y,q,r,G,z⟩:=h;have l:Ao wr (wr.alloc (.cells #[.string ⟨#[]⟩,Vi j,Vi 0] 133)):=Mxt;have g:=Ah u (.cells #[.string ⟨#[]⟩,Vi j,Vi 0] 133);have i:=Ah v (.cells #[.string ⟨#[]⟩,Vi j,Vi 0] 133);have k:=Ah x (.cells #[.string ⟨#[]⟩,Vi j,Vi 0] 133);have b:=z.ext l;have b2:=(a.kept.block _ (Ab g) (Ai b.owns Yd g)).trans g;have m:=(a.kept.block _ (Ab i) (Ai b.owns Yd i)).trans i;have f:=(a.kept.block _ (Ab k) (Ai b.owns Yd k)).trans k;have e:Ad (fun j=>j=w.hz+2) w2 (w2.setCell ⟨w.hz+2,1,none⟩ d):=(Ad.refl (only (w.hz+2)) w2).put 1 _;have D:((List.range j).map vr).length=j:=Ys
 have F:AK w2 c d ((List.range (j+1)).map vr) (ys++[.slice (some ⟨wr.hz,0,none⟩) 1 1]):=by
  rw[List.range_succ,Qr];exact b.snoc (by rw[D];exact a) (Pg wr j)
 have E:=a.kept.size;have A:=a.kept.below (B:=c) Yp (fun j C=>(b.owns.lt j C).1);exact⟨(o.trans ((l.mono o.size).trans (A.mono r))).setCell (p:=⟨w.hz+2,1,none⟩) Ys _,(e.block _ (Ab b2) Ys).trans b2,(e.block _ (Ab m) Ys).trans m,Af f 1 _,
  ((y.ext l).aside q b.owns a.kept).box f Yd Yd e,q,r,by simp at E⊢;omega,F.box f Yd Yd e⟩
def NN(w:World)(hv bv vv:Value)(ls:Ll)(k:Nat)(gv:Value)(xs:Lv)(wr:World):Prop:=
 Ao w wr/\wr.heap[w.heap.size]?=some (.cells #[hv,bv,vv] 107 (0,0))/\NB wr (w.heap.size+1) (.slice none 0 0) (.slice none 0 0) (.slice none 0 0) 0/\NB wr (w.heap.size+2) gv (.slice none 0 0) (.slice none 0 0) 0/\AK wr w.heap.size gv (ls.take k) xs
theorem NN.ext{g a:Value}(h:NN w g a vv ls k gv xs wr)(e:Ao wr w1):NN w g a vv ls k gv xs w1:=by
 obtain⟨b,c,d,f,i⟩:=h;exact⟨b.trans (e.mono b.size),(e.block _ (Ab c)).trans c,(e.block _ (Ab d)).trans d,(e.block _ (Ab f)).trans f,i.ext e⟩
theorem NN.app{q n a x:Value}(h:NN w q n vv ls k gv xs w1)(hl:ls[k]?=some l)(u:BJ w1 x l)(c:Ar w1 w.hz 105 1 gv (k+1) (xs++[x]) a w2):NN w q n vv ls (k+1) a (xs++[x]) (w2.setCell ⟨w.hz+2,0,none⟩ a):=by
 obtain⟨o,d,e,f,b⟩:=h;have v:=(Qa.1 hl).1;have s:(ls.take k).length=k:=by simp;omega
 have b2:=(c.kept.block _ (Ab d) (Ai b.owns Yd d)).trans d;have i:=(c.kept.block _ (Ab e) (Ai b.owns Yd e)).trans e;have m:=(c.kept.block _ (Ab f) (Ai b.owns Yd f)).trans f;have g:Ad (fun j=>j=w.hz+2) w2 (w2.setCell ⟨w.hz+2,0,none⟩ a):=(Ad.refl (only (w.hz+2)) w2).put 0 _;have t:AK w2 w.hz a (ls.take (k+1)) (xs++[x]):=by
  rw[List.take_add_one,hl];exact b.snoc (by rw[s];exact c) u
 refine⟨(o.trans (c.kept.below o.size (fun j r=>(b.owns.lt j r).1))).setCell (p:=⟨w.hz+2,0,none⟩) Ys _,(g.block _ (Ab b2) Ys).trans b2,(g.block _ (Ab i) Ys).trans i,Af m 0 _,t.box m Yd Yd g⟩
def Xs(ls:Ll)(n:Nat)(w:World)(e:Ending)(w':World):Prop:=Ao w w'/\∃g1 gc v1 vc,e= .returned (.agg #[.slice g1 ls.length gc,.slice v1 n vc,.slice none 0 0,.int .i64 n])/\AF w' (.slice g1 ls.length gc) ls/\AF w' (.slice v1 n vc) ((List.range n).map vr)
theorem Lj(w:World)(X aq bg:Value)(ls:Ll)(d:At)(bu:∃a n x,X= .slice a n x)(hb:AF w aq ls)(a2:w.ownsRow 0 9 1 bg d.length (Ba d))(hl:ls.length<=4000)(hn:d.length<=4000)(a0:∀l∈ls,IG l):
  Calls prog 51 #[.agg #[X,aq,bg]] w (Xs ls d.length w):=by
 obtain⟨ha,J,I,rfl⟩:=bu;obtain⟨ck,hb⟩:=hb;obtain⟨ae,H,rfl⟩:=Ac hb.owns;obtain⟨na,L,rfl⟩:=Ac a2;have ad:=hd hb;have bk:=hd a0;clear hb a2 a0;go_enter func51,cj;go_wp2
 go_loopg [10] (ls.length+1) (fun gk ai wr=>∃(k:Nat)(ar:Value)(xs:Lv),ai=Vi k/\k<=ls.length/\ls.length-k<gk/\NN w (.slice ha J I) (.slice ae ls.length H) (.slice na d.length L) ls k ar xs wr)
 case atStart=>
  refine⟨0,Nl,[],Yg,Qm _,Yo,Mxt,Ah (Ah (QL w _) _) _,Ah ?_ _,?_,AK.nil _ _⟩
  ·exact CU Ys _
  ·exact CU Ys _
 case round=>
  obtain⟨k,ar,xs,rfl,cf,cd,q⟩:=hrel;have az:(ls.take k).length=k:=by simp;omega
  have s:=q.2.2.2.2.owns;rw[az]at s;obtain⟨t,z,rfl⟩:=Ac s;have a4:=q.1.size;have bc:=Aa q.2.1 2 _ rfl;have bd:=Ab q.2.1;have aj:wr.cell? ⟨w.hz+2,0,none⟩=some (.slice t k z):=Aa q.2.2.2.1 0 _ rfl;have a6:=Aa q.2.2.2.1 1 _ rfl;have a7:=Aa q.2.2.2.1 2 _ rfl;have a8:=Aa q.2.2.2.1 3 _ rfl;have a9:=fun i=>Ae q.2.2.2.1 i;have ak:=Ab q.2.2.2.1;have G:=hd q;clear q s az
  by_cases a1:k<ls.length
  ·obtain⟨l,W⟩:∃l,ls[k]?=some l:=⟨_,Qb a1⟩;obtain⟨x,a5,ah⟩:=ad.o.all _ l W;obtain⟨Z,aa,rfl⟩:=Ac ah;obtain⟨g,b9,ca,r,_,ax,_⟩:=An ad.o.owns Yo;simp only[QH]at r;obtain⟨rfl,_,rfl⟩:=r;have bt:=Ab ax;have ce:g<wr.hz:=Yo
   have F:wr.cell? ⟨g,k,none⟩=some (.slice Z l.length aa):=(G.o.1.cell (p:=⟨g,k,none⟩) bt).trans (Ag ad.o.owns _ _ a5);obtain⟨_,ba,bb⟩:=bk.o l (Qh W);have T:=Hb wr.drew (.slice Z l.length aa) l 0 (BJ.ext ah (G.o.1.trans ⟨rfl,rfl,rfl,Qe _,fun _ _=>rfl⟩)) ba bb Yo;rw[W9]at T;have T:=hd T;have bl:=hd W;clear W a5 ah ax ba bb;go_wp2_with fail;have S:NN w (.slice ha J I) (.slice (some ⟨g,0,none⟩) ls.length H) (.slice na d.length L) ls k (.slice t k z) xs wr.drew:=G.o.ext ⟨rfl,rfl,rfl,Qe _,fun _ _=>rfl⟩;refine FC Yk 999 [.rd 0 3 (fun _=>Pt (w.hz+2)),.rd 0 2 (fun _=> .slice t k z),.rd 0 3 (fun _=> .slice Z l.length aa),.st 0,.st 1,.st 2,.rd 0 3 (fun _=>Pt (w.hz+2)),.st 3] 4 6 Yk
    (Kz wr.drew w.hz l (.slice t k z) k xs (fun m u=>∃ao,NN w (.slice ha J I) (.slice (some ⟨g,0,none⟩) ls.length H) (.slice na d.length L) ls (k+1) m ao u)) rfl ?_ ?_
   ·refine⟨⟨trivial,fun vs u _ hl f=> ?_⟩,⟨trivial,fun vs u _ hl f=> ?_⟩,⟨trivial,fun vs u _ hl f=> ?_⟩,⟨trivial,fun vs u hl f=> ?_⟩,⟨trivial,fun vs u hl f=> ?_⟩,⟨trivial,fun vs u hl f=> ?_⟩,⟨trivial,fun vs u _ hl f=> ?_⟩,⟨trivial,fun vs u hl f=> ?_⟩,trivial⟩
    ·simp[go_sem]
    ·have b6:u.cell? ⟨w.hz+2,0,none⟩=some (.slice t k z):=((f.ext hl).cell (p:=⟨w.hz+2,0,none⟩) ak).trans aj;simp[go_sem,b6]
    ·simp[go_sem]
    ·obtain rfl:=Q3.1 hl;have bx:u=wr.drew:=f;subst bx;refine .call 74 #[.slice Z l.length aa,Vi 0] _ (by simp[go_sem]) (T.o.mono ?_);rintro e u ⟨v,B,rfl,h⟩;exact⟨v,rfl,v,B,rfl,h⟩
    ·obtain⟨x,rfl⟩:=Q1.1 hl;have bp:=f;obtain⟨bh,B',r,b,K,D⟩:=bp;simp only[Ending.returned.injEq]at r;subst r;obtain⟨am,an,rfl⟩:=Ac K;exact .value (.slice (some ⟨u.hz,0,none⟩) 1 1) (u.alloc (.cells #[.slice am l.length an] 105)) (by simp[go_sem]) ⟨u,f,rfl,rfl⟩
    ·obtain⟨x,y,rfl⟩:∃x y,vs=[x,y]:=by
      match vs,hl with
      |[x,y],_=>exact⟨x,y,rfl⟩
     obtain⟨Y,V,rfl,rfl⟩:=f;have bq:=V;obtain⟨bh,B',r,b,K,D⟩:=bq;simp only[Ending.returned.injEq]at r;subst r;obtain⟨am,an,rfl⟩:=Ac K;have s:Y.ownsRow w.hz 105 1 (.slice t k z) k xs:=by
      have:=(S.ext D).2.2.2.2.owns;rw[show(ls.take k).length=k by simp;omega]at this;exact this
     have bw:=D.size;obtain⟨m,w',bv,A⟩:=E2 (P:=prog) Y 85 85 w.hz 105 infoSyms underlying85 rfl Yd (.slice t k z) k xs s #[.slice am l.length an] rfl (DB _ _ _) Yo (Qq a4 bw);refine .value m w' (GT (.tmp 15) (.tmp 18) 85 rfl (by simp[go_sem]) (by simp[go_sem]) bv) ⟨Y,V,by simpa using A⟩
    ·simp[go_sem]
    ·obtain⟨x,y,m,rfl⟩:∃x y m,vs=[x,y,m]:=by
      match vs,hl with
      |[x,y,m],_=>exact⟨x,y,m,rfl⟩
     obtain⟨Y,V,A⟩:=f;obtain⟨bh,B',r,b,K,D⟩:=V;simp only[Ending.returned.injEq]at r;subst r;obtain⟨cm,cn,rfl⟩:=Ac A.owns;have U:=(S.ext D).app bl.o (AI K (Qm _)) A;have C:=(S.ext D).2.2.2.1;have E:=(A.kept.block _ (Ab C) (Ai (S.ext D).2.2.2.2.owns Yd C)).trans C;have bm:=Aa E 0 _ rfl;have f4:=Ae E 0;exact .skip _ (by simp[go_sem,bm,f4]) ⟨_,U⟩
   ·rintro vs u hl f;obtain⟨x,y,m,ab,rfl⟩:∃x y m ab,vs=[x,y,m,ab]:=by
     match vs,hl with
     |[x,y,m,ab],_=>exact⟨x,y,m,ab,rfl⟩
    obtain⟨ao,U⟩:=f;simp only[El,Hq,B4,pa,Ph.kd,Ph.val,Kd.val,Qx,List.map_nil,if_true,Act.put,List.setIfInBounds_toArray,List.set_cons_succ,List.set_cons_zero];have bi:=hd U;clear U;go_wp2
    go_roundg (ls.length-k)
    case measure=>omega
    case rel=>exact⟨k+1,_,ao,Yg,Yo,Yo,bi.o⟩
  ·have bs:k=ls.length:=Yo
   subst bs;have b:UI w wr.hz (.slice ha J I) (.slice ae ls.length H) (.slice na d.length L) ls 0 (.slice t ls.length z) Nl [] wr:=by
    obtain⟨au,bn,bo,C,af⟩:=G.o;rw[List.take_length]at af;exact⟨au,bn,bo,C,af.inn,fun j ay=>(af.owns.lt j ay).2,au.size,Qe _,AK.nil _ _⟩
   have c:=hd b;obtain⟨al,bz⟩:∃x,x=wr:=⟨_,rfl⟩;subst bz;clear G b;go_wp2
   go_loopg [25] (d.length+1) (fun gk ai wr=>∃(j:Nat)(bf:Value)(ac:Lv),ai=Vi j/\j<=d.length/\d.length-j<gk/\UI w al.hz (.slice ha J I) (.slice ae ls.length H) (.slice na d.length L) ls j (.slice t ls.length z) bf ac wr)
   case atStart=>exact⟨0,Nl,[],Yg,Qm _,Yo,c.o⟩
   case round=>
    clear bc bd aj a6 a7 a8 a9 ak c;obtain⟨j,bf,ac,rfl,ay,cc,b⟩:=hrel;have s:=b.vals.owns;rw[show((List.range j).map vr).length=j by simp]at s;obtain⟨va,M,rfl⟩:=Ac s;have a4:=b.ext.size;have cb:=b.b2;have bc:=Aa b.cls 2 _ rfl;have bd:=Ab b.cls;have aj:=Aa b.box 0 _ rfl;have a6:wr.cell? ⟨w.hz+2,1,none⟩=some (.slice va j M):=Aa b.box 1 _ rfl;have a7:=Aa b.box 2 _ rfl;have a8:=Aa b.box 3 _ rfl;have a9:=fun i=>Ae b.box i;have ak:=Ab b.box;have c:=hd b;have ap:Hd ((wr.alloc (.cells #[.string ⟨#[]⟩,Vi j,Vi 0] 133)).ownsRow al.hz 105 1 (.slice va j M) j ac):=Aj s (fun i hi=>Below.heap_alloc _ _ _ (s.lt i hi).2);clear b s
    by_cases a1:j<d.length
    ·go_wp2_with (at_builtin;go_loud (refine Am (wr.alloc (.cells #[.string ⟨#[]⟩,Vi j,Vi 0] 133)) rfl (.tmp 29) (.tmp 33) 85 rfl al.hz 105 infoSyms underlying85 rfl Yd (.slice va j M) j ac rfl ap.o #[.slice (some ⟨wr.hz,0,none⟩) 1 1] (N:=wr.hz+1) rfl Ys rfl (DB _ _ _) ?_ ?_ ?_))
     ·omega
     ·simp;omega
     intro cl w2 A;obtain⟨b7,b8,rfl⟩:=Ac A.owns;have av:=c.o.app A;have E:w2.heap[w.hz+2]?=some (.cells #[.slice t ls.length z,.slice va j M,Nl,Vi 0] 87 (0,0)):=by
      have C:=Ah c.o.box (.cells #[.string ⟨#[]⟩,Vi j,Vi 0] 133);exact(A.kept.block _ (Ab C) (Ai ap.o Yd C)).trans C
     have cg:=Aa E 1 _ rfl;have ch:=fun i=>Ae E i;have ci:=Ab E;have bj:=hd av;clear A av E;go_wp2
     go_roundg (d.length-j)
     case measure=>omega
     case rel=>exact⟨j+1,_,_,Yg,Yo,Yo,bj.o⟩
    ·have br:j=d.length:=Yo
     subst br;have b0:=Aa c.o.res 0 _ rfl;have b1:=Aa c.o.res 1 _ rfl;have b3:=Aa c.o.res 2 _ rfl;have b4:=Aa c.o.res 3 _ rfl;have b5:=fun i=>Ae c.o.res i;have be:=Ab c.o.res;go_wp2;refine bodyPost_ret (v:= .agg #[.slice t ls.length z,.slice va d.length M,Nl,Vi d.length]) (by simp[results,results51,go_sem,b0,b1,b3,b4,b5,be]) rfl ?_;have D:∀F O Q R x,Ao w (((((wr.setCell ⟨w.hz+2,3,none⟩ x).setCell ⟨w.hz+1,0,none⟩ F).setCell ⟨w.hz+1,1,none⟩ O).setCell ⟨w.hz+1,2,none⟩ Q).setCell ⟨w.hz+1,3,none⟩ R):=fun F O Q R x=>
      ((((c.o.ext.setCell (p:=⟨w.hz+2,3,none⟩) Ys _).setCell (p:=⟨w.hz+1,0,none⟩) Ys _).setCell (p:=⟨w.hz+1,1,none⟩) Ys _).setCell (p:=⟨w.hz+1,2,none⟩) Ys _).setCell (p:=⟨w.hz+1,3,none⟩) Ys _
     have ag:∀x,Ad (fun j=>j=w.hz+2) wr (wr.setCell ⟨w.hz+2,3,none⟩ x):=fun x=>(Ad.refl (only (w.hz+2)) wr).put 3 _;have aw:∀(y:World) F O Q R,Ad (fun j=>j=w.hz+1) y ((((y.setCell ⟨w.hz+1,0,none⟩ F).setCell ⟨w.hz+1,1,none⟩ O).setCell ⟨w.hz+1,2,none⟩ Q).setCell ⟨w.hz+1,3,none⟩ R):=fun y F O Q R=>((((Ad.refl (only (w.hz+1)) y).put 0 _).put 1 _).put 2 _).put 3 _;have a3:∀x,(wr.setCell ⟨w.hz+2,3,none⟩ x).heap[w.hz+1]?=some (.cells #[Nl,Nl,Nl,Vi 0] 87 (0,0)):=fun x=>((ag x).block _ be Ys).trans c.o.res;have X:=c.o.vals.inn;exact⟨D _ _ _ _ _,_,_,_,_,rfl,(c.o.goals.box c.o.box Yd Yd (ag _)).box (a3 _) Yd Yd (aw _ _ _ _ _),(X.box c.o.box Yd Yd (ag _)).box (a3 _) Yd Yd (aw _ _ _ _ _)⟩
theorem N4(s:ByteArray)(w:World)(hl:s.size<=800):
  Calls prog 72 #[.string s] w fun e w'=>Below w.hz w w'/\(((Ct s false).1≠0/\e=Rq #[Nl,.agg #[Vi (Ct s false).1,Vi (Ct s false).2.1]])\/
   ((Ct s false).1=0/\∃v B f g xs,e=Rq #[v,.agg #[Vi 0,Vi 0]]/\Fm w' B f g v (Ct s false).2.2.clauses xs/\w.hz<=B)):=by
 obtain⟨a,l⟩:=Ex (Ct s false);have c:=H3 ((w.alloc (.cells #[Vi 0,Vi 0] 91)).alloc (.cells (Cq (H6 false) Nj) 169)) _ _ (H6 false) s (Sv (w.alloc (.cells #[Vi 0,Vi 0] 91)) false) (Ni false) Yo;rw[show ET s.size (C4 s.data.toList 0) (H6 false)=a from l.symm]at c;rw[show(w.alloc (.cells #[Vi 0,Vi 0] 91)).hz=w.hz+1 from by simp]at c;have z:=hd c;rw[<-l];clear l c;go_enter func72,ntmps72;go_wp2_with fail;apply z.o.mono;rintro e w2 ⟨rfl,P,hb⟩;have j:C7 w2 w.hz 0 0:=(hb.block w.hz Yo).trans (Ah (QL w _) _);have x:Below w.hz w w2:=((Below.refl _ w).alloc (Qe _) _).trans ((((Below.refl _ _).alloc Ys _)).trans (hb.mono Yo));obtain⟨V,f,g,vs,xs,h⟩:=P;have R:=Ab h.blk;obtain⟨F,G,H,I,J,K,L,M,N⟩:=h.opens.facts;have cf:=fun i=>Ae h.blk i;obtain⟨ca,O,n⟩:=Ac h.rest.cls.1;rw[n]at N;obtain⟨y,r,t,u⟩:=j.cells;have C:=hd j;have q:=hd x;have A:=hd h.rest.cls;have D:=hd n;clear j x h n hb F G H I J K L M
 by_cases b:a.1=0
 ·have E:((a.1:Int) !=0)=false:=by rw[b];rfl
  have d:=hd b;clear b;go_wp2;refine bodyPost_ret (v:= .tuple #[.slice ca a.2.2.clauses.length O,.agg #[Vi 0,Vi 0]]) (by simp[results,results72,go_sem,r,t,u,y]) rfl ?_;refine⟨?_,Or.inr ⟨d.o,_,w.hz+1,f,g,xs,rfl,?_,Yo⟩⟩
  ·exact((q.o.setCell (p:=⟨w.hz,0,none⟩) (Qe _) _).setCell (p:=⟨w.hz,1,none⟩) (Qe _) _).alloc Yp _
  ·rw[<-D.o];exact KM A.o ((((Ad.refl (only w.hz) w2).put 0 _).put 1 _).alloc _) (fun k Q T fr m hb=>by
    have m:k=w.hz:=m;rw[m,C.o]at hb;simp only[Qo,Obj.cells.injEq]at hb;rw[<-hb.2.1];decide)
 ·have E:((a.1:Int) !=0)=true:=by rw[bne_iff_ne];omega
  have d:=hd b;clear b;go_wp2_with fail;go_region
  all_goals
   go_wp2;refine bodyPost_ret (v:= .tuple #[Nl,.agg #[Vi a.1,Vi a.2.1]]) (by simp[results,results72,go_sem,r,t,u,y]) rfl ?_;refine⟨?_,Or.inl ⟨d.o,rfl⟩⟩;exact(((q.o.setCell (p:=⟨w.hz,0,none⟩) (Qe _) _).setCell (p:=⟨w.hz,1,none⟩) (Qe _) _).alloc Yp _).drew
def VW(p:ByteArray)(w:World)(e:Ending)(w':World):Prop:=Ao w w'/\((BD p=none/\∃er pl:Nat,er≠0/\e= .returned (.tuple #[.slice none 0 0,.agg #[.int .i64 er,.int .i64 pl]]))\/
 (∃cs a c xs,BD p=some cs/\e= .returned (.tuple #[.slice a cs.length c,.agg #[.int .i64 0,.int .i64 0]])/\DD w' (.slice a cs.length c) cs xs/\∀j,(Value.slice a cs.length c).ownBlock=some j->w.heap.size<=j))
theorem TM(p:ByteArray)(w:World)(m:p.size<=maxLen):Calls prog 72 #[.string p] w (VW p w):=by
 by_cases hb:800<p.size
 ·apply(Ir p w m hb).mono;rintro e w' ⟨rfl,b⟩;exact⟨b,Or.inl ⟨by unfold BD;rw[if_pos hb],1,0,Yo,rfl⟩⟩
 ·apply(N4 p w Yo).mono;rintro e w' ⟨b,⟨g,rfl⟩|⟨h0,v,B,o,q,xs,rfl,d,k⟩⟩
  ·obtain⟨f,_,_⟩:=BV p false;refine⟨b,Or.inl ⟨?_,_,_,g,rfl⟩⟩;unfold BD;rw[if_neg hb,if_pos (by rw[<-f];exact g)]
  ·obtain⟨f,_,_⟩:=BV p false;obtain⟨cs,h,i⟩:=Jx p Yo h0;have n:BD p=some cs:=by
    unfold BD;rw[if_neg hb,if_neg (by rw[<-f];simp[h0]),h]
   rw[i]at d;obtain⟨a,c,rfl⟩:=Ac d.1;exact⟨b,Or.inr ⟨cs,a,c,xs,n,rfl,d.prog,fun j l=>Qq k (d.1.lt j l).1⟩⟩
def WL(q:ByteArray)(w:World)(e:Ending)(w':World):Prop:=Ao w w'/\((Cr q=none/\∃er pl:Nat,er≠0/\e= .returned (.tuple #[.agg #[.slice none 0 0,.slice none 0 0,.slice none 0 0],.agg #[.int .i64 er,.int .i64 pl]]))\/
 (∃a h1 h2 h3 b1 bc n1 nc,Cr q=some a/\e= .returned (.tuple #[.agg #[.slice h1 h2 h3,.slice b1 a.1.length bc,.slice n1 a.2.length nc],.agg #[.int .i64 0,.int .i64 0]])/\AF w' (.slice b1 a.1.length bc) a.1/\w'.ownsRow 0 9 1 (.slice n1 a.2.length nc) a.2.length (Ba a.2)))
theorem Wh(q:ByteArray)(w:World)(o:q.size<=maxLen):Calls prog 73 #[.string q] w (WL q w):=by
 by_cases hb:120<q.size
 ·apply(JY q w o hb).mono;rintro e w' ⟨rfl,a⟩;exact⟨a,Or.inl ⟨by unfold Cr;rw[if_pos hb],1,0,Yo,rfl⟩⟩
 ·refine(ID q w Yo (fun h0=> ?_)).mono ?_
  ·obtain⟨x,g,b,_⟩:=Ek q Yo h0;exact⟨_,_,b⟩
  rintro e w' ⟨a,⟨i,rfl⟩|⟨h0,t,s,u,B,r,vs,c,cs,rfl,d,⟨k,l,m,rfl⟩,hn,h⟩⟩
  ·obtain⟨f,_,_⟩:=BV q true;refine⟨a,Or.inl ⟨?_,_,_,i,rfl⟩⟩;unfold Cr;rw[if_neg hb,if_pos (by rw[<-f];exact i)]
  ·obtain⟨f,_,_⟩:=BV q true;obtain⟨x,g,b,_⟩:=Ek q Yo h0;have n:Cr q=some (x.1,x.2.2):=by
    unfold Cr;rw[if_neg hb,if_neg (by rw[<-f];simp[h0]),g];rfl
   rw[b]at d;simp only[QI]at d;obtain⟨rfl,_⟩:=d;obtain⟨p,nc,rfl⟩:=Ac hn;obtain⟨b1,j,rfl⟩:=Ac h.1;exact⟨a,Or.inr ⟨(x.1,x.2.2),k,l,m,b1,j,p,nc,n,rfl,h.terms,AI hn (Qm _)⟩⟩
def Vj(p q:ByteArray)(w:World)(e:Ending)(w':World):Prop:=Ao w w'/\((BD p=none/\e= .returned (.tuple #[.slice none 0 0,.agg #[.slice none 0 0,.slice none 0 0,.slice none 0 0],.int .i64 4]))\/
 ((∃cs,BD p=some cs)/\Cr q=none/\e= .returned (.tuple #[.slice none 0 0,.agg #[.slice none 0 0,.slice none 0 0,.slice none 0 0],.int .i64 5]))\/
 (∃cs a l1 lc xs h1 h2 h3 b1 bc n1 nc,BD p=some cs/\Cr q=some a/\e= .returned (.tuple #[.slice l1 cs.length lc,.agg #[.slice h1 h2 h3,.slice b1 a.1.length bc,.slice n1 a.2.length nc],.int .i64 0])/\DD w' (.slice l1 cs.length lc) cs xs/\AF w' (.slice b1 a.1.length bc) a.1/\w'.ownsRow 0 9 1 (.slice n1 a.2.length nc) a.2.length (Ba a.2)))
theorem DD.box{n:Av}{xs:List (Lv)}(h:DD w v cs xs)(b:w.heap[M]?=some (.cells n t fr))(a:107≠t\/∀j,v.ownBlock=some j->j≠M)(p:105≠t)(l:133≠t)(q:9≠t)(e:Ad (fun k=>k=M) w w'):DD w' v cs xs:=
 ⟨e.owns h.owns (fun j g d=>by
  rcases a with a|a
  ·have d:j=M:=d;rw[d]at g;exact Ai h.owns a b g
  ·exact a j g d),h.len,h.three,fun i c r=>by
  obtain⟨s,m,u,o,f⟩:=h.all i c r;exact⟨s,m,u,o,By f.head b l e,f.body.box b p l e,By f.names b q e⟩⟩
theorem JF(p q:ByteArray)(w:World)(M:p.size<=maxLen)(N:q.size<=maxLen):Calls prog 50 #[.string p,.string q] w (Vj p q w):=by
 have T:=hd (fun u=>TM p u M);have U:=hd (fun u=>Wh q u N);clear M N;go_enter func50,ntmps50;go_wp2_with fail;apply(T.o _).mono;rintro e w1 ⟨d,z⟩;have aa:=d.size;simp at aa;have b:w1.heap[w.hz]?=some (.cells #[Nl,Nl,Nl] 107 (0,0)):=(d.block _ Ys).trans (QL w _);obtain⟨g,b1,b2,h⟩:w1.cell? ⟨w.hz,0,none⟩=some Nl/\w1.cell? ⟨w.hz,1,none⟩=some Nl/\w1.cell? ⟨w.hz,2,none⟩=some Nl/\∀i,w1.frozen? ⟨w.hz,i,none⟩=false:=⟨Aa b 0 _ rfl,Aa b 1 _ rfl,Aa b 2 _ rfl,fun i=>Ae b i⟩;have J:w.hz<w1.hz:=Yo
 have D:Hd (Ao w w1):=(Mxt:Ao w (w.alloc _)).trans (d.mono Ys);have W:=hd b;rcases z with⟨f,s,ac,Z,rfl⟩|⟨cs,la,B,xs,P,rfl,O,L⟩
 ·have hb:((s:Int) !=0)=true:=by rw[bne_iff_ne];omega
  have n:=hd f;clear f d b;go_wp2;refine bodyPost_ret (v:= .tuple #[Nl,.agg #[Nl,Nl,Nl],Vi 4]) (by simp[results,results50,go_sem,g,b1,b2,h,J]) rfl ?_;refine⟨D.o.trans (Ad.below (S:=fun i=>w.hz<=i) Mst Yo (fun i e=>e)),Or.inl ⟨n.o,rfl⟩⟩
 ·have Y:=hd O;have F:=hd P;have X:Hd (∀j,(Value.slice la cs.length B).ownBlock=some j->j≠w.hz):=fun j A=>by
   have:=L j A;simp at this;omega
  clear O P d b L;go_wp2_with fail;apply(U.o _).mono;rintro e w2 ⟨l,z⟩;have ab:=l.size;simp at ab;have k:Ao w1 w2:=(Below.refl _ w1|>.alloc (Qe _) _).trans (l.mono Ys);have c:=(k.block _ J).trans W.o;obtain⟨g,b1,b2,h⟩:w2.cell? ⟨w.hz,0,none⟩=some Nl/\w2.cell? ⟨w.hz,1,none⟩=some Nl/\w2.cell? ⟨w.hz,2,none⟩=some Nl/\∀i,w2.frozen? ⟨w.hz,i,none⟩=false:=⟨Aa c 0 _ rfl,Aa c 1 _ rfl,Aa c 2 _ rfl,fun i=>Ae c i⟩;have K:w.hz<w2.hz:=Yo
  have E:Hd (Ao w w2):=D.o.trans (k.mono Yo);have m:=hd c;have R:=hd k;clear k;rcases z with⟨f,s,ac,Z,rfl⟩|⟨a,t,x,y,r,cc,C,nc,I,rfl,G,H⟩
  ·have hb:((s:Int) !=0)=true:=by rw[bne_iff_ne];omega
   have n:=hd f;clear f l c;go_wp2;refine bodyPost_ret (v:= .tuple #[Nl,.agg #[Nl,Nl,Nl],Vi 5]) (by simp[results,results50,go_sem,g,b1,b2,h,K]) rfl ?_;refine⟨E.o.trans (Ad.below (S:=fun i=>w.hz<=i) Mst Yo (fun i e=>e)),Or.inr (Or.inl ⟨⟨cs,F.o⟩,n.o,rfl⟩)⟩
  ·have Q:=hd G;have HN:=hd H;have V:=hd I;clear G H I l c;go_wp2_with fail;go_region
   all_goals
    go_wp2;refine bodyPost_ret (v:= .tuple #[.slice la cs.length B,.agg #[.slice t x y,.slice r a.1.length cc,.slice C a.2.length nc],Vi 0]) (by simp[results,results50,go_sem,g,b1,b2,h,K]) rfl ?_;refine⟨E.o.trans (Ad.below (S:=fun i=>w.hz<=i) Mst Yo (fun i e=>e)),Or.inr (Or.inr ⟨cs,a,la,B,xs,t,x,y,r,cc,C,nc,F.o,V.o,rfl,?_,?_,?_⟩)⟩
    ·exact((Y.o.ext R.o).box m.o (Or.inr X.o) Yd Yd Yd ((((Ad.refl (only w.hz) w2).put 0 _).put 1 _).put 2 _)).ext Mxt
    ·exact(Q.o.box m.o Yd Yd ((((Ad.refl (only w.hz) w2).put 0 _).put 1 _).put 2 _)).ext Mxt
    ·exact Aj (By HN.o m.o Yd ((((Ad.refl (only w.hz) w2).put 0 (.slice t x y)).put 1 (.slice r a.1.length cc)).put 2 (.slice C a.2.length nc))) (fun j A=>(Mxt:Ao _ _).block j (by simp;have:=(HN.o.lt j A).2;omega))
structure Wp(w:World)(gv vv rv:Value)(u uu:Nat)(hv bv nv:Value)(gl:List (List BL))(g:Value)(xs:List Value)(wr:World):Prop where
 ext:Ao w wr
 nb:NB wr w.heap.size gv vv rv u
 cb:wr.heap[w.heap.size+1]?=some (.cells #[hv,bv,nv] 107 (0,0))
 res:NB wr (w.heap.size+2) (.slice none 0 0) (.slice none 0 0) (.slice none 0 0) 0
 box:NB wr (w.heap.size+3) g vv (.slice none 0 0) uu
 row:AK wr w.heap.size g gl xs
theorem Wp.on{k j a nv g:Value}{u l:Nat}{gl:Ll}(h:Wp w gv vv k u l j a nv gl g xs wr)(e:Ao wr w1):Wp w gv vv k u l j a nv gl g xs w1:=by
 obtain⟨b,c,d,f,i,m⟩:=h;exact⟨b.trans (e.mono b.size),(e.block _ (Ab c)).trans c,(e.block _ (Ab d)).trans d,(e.block _ (Ab f)).trans f,(e.block _ (Ab i)).trans i,m.ext e⟩
theorem Wp.app{v t r nv g c x:Value}{u y:Nat}{gl:Ll}(h:Wp w gv vv v u y t r nv gl g xs w1)(hn:gl.length=n)(A:BJ w1 x l)(b:Ar w1 w.hz 105 1 g (n+1) (xs++[x]) c w2):
  Wp w gv vv v u y t r nv (gl++[l]) c (xs++[x]) (w2.setCell ⟨w.hz+3,0,none⟩ c):=by
 obtain⟨s,e,f,i,k,a⟩:=h;have b2:=(b.kept.block _ (Ab e) (Ai a.owns Yd e)).trans e;have m:=(b.kept.block _ (Ab f) (Ai a.owns Yd f)).trans f;have o:=(b.kept.block _ (Ab i) (Ai a.owns Yd i)).trans i;have q:=(b.kept.block _ (Ab k) (Ai a.owns Yd k)).trans k;have d:Ad (fun j=>j=w.hz+3) w2 (w2.setCell ⟨w.hz+3,0,none⟩ c):=(Ad.refl (only (w.hz+3)) w2).put 0 _;exact⟨(s.trans (b.kept.below s.size (fun j z=>(a.owns.lt j z).1))).setCell (p:=⟨w.hz+3,0,none⟩) Ys _,(d.block _ (Ab b2) Ys).trans b2,(d.block _ (Ab m) Ys).trans m,(d.block _ (Ab o) Ys).trans o,Af q 0 _,
  (a.snoc (by rw[hn];exact b) A).box q Yd Yd d⟩
structure Wx(w:World)(B:Nat)(gv vv rv:Value)(u uu:Nat)(hv bv nv:Value)(gl:List (List BL))(g:Value)(rl:List (List BL))(r:Value)(ys:List Value)(wr:World):Prop where
 ext:Ao w wr
 nb:NB wr w.heap.size gv vv rv u
 cb:wr.heap[w.heap.size+1]?=some (.cells #[hv,bv,nv] 107 (0,0))
 res:NB wr (w.heap.size+2) (.slice none 0 0) (.slice none 0 0) (.slice none 0 0) 0
 box:NB wr (w.heap.size+3) g vv r uu
 goals:AF wr g gl
 low:∀j,g.ownBlock=some j->j<B
 b1:w.heap.size<=B
 b2:B<=wr.heap.size
 row:AK wr B r rl ys
theorem Wx.on{l j a nv g r:Value}{u m:Nat}{gl k:Ll}(h:Wx w B gv vv l u m j a nv gl g k r ys wr)(e:Ao wr w1):Wx w B gv vv l u m j a nv gl g k r ys w1:=by
 obtain⟨b,c,d,f,i,o,p,q,s,n⟩:=h;exact⟨b.trans (e.mono b.size),(e.block _ (Ab c)).trans c,(e.block _ (Ab d)).trans d,(e.block _ (Ab f)).trans f,(e.block _ (Ab i)).trans i,o.ext e,p,q,Qq s e.size,n.ext e⟩
theorem Wx.app{C A t nv g r d x:Value}{u D:Nat}{gl o:Ll}(h:Wx w B gv vv C u D A t nv gl g o r ys w1)(hn:o.length=n)(G:BJ w1 x l)(a:Ar w1 B 105 1 r (n+1) (ys++[x]) d w2):
  Wx w B gv vv C u D A t nv gl g (o++[l]) d (ys++[x]) (w2.setCell ⟨w.hz+3,2,none⟩ d):=by
 obtain⟨v,f,i,k,m,E,y,z,H,b⟩:=h;have b2:=(a.kept.block _ (Ab f) (Ai b.owns Yd f)).trans f;have q:=(a.kept.block _ (Ab i) (Ai b.owns Yd i)).trans i;have s:=(a.kept.block _ (Ab k) (Ai b.owns Yd k)).trans k;have e:=(a.kept.block _ (Ab m) (Ai b.owns Yd m)).trans m;have c:Ad (fun j=>j=w.hz+3) w2 (w2.setCell ⟨w.hz+3,2,none⟩ d):=(Ad.refl (only (w.hz+3)) w2).put 2 _;have I:=a.kept.size;exact⟨(v.trans (a.kept.below v.size (fun j F=>Qq z (b.owns.lt j F).1))).setCell (p:=⟨w.hz+3,2,none⟩) Ys _,(c.block _ (Ab b2) Ys).trans b2,(c.block _ (Ab q) Ys).trans q,(c.block _ (Ab s) Ys).trans s,Af e 2 _,
  (E.aside y b.owns a.kept).box e Yd Yd c,y,z,by simp;omega,(b.snoc (by rw[hn];exact a) G).box e Yd Yd c⟩
def N3(w0:World)(B:Nat)(x gv:Value)(n:Nat)(xs:Lv)(F:Value->World->Prop):Lv->World->Prop
 |[],u=>u=w0
 |[y],u=>y= .slice (some ⟨w0.heap.size,0,none⟩) 1 1/\u=w0.alloc (.cells #[x] 105)
 |[_,z],u=>Ar w0 B 105 1 gv (n+1) (xs++[x]) z u
 |[_,z,_],u=>F z u
 |_,_=>False
theorem N3.ext{x:Value}{a:Value->World->Prop}:∀{vs:Lv}{u:World},N3 w0 B x gv n xs a vs u->vs.length<=1->Ao w0 u
 |[],u,h,_=>by obtain rfl:u=w0:=h;exact Below.refl _ _
 |[y],u,h,_=>by
  obtain⟨_,rfl⟩:=h;exact(Below.refl _ _).alloc (Qe _) _
 |_::_::_,_,_,h=>by simp at h
def W1(gl vl rl:Ll)(vv:Value)(uu:Nat)(w:World)(e:Ending)(w':World):Prop:=Ao w w'/\∃g1 gc r1 rc,e= .returned (.agg #[.slice g1 gl.length gc,vv,.slice r1 rl.length rc,.int .i64 uu])/\AF w' (.slice g1 gl.length gc) gl/\AF w' (.slice r1 rl.length rc) rl
theorem Nm(w:World)(b7 bw cm ch b6 nv:Value)(E:Ly)(gs vl b body:Ll)(M:At)(u:Nat)(ab:AF w b7 (E::gs))(a9:AF w bw vl)(aj:AF w cm b)(c4:∃a n x,ch= .slice a n x)(hb:AF w b6 body)(cf:w.ownsRow 0 9 1 nv M.length (Ba M))
  (c3:(E::gs).length<=1000) (dx:b.length<=1000) (dt:body.length<=1000) (dw:M.length<=4000) (dy:u<=190000) (cc:∀l∈body,IG l):
  Calls prog 128 #[.agg #[b7,bw,cm,Vi u],.agg #[ch,b6,nv]] w (W1 (body.map (fun l=>l.map (rn u))++gs) vl (b++[E]) bw (u+M.length) w):=by
 obtain⟨ha,am,ak,rfl⟩:=c4;obtain⟨dp,ab⟩:=ab;obtain⟨d5,aj⟩:=aj;obtain⟨dn,hb⟩:=hb;obtain⟨va,X,rfl⟩:=a9.shape;obtain⟨aa,R,rfl⟩:=Ac ab.owns;obtain⟨Y,Z,rfl⟩:=Ac aj.owns;obtain⟨av,ai,rfl⟩:=Ac hb.owns;obtain⟨na,an,rfl⟩:=Ac cf;obtain⟨m,ba⟩:∃G,G=E::gs:=⟨_,rfl⟩;rw[<-ba]at ab c3⊢;have c0:0<m.length:=by rw[ba];simp
 have ar:=hd ab;have bk:=hd aj;have bl:=hd hb;have cv:=hd cc;have b4:=hd ba;clear ab a9 aj hb cf cc ba;obtain⟨O,cg⟩:∃n,n=u+M.length:=⟨_,rfl⟩;have cs:Hd ((u:Int)+(M.length:Int)=(O:Int)):=by show _=_;omega
 have dz:O<=200000:=Yo
 obtain⟨af,bd⟩:∃L,L=body.map (fun l=>l.map (rn u)):=⟨_,rfl⟩;rw[<-cg,<-bd];have du:af.length=body.length:=by rw[bd];simp
 have cu:=hd bd;clear cg bd;go_enter func128,d0;go_wp2;rw[cs.o]
 go_loopg [24] (body.length+1) (fun gk a5 wr=>∃(k:Nat)(g:Value)(xs:Lv),a5=Vi k/\k<=body.length/\body.length-k<gk/\Wp w (.slice aa m.length R) (.slice va vl.length X) (.slice Y b.length Z) u O (.slice ha am ak) (.slice av body.length ai) (.slice na M.length an) ((body.take k).map (fun l=>l.map (rn u))) g xs wr)
 case atStart=>exact⟨0,Nl,[],Yg,Qm _,Yo,Mxt,Ah (Ah (Ah (QL w _) _) _) _,Ah (Ah (CU Ys _) _) _,Ah (CU Ys _) _,CU Ys _,AK.nil _ _⟩
 case round=>
  obtain⟨k,g,xs,rfl,ce,cd,d⟩:=hrel;have ag:((body.take k).map (fun l=>l.map (rn u))).length=k:=by simp;omega
  have A:=d.row.owns;rw[ag]at A;obtain⟨F,H,rfl⟩:=Ac A;have bt:=d.ext.size;have ci:wr.cell? ⟨w.hz,3,none⟩=some (Vi u):=Aa d.nb 3 _ rfl;have a6:wr.cell? ⟨w.hz,0,none⟩=some (.slice aa m.length R):=Aa d.nb 0 _ rfl;have bf:wr.cell? ⟨w.hz,2,none⟩=some (.slice Y b.length Z):=Aa d.nb 2 _ rfl;have bg:wr.cell? ⟨w.hz+3,0,none⟩=some (.slice F k H):=Aa d.box 0 _ rfl;have ax:=Ab d.nb;have ay:=Ab d.box;have q:=hd d;clear d A ag
  by_cases a4:k<body.length
  ·obtain⟨l,S⟩:∃l,body[k]?=some l:=⟨_,Qb a4⟩;obtain⟨x,W,J⟩:=bl.o.all _ l S;obtain⟨C,D,rfl⟩:=Ac J;obtain⟨a8,bo,bp,z,_,V,_⟩:=An bl.o.owns Yo;simp only[QH]at z;obtain⟨rfl,_,rfl⟩:=z;have al:=Ab V;have be:a8<wr.hz:=Yo
   have aq:wr.cell? ⟨a8,k,none⟩=some (.slice C l.length D):=(q.o.ext.cell (p:=⟨a8,k,none⟩) al).trans (Ag bl.o.owns _ _ W);obtain⟨_,ck,cl⟩:=cv.o l (Qh S);have ct:=hd (Hb wr.drew (.slice C l.length D) l u (BJ.ext J (q.o.ext.trans ⟨rfl,rfl,rfl,Qe _,fun _ _=>rfl⟩)) ck cl Yo);have ah:(body.take (k+1)).map (fun l=>l.map (rn u))=(body.take k).map (fun l=>l.map (rn u))++[l.map (rn u)]:=by rw[List.take_add_one,S];simp
   have cw:=hd ah;clear S W J V ck cl ah;go_wp2_with fail;have Q:=q.o.on (w1:=wr.drew) ⟨rfl,rfl,rfl,Qe _,fun _ _=>rfl⟩;have ag:((body.take k).map (fun l=>l.map (rn u))).length=k:=by simp;omega
   refine FC Yk 999 [.rd 0 3 (fun _=>Pt (w.hz+3)),.rd 0 2 (fun _=> .slice F k H),.rd 0 3 (fun _=> .slice C l.length D),.rd 0 3 (fun _=> .pointer (some ⟨w.hz,3,none⟩)),.rd 0 2 (fun _=>Vi u),.st 0,.st 1,.st 2,.rd 0 3 (fun _=>Pt (w.hz+3)),.st 3] 4 7 Yk
    (Kz wr.drew w.hz (l.map (rn u)) (.slice F k H) k xs (fun s y=>∃b0,Wp w (.slice aa m.length R) (.slice va vl.length X) (.slice Y b.length Z) u O (.slice ha am ak) (.slice (some ⟨a8,0,none⟩) body.length ai) (.slice na M.length an) ((body.take (k+1)).map (fun l=>l.map (rn u))) s b0 y)) rfl ?_ ?_
   ·refine⟨⟨trivial,fun vs y _ hl c=> ?_⟩,⟨trivial,fun vs y _ hl c=> ?_⟩,⟨trivial,fun vs y _ hl c=> ?_⟩,⟨trivial,fun vs y _ hl c=> ?_⟩,⟨trivial,fun vs y _ hl c=> ?_⟩,⟨trivial,fun vs y hl c=> ?_⟩,⟨trivial,fun vs y hl c=> ?_⟩,⟨trivial,fun vs y hl c=> ?_⟩,⟨trivial,fun vs y _ hl c=> ?_⟩,⟨trivial,fun vs y hl c=> ?_⟩,trivial⟩
    ·simp[go_sem]
    ·have ae:y.cell? ⟨w.hz+3,0,none⟩=some (.slice F k H):=((c.ext hl).cell (p:=⟨w.hz+3,0,none⟩) ay).trans bg;simp[go_sem,ae]
    ·simp[go_sem]
    ·simp[go_sem]
    ·have ae:y.cell? ⟨w.hz,3,none⟩=some (Vi u):=((c.ext hl).cell (p:=⟨w.hz,3,none⟩) ax).trans ci;simp[go_sem,ae]
    ·obtain rfl:=Q3.1 hl;have bu:y=wr.drew:=c;subst bu;refine .call 74 #[.slice C l.length D,Vi u] _ (by simp[go_sem]) (ct.o.mono ?_);rintro e y ⟨v,B,rfl,h⟩;exact⟨v,rfl,v,B,rfl,h⟩
    ·obtain⟨x,rfl⟩:=Q1.1 hl;have c1:=c;obtain⟨cn,B',z,b8,ad,U⟩:=c1;simp only[Ending.returned.injEq]at z;subst z;obtain⟨bx,bz,rfl⟩:=Ac ad;exact .value (.slice (some ⟨y.hz,0,none⟩) 1 1) (y.alloc (.cells #[.slice bx (l.map (rn u)).length bz] 105)) (by simp[go_sem]) ⟨y,c,rfl,rfl⟩
    ·obtain⟨x,a7,rfl⟩:∃x y,vs=[x,y]:=by
      match vs,hl with
      |[x,y],_=>exact⟨x,y,rfl⟩
     obtain⟨bi,bc,rfl,rfl⟩:=c;have c2:=bc;obtain⟨cn,B',z,b8,ad,U⟩:=c2;simp only[Ending.returned.injEq]at z;subst z;obtain⟨bx,bz,rfl⟩:=Ac ad;have A:bi.ownsRow w.hz 105 1 (.slice F k H) k xs:=by
      have:=(Q.on U).row.owns;rw[ag]at this;exact this
     have c7:=U.size;obtain⟨s,w',bs,t⟩:=E2 (P:=prog) bi 85 85 w.hz 105 infoSyms underlying85 rfl Yd (.slice F k H) k xs A #[.slice bx (l.map (rn u)).length bz] rfl (DB _ _ _) Yo (Qq bt c7);refine .value s w' (GT (.tmp 29) (.tmp 34) 85 rfl (by simp[go_sem]) (by simp[go_sem]) bs) ⟨bi,bc,by simpa using t⟩
    ·simp[go_sem]
    ·obtain⟨x,a7,s,rfl⟩:∃x y s,vs=[x,y,s]:=by
      match vs,hl with
      |[x,y,s],_=>exact⟨x,y,s,rfl⟩
     obtain⟨bi,bc,t⟩:=c;obtain⟨cn,B',z,b8,ad,U⟩:=bc;simp only[Ending.returned.injEq]at z;subst z;obtain⟨dl,dm,rfl⟩:=Ac t.owns;have f:=(Q.on U).app ag (AI ad (Qm _)) t;rw[<-cw.o]at f;have ac:=(Q.on U).box;have I:=(t.kept.block _ (Ab ac) (Ai (Q.on U).row.owns Yd ac)).trans ac;have bn:=Aa I 0 _ rfl;have f4:=Ae I 0;exact .skip _ (by simp[go_sem,bn,f4]) ⟨_,f⟩
   ·rintro vs y hl c;obtain⟨x,a7,s,bj,rfl⟩:∃x y s b1,vs=[x,y,s,b1]:=by
     match vs,hl with
     |[x,y,s,b1],_=>exact⟨x,y,s,b1,rfl⟩
    obtain⟨b0,f⟩:=c;simp only[El,Hq,B4,pa,Ph.kd,Ph.val,Kd.val,Qx,List.map_nil,if_true,Act.put,List.setIfInBounds_toArray,List.set_cons_succ,List.set_cons_zero];have T:=hd f;clear f;go_wp2
    go_roundg (body.length-k)
    case measure=>omega
    case rel=>exact⟨k+1,_,b0,Yg,Yo,Yo,T.o⟩
  ·have a3:k=body.length:=Yo
   subst a3;have b3:Hd (Wp w (.slice aa m.length R) (.slice va vl.length X) (.slice Y b.length Z) u O (.slice ha am ak) (.slice av body.length ai) (.slice na M.length an) (af++(m.take 0).drop 1) (.slice F body.length H) xs wr):=by
    have:=q.o;rw[List.take_length,<-cu.o]at this;show Wp _ _ _ _ _ _ _ _ _ _ _ _ _;simpa using this
   obtain⟨d6,c8⟩:∃x,x=wr:=⟨_,rfl⟩;subst c8;clear q;go_wp2
   go_loopg [41] (m.length+1) (fun gk a5 wr=>∃(k:Nat)(g:Value)(xs:Lv),a5=Vi k/\k<=m.length/\m.length-k<gk/\Wp w (.slice aa m.length R) (.slice va vl.length X) (.slice Y b.length Z) u O (.slice ha am ak) (.slice av body.length ai) (.slice na M.length an) (af++(m.take k).drop 1) g xs wr)
   case atStart=>exact⟨0,_,xs,Yg,Qm _,Yo,b3.o⟩
   case round=>
    clear a6 bf ci bg ax ay b3;obtain⟨k,g,xs,rfl,ce,cd,d⟩:=hrel;obtain⟨N,bb⟩:=Ex ((af++(m.take k).drop 1).length);have dr:N<=4000:=by rw[bb];simp;omega
    have A:=d.row.owns;rw[<-bb]at A;obtain⟨F,H,rfl⟩:=Ac A;have bt:=d.ext.size;have a6:wr.cell? ⟨w.hz,0,none⟩=some (.slice aa m.length R):=Aa d.nb 0 _ rfl;have bf:wr.cell? ⟨w.hz,2,none⟩=some (.slice Y b.length Z):=Aa d.nb 2 _ rfl;have bg:wr.cell? ⟨w.hz+3,0,none⟩=some (.slice F N H):=Aa d.box 0 _ rfl;have cj:=fun i=>Ae d.box i;have ax:=Ab d.nb;have ay:=Ab d.box;have q:=hd d;have au:=hd A;have HN:=hd bb;clear d A bb
    by_cases a4:k<m.length
    ·obtain⟨l,S⟩:∃l,m[k]?=some l:=⟨_,Qb a4⟩;obtain⟨x,W,J⟩:=ar.o.all _ l S;obtain⟨C,D,rfl⟩:=Ac J;obtain⟨K,bo,bp,z,_,V,_⟩:=An ar.o.owns Yo;simp only[QH]at z;obtain⟨rfl,_,rfl⟩:=z;have al:=Ab V;have be:K<wr.hz:=Yo
     have aq:wr.cell? ⟨K,k,none⟩=some (.slice C l.length D):=(q.o.ext.cell (p:=⟨K,k,none⟩) al).trans (Ag ar.o.owns _ _ W);have a2:Hd (BJ wr (.slice C l.length D) l):=BJ.ext J q.o.ext;have bm:=hd S;clear S W J V
     by_cases c6:k=0
     ·subst c6;go_wp2
      go_roundg (m.length-0)
      case measure=>omega
      case rel=>
       refine⟨1,.slice F N H,xs,Yg,Yo,Yo,?_⟩;have:=q.o;simpa using this
     ·have dv:(0:Int)<(k:Int):=Yo
      go_wp2_with (at_builtin;go_loud (refine Am wr rfl (.tmp 49) (.tmp 51) 85 rfl w.hz 105 infoSyms underlying85 rfl Yd (.slice F N H) N xs rfl au.o #[.slice C l.length D] (N:=wr.hz) rfl Ys rfl (DB _ _ _) ?_ ?_ ?_))
      ·omega
      ·omega
      intro dk w2 t;obtain⟨cx,cy,rfl⟩:=Ac t.owns;have f:=q.o.app HN.o.symm a2.o t;have ah:(af++(m.take k).drop 1)++[l]=af++(m.take (k+1)).drop 1:=by
       rw[List.take_add_one,bm.o,Qi]
       congr 1
       rw[List.drop_append_of_le_length Yp];rfl
      rw[ah]at f;have I:=(t.kept.block _ (Ab q.o.box) (Ai au.o Yd q.o.box)).trans q.o.box;have da:=Aa I 0 _ rfl;have db:=fun i=>Ae I i;have dc:=Ab I;have T:=hd f;clear t f I ah;go_wp2
      go_roundg (m.length-k)
      case measure=>omega
      case rel=>exact⟨k+1,_,_,Yg,Yo,Yo,T.o⟩
    ·have a3:k=m.length:=Yo
     subst a3;obtain⟨a1,aw⟩:∃L,L=af++m.drop 1:=⟨_,rfl⟩;have b9:a1.length=N:=by rw[aw,HN.o,List.take_length]
     have cb:Wx w wr.hz (.slice aa m.length R) (.slice va vl.length X) (.slice Y b.length Z) u O (.slice ha am ak) (.slice av body.length ai) (.slice na M.length an) a1 (.slice F N H) (b.take 0) Nl [] wr:=by
      obtain⟨ab,a9,aj,ac,cz,bq⟩:=q.o;rw[List.take_length,<-aw]at bq;exact⟨ab,a9,aj,ac,cz,bq.inn,fun j c5=>(bq.owns.lt j c5).2,ab.size,Qe _,AK.nil _ _⟩
     have b5:=hd cb;have cq:=hd aw;have cr:=hd b9;obtain⟨az,c9⟩:∃x,x=wr:=⟨_,rfl⟩;subst c9;clear q cb aw b9 au HN;go_wp2
     go_loopg [58] (b.length+1) (fun gk a5 wr=>∃(k:Nat)(r:Value)(a0:Lv),a5=Vi k/\k<=b.length/\b.length-k<gk/\Wx w az.hz (.slice aa m.length R) (.slice va vl.length X) (.slice Y b.length Z) u O (.slice ha am ak) (.slice av body.length ai) (.slice na M.length an) a1 (.slice F N H) (b.take k) r a0 wr)
     case atStart=>exact⟨0,_,[],Yg,Qm _,Yo,b5.o⟩
     case round=>
      clear a6 bf bg cj ax ay b5;obtain⟨k,r,a0,rfl,ce,cd,d⟩:=hrel;have ag:(b.take k).length=k:=by simp;omega
      have A:=d.row.owns;rw[ag]at A;obtain⟨ao,ap,rfl⟩:=Ac A;have bt:=d.ext.size;have ds:=d.b2;have a6:wr.cell? ⟨w.hz,0,none⟩=some (.slice aa m.length R):=Aa d.nb 0 _ rfl;have bf:wr.cell? ⟨w.hz,2,none⟩=some (.slice Y b.length Z):=Aa d.nb 2 _ rfl;have dd:wr.cell? ⟨w.hz+3,2,none⟩=some (.slice ao k ap):=Aa d.box 2 _ rfl;have cj:=fun i=>Ae d.box i;have ax:=Ab d.nb;have ay:=Ab d.box;have q:=hd d;have au:=hd A;clear d A ag
      by_cases a4:k<b.length
      ·obtain⟨l,S⟩:∃l,b[k]?=some l:=⟨_,Qb a4⟩;obtain⟨x,W,J⟩:=bk.o.all _ l S;obtain⟨C,D,rfl⟩:=Ac J;obtain⟨bv,bo,bp,z,_,V,_⟩:=An bk.o.owns Yo;simp only[QH]at z;obtain⟨rfl,_,rfl⟩:=z;have al:=Ab V;have be:bv<wr.hz:=Yo
       have aq:wr.cell? ⟨bv,k,none⟩=some (.slice C l.length D):=(q.o.ext.cell (p:=⟨bv,k,none⟩) al).trans (Ag bk.o.owns _ _ W);have a2:Hd (BJ wr (.slice C l.length D) l):=BJ.ext J q.o.ext;have bm:=hd S;clear S W J V
       go_wp2_with (at_builtin;go_loud (refine Am wr rfl (.tmp 63) (.tmp 65) 85 rfl az.hz 105 infoSyms underlying85 rfl Yd (.slice ao k ap) k a0 rfl au.o #[.slice C l.length D] (N:=wr.hz) rfl Ys rfl (DB _ _ _) ?_ ?_ ?_))
       ·omega
       ·omega
       intro dk w2 t;obtain⟨cx,cy,rfl⟩:=Ac t.owns;have f:=q.o.app Yp a2.o t;have ah:b.take k++[l]=b.take (k+1):=by rw[List.take_add_one,bm.o];rfl
       rw[ah]at f;have I:=(t.kept.block _ (Ab q.o.box) (Ai au.o Yd q.o.box)).trans q.o.box;have da:=Aa I 2 _ rfl;have db:=fun i=>Ae I i;have dc:=Ab I;have T:=hd f;clear t f I ah;go_wp2
       go_roundg (b.length-k)
       case measure=>omega
       case rel=>exact⟨k+1,_,_,Yg,Yo,Yo,T.o⟩
      ·have a3:k=b.length:=Yo
       subst a3;obtain⟨x,W,J⟩:=ar.o.all 0 E (by rw[b4.o];rfl);obtain⟨C,D,rfl⟩:=Ac J;obtain⟨K,bo,bp,z,_,V,_⟩:=An ar.o.owns Yo;simp only[QH]at z;obtain⟨rfl,_,rfl⟩:=z;have al:=Ab V;have be:K<wr.hz:=Yo
       have aq:wr.cell? ⟨K,0,none⟩=some (.slice C E.length D):=(q.o.ext.cell (p:=⟨K,0,none⟩) al).trans (Ag ar.o.owns _ _ W);have a2:Hd (BJ wr.drew (.slice C E.length D) E):=BJ.ext J (q.o.ext.trans ⟨rfl,rfl,rfl,Qe _,fun _ _=>rfl⟩);have dq:(0:Int)<(m.length:Int):=Yo
       clear W J V;have Q:=hd (q.o.on (w1:=wr.drew) ⟨rfl,rfl,rfl,Qe _,fun _ _=>rfl⟩);rw[List.take_length]at Q;go_wp2_with fail;refine FC Yk 999 [.rd 0 2 (fun _=> .pointer (some ⟨w.hz+3,2,none⟩)),.rd 0 1 (fun _=> .slice ao b.length ap),.rd 0 0 (fun _=>Pt w.hz),.rd 0 0 (fun _=> .slice (some ⟨K,0,none⟩) m.length R),.rd 0 0 (fun _=>Pt K),.rd 0 0 (fun _=> .slice C E.length D),.st 0,.st 1,.rd 0 2 (fun _=> .pointer (some ⟨w.hz+3,2,none⟩)),.st 2] 3 7 Yk
        (N3 wr.drew az.hz (.slice C E.length D) (.slice ao b.length ap) b.length a0 (fun s y=>∃cp,Wx w az.hz (.slice (some ⟨K,0,none⟩) m.length R) (.slice va vl.length X) (.slice Y b.length Z) u O (.slice ha am ak) (.slice av body.length ai) (.slice na M.length an) a1 (.slice F N H) (b++[E]) s cp y)) rfl ?_ ?_
       ·refine⟨⟨trivial,fun vs y _ hl c=> ?_⟩,⟨trivial,fun vs y _ hl c=> ?_⟩,⟨trivial,fun vs y _ hl c=> ?_⟩,⟨trivial,fun vs y _ hl c=> ?_⟩,⟨trivial,fun vs y _ hl c=> ?_⟩,⟨trivial,fun vs y _ hl c=> ?_⟩,⟨trivial,fun vs y hl c=> ?_⟩,⟨trivial,fun vs y hl c=> ?_⟩,⟨trivial,fun vs y _ hl c=> ?_⟩,⟨trivial,fun vs y hl c=> ?_⟩,trivial⟩
        ·simp[go_sem]
        ·have ae:y.cell? ⟨w.hz+3,2,none⟩=some (.slice ao b.length ap):=((c.ext hl).cell (p:=⟨w.hz+3,2,none⟩) ay).trans dd;simp[go_sem,ae]
        ·simp[go_sem]
        ·have ae:y.cell? ⟨w.hz,0,none⟩=some (.slice (some ⟨K,0,none⟩) m.length R):=((c.ext Yo).cell (p:=⟨w.hz,0,none⟩) ax).trans a6;simp[go_sem,ae]
        ·simp[go_sem,c0]
        ·have ae:y.cell? ⟨K,0,none⟩=some (.slice C E.length D):=((c.ext Yo).cell (p:=⟨K,0,none⟩) be).trans aq;simp[go_sem,ae]
        ·obtain rfl:=Q3.1 hl;have bu:y=wr.drew:=c;subst bu;exact .value (.slice (some ⟨wr.drew.hz,0,none⟩) 1 1) (wr.drew.alloc (.cells #[.slice C E.length D] 105)) (by simp[go_sem]) ⟨rfl,rfl⟩
        ·obtain⟨x,rfl⟩:=Q1.1 hl;obtain⟨rfl,rfl⟩:=c;have A:wr.drew.ownsRow az.hz 105 1 (.slice ao b.length ap) b.length a0:=Q.o.row.owns;obtain⟨s,w',bs,t⟩:=E2 (P:=prog) wr.drew 85 85 az.hz 105 infoSyms underlying85 rfl Yd (.slice ao b.length ap) b.length a0 A #[.slice C E.length D] rfl (DB _ _ _) Yo Q.o.b2;exact .value s w' (GT (.tmp 74) (.tmp 79) 85 rfl (by simp[go_sem]) (by simp[go_sem]) bs) (by simpa[N3]using t)
        ·simp[go_sem]
        ·obtain⟨x,s,rfl⟩:∃x y,vs=[x,y]:=by
          match vs,hl with
          |[x,y],_=>exact⟨x,y,rfl⟩
         have t:Ar _ _ _ _ _ _ _ s y:=c;obtain⟨dl,dm,rfl⟩:=Ac t.owns;have f:=Q.o.app rfl a2.o t;have ac:=Q.o.box;have I:=(t.kept.block _ (Ab ac) (Ai Q.o.row.owns Yd ac)).trans ac;have bn:=Aa I 2 _ rfl;have f4:=Ae I 2;exact .skip _ (by simp[go_sem,bn,f4]) ⟨_,f⟩
       ·rintro vs y hl c;obtain⟨x,s,bj,rfl⟩:∃x y s,vs=[x,y,s]:=by
         match vs,hl with
         |[x,y,s],_=>exact⟨x,y,s,rfl⟩
        obtain⟨cp,f⟩:=c;have A:=f.row.owns;obtain⟨ta,bh,rfl⟩:=Ac A;simp only[El,Hq,B4,pa,Ph.kd,Ph.val,Kd.val,Qx,List.map_nil,if_true,Act.put,List.setIfInBounds_toArray,List.set_cons_succ,List.set_cons_zero];have q0:=Aa f.box 0 _ rfl;have d1:=Aa f.box 1 _ rfl;have d2:=Aa f.box 2 _ rfl;have d3:=Aa f.box 3 _ rfl;have d4:=Ab f.box;have de:=Aa f.res 0 _ rfl;have df:=Aa f.res 1 _ rfl;have dg:=Aa f.res 2 _ rfl;have dh:=Aa f.res 3 _ rfl;have di:=fun i=>Ae f.res i;have dj:=Ab f.res;have T:=hd f;clear f A Q q;go_wp2;refine bodyPost_ret (v:= .agg #[.slice F N H,.slice va vl.length X,.slice ta (b++[E]).length bh,Vi O]) (by simp[results,results128,go_sem,de,df,dg,dh,di,dj]) rfl ?_;have ca:∀aq co a7 bj,Ad (fun j=>j=w.hz+2) y ((((y.setCell ⟨w.hz+2,0,none⟩ aq).setCell ⟨w.hz+2,1,none⟩ co).setCell ⟨w.hz+2,2,none⟩ a7).setCell ⟨w.hz+2,3,none⟩ bj):=fun aq co a7 bj=>((((Ad.refl (only (w.hz+2)) y).put 0 _).put 1 _).put 2 _).put 3 _;have U:=(((T.o.ext.setCell (p:=⟨w.hz+2,0,none⟩) Ys (.slice F N H)).setCell (p:=⟨w.hz+2,1,none⟩) Ys (.slice va vl.length X)).setCell (p:=⟨w.hz+2,2,none⟩) Ys (.slice ta (b++[E]).length bh)).setCell (p:=⟨w.hz+2,3,none⟩) Ys (Vi O);have aw:a1=af++gs:=by rw[cq.o,b4.o];rfl
        have br:=T.o.goals.box T.o.res Yd Yd (ca (.slice F N H) (.slice va vl.length X) (.slice ta (b++[E]).length bh) (Vi O));have ad:=T.o.row.inn.box T.o.res Yd Yd (ca (.slice F N H) (.slice va vl.length X) (.slice ta (b++[E]).length bh) (Vi O));rw[<-cr.o]at br U ad⊢;rw[aw]at br U ad⊢;rw[show b.length+1=(b++[E]).length by simp];exact⟨U,_,_,_,_,rfl,br,ad⟩
theorem Hs{V:Nat}(b:Wf k l)(hl:l.length<=1000)(c:∀v,Cj v l->v<V)(d:V<=200000):IG l:=
 ⟨⟨k,b⟩,hl,fun s a=>by
  obtain⟨i,hi⟩:=List.mem_iff_getElem?.1 a
  by_cases hn:s.name=[]
  ·have:=c s.num ⟨s,a,hn,rfl⟩;omega
  ·rw[(G5 b hi).2 hn];omega⟩
theorem IG.rn{v:Nat}(a:Wf k l)(hl:l.length<=1000){V:Nat}(c:∀u,Cj u l->u<V)(b:V+v<=200000):IG (l.map (YtlmjilpjmgjjcaaGreatDoor.rn v)):=by
 rw[<-Jg a];have f:(ap (AX v) l).length=l.length:=by rw[Jg a];simp
 exact Hs (Iu (LF v) a) Yo (V:=V+v) (fun u d=>by
  obtain⟨x,e,rfl⟩:=Fx d;have:=c x e;omega) b
def NG(n:ND)(c:Dt)(k:Nat)(w:World)(e:Ending)(w':World):Prop:=Ao w w'/\∃g1 g2 g3 v1 v2 v3 r1 r2 r3,∃uu q:Nat,e= .returned (.tuple #[.agg #[.slice g1 g2 g3,.slice v1 v2 v3,.slice r1 r2 r3,.int .i64 uu],.int .i64 q])/\
 ((q=0/\(n.goals=[]\/Kb n c k 0 n))\/(q=2/\∃ch,Kb n c k 3 ch)\/(q=1/\∃ch qq,(qq=1\/qq=2)/\Kb n c k qq ch/\Xa w.heap.size w' (.slice g1 g2 g3) (.slice v1 v2 v3) (.slice r1 r2 r3) ch/\uu=ch.vars/\g2=ch.goals.length))
theorem F2(σ:Nat->Ly)(n:ND)(c:Dt)(a:Kl c)(k:Nat)(g:Ly×Nat)(gs:List (Ly×Nat)):(Au σ n c k g gs).goals.map (·.1)=((c.body.map (fun l=>l.map (rn n.vars))++gs.map (·.1))).map (ap σ):=by
 unfold Au;simp only;rw[K2,Qr,QK]
 congr 2
 refine List.map_congr_left (fun l hl=> ?_);exact Jg (a.wfb l hl)
theorem IC(σ:Nat->Ly)(n:ND)(c:Dt)(k:Nat)(g:Ly×Nat)(gs:List (Ly×Nat)):(Au σ n c k g gs).done.map (·.1)=(n.done.map (·.1)++[g.1]).map (ap σ):=by
 unfold Au;simp only;rw[K2,Qr];rfl
theorem Ux{n:ND}(hn:FU n)(d:Kl c)(k:Nat){g:Ly×Nat}{gs:List (Ly×Nat)}(h:n.goals=g::gs)(f:I5 σ g.1 (ap (AX n.vars) c.head))(hl:l∈(c.body.map (fun l=>l.map (rn n.vars))++gs.map (·.1))++(n.vals++(n.done.map (·.1)++[g.1])))(hb:30<(ap σ l).length):Cy (Au σ n c k g gs)=3:=by
 refine Classical.byContradiction (fun i=> ?_);have a:=LH hn d k h f i;have j:(ap σ l).length<=30:=by
  rcases Qk.1 hl with hl|hl
  ·have:ap σ l∈(Au σ n c k g gs).goals.map (·.1):=by rw[F2 σ n c d];exact Q0.2 ⟨l,hl,rfl⟩
   obtain⟨x,b,e⟩:=Q0.1 this;rw[<-e];exact(a.gs x b).1
  ·rcases Qk.1 hl with hl|hl
   ·exact a.vsize (t:=ap σ l) (Q0.2 ⟨l,hl,rfl⟩)
   ·have:ap σ l∈(Au σ n c k g gs).done.map (·.1):=by rw[IC];exact Q0.2 ⟨l,hl,rfl⟩
    obtain⟨x,b,e⟩:=Q0.1 this;rw[<-e];exact(a.ds x b).1
 omega
theorem RE{n:ND}(k:Nat){g:Ly×Nat}{gs:List (Ly×Nat)}(h:40<c.body.length+gs.length\/100<n.used.length+1):Cy (Au σ n c k g gs)=3:=by
 have:Hh (Au σ n c k g gs)=true:=by
  unfold Hh Au Fo;simp only[Bool.or_eq_true,Q7,Ql,Qg,Qf,Qt];omega
 unfold Cy;rw[if_pos this]
theorem Pj{n:ND}(b:Kl c)(k:Nat){g:Ly×Nat}{gs:List (Ly×Nat)}(f:¬40<c.body.length+gs.length)(i:¬100<n.used.length+1)(h:∀l∈(c.body.map (fun l=>l.map (rn n.vars))++gs.map (·.1))++(n.vals++(n.done.map (·.1)++[g.1])),(ap σ l).length<=30):Cy (Au σ n c k g gs)=1\/Cy (Au σ n c k g gs)=2:=by
 have:Hh (Au σ n c k g gs)=false:=by
  have d:∀x∈(Au σ n c k g gs).goals,¬FL x=true:=fun x a=>by
   have:x.1∈(Au σ n c k g gs).goals.map (·.1):=Q0.2 ⟨x,a,rfl⟩;rw[F2 σ n c b]at this;obtain⟨l,hl,e⟩:=Q0.1 this;have:=h l (Q9 _ hl);unfold FL;rw[<-e];simpa using this
  have hd:∀x∈(Au σ n c k g gs).done,¬FL x=true:=fun x a=>by
   have:x.1∈(Au σ n c k g gs).done.map (·.1):=Q0.2 ⟨x,a,rfl⟩;rw[IC]at this;obtain⟨l,hl,e⟩:=Q0.1 this;have:=h l (QA _ (QA _ hl));unfold FL;rw[<-e];simpa using this
  unfold Hh;simp only[Bool.or_eq_false_iff,decide_eq_false_iff_not];refine⟨⟨⟨?_,?_⟩,List.any_eq_false.2 d⟩,List.any_eq_false.2 hd⟩
  ·unfold Au Fo;simp;omega
  ·unfold Au Fo;simp;omega
 unfold Cy;rw[this];simp only[Bool.false_eq_true,if_false];split
 ·exact Or.inr rfl
 ·exact Or.inl rfl
theorem KH(w:World)(cz dv dr dk cp nv:Value)(n:ND)(c:Dt)(k:Nat)(hn:FU n)(b:Kl c)(h:Gd w cz dv dr n)(U:MV w dk cp nv c):
  Calls prog 97 #[.agg #[cz,dv,dr,Vi n.vars],.agg #[dk,cp,nv]] w (NG n c k w):=by
 obtain⟨bs,ag,rfl⟩:=h.goals.shape;obtain⟨va,ab,rfl⟩:=h.vals.shape;obtain⟨ao,aq,rfl⟩:=h.done.shape;obtain⟨ha,an,rfl⟩:=Ac U.head;obtain⟨a0,a1,rfl⟩:=U.body.shape;obtain⟨na,bd,rfl⟩:=Ac U.names;have J:(n.goals.map (·.1)).length=n.goals.length:=Ys
 have c5:(n.done.map (·.1)).length=n.done.length:=Ys
 rw[J,c5]at h⊢;have ez:n.vars<=101000:=by have:=hn.vars;have:=hn.ul;omega
 have e2:c.names.length<=1000:=b.n;have c8:=hn.gl;have e3:n.done.length<=100:=by rw[hn.dl];exact hn.ul
 have e1:=b.bn;obtain⟨H,t⟩:=Ex (((w.alloc (.cells #[.slice bs n.goals.length ag,.slice va n.vals.length ab,.slice ao n.done.length aq,Vi n.vars] 87)).alloc (.cells #[.slice ha c.head.length an,.slice a0 c.body.length a1,.slice na c.names.length bd] 107)).alloc (.cells #[Nl,Nl,Nl,Vi 0] 87));have bt:Ao w H:=by rw[t];exact Mxt
 have e0:H.hz=w.hz+3:=by rw[t];simp
 have bz:NB H w.hz (.slice bs n.goals.length ag) (.slice va n.vals.length ab) (.slice ao n.done.length aq) n.vars:=by rw[t];exact Ah (Ah (QL w _) _) _
 have b0:H.heap[w.hz+1]?=some (.cells #[.slice ha c.head.length an,.slice a0 c.body.length a1,.slice na c.names.length bd] 107 (0,0)):=by rw[t];exact Ah (CU Ys _) _
 have b3:NB H (w.hz+2) Nl Nl Nl 0:=by rw[t];exact CU Ys _
 have ad:Hd (∀y,Ao H y->y.cell? ⟨w.hz,0,none⟩=some (.slice bs n.goals.length ag)/\y.cell? ⟨w.hz,1,none⟩=some (.slice va n.vals.length ab)/\y.cell? ⟨w.hz,2,none⟩=some (.slice ao n.done.length aq)/\y.cell? ⟨w.hz,3,none⟩=some (Vi n.vars)/\
   y.cell? ⟨w.hz+1,0,none⟩=some (.slice ha c.head.length an)/\y.cell? ⟨w.hz+1,1,none⟩=some (.slice a0 c.body.length a1)/\y.cell? ⟨w.hz+1,2,none⟩=some (.slice na c.names.length bd)/\NB y (w.hz+2) Nl Nl Nl 0/\w.hz+2<y.hz):=fun y N=>by
  have a2:=(N.block _ (Ab bz)).trans bz;have br:=(N.block _ (Ab b0)).trans b0;have cy:=(N.block _ (Ab b3)).trans b3;exact⟨Aa a2 0 _ rfl,Aa a2 1 _ rfl,Aa a2 2 _ rfl,Aa a2 3 _ rfl,Aa br 0 _ rfl,Aa br 1 _ rfl,Aa br 2 _ rfl,cy,Ab cy⟩
 have X:Hd (∀y K R ar au,Ao w y->Ao w ((((y.setCell ⟨w.hz+2,0,none⟩ K).setCell ⟨w.hz+2,1,none⟩ R).setCell ⟨w.hz+2,2,none⟩ ar).setCell ⟨w.hz+2,3,none⟩ au)):=fun y K R ar au N=>
  (((N.setCell (p:=⟨w.hz+2,0,none⟩) Ys _).setCell (p:=⟨w.hz+2,1,none⟩) Ys _).setCell (p:=⟨w.hz+2,2,none⟩) Ys _).setCell (p:=⟨w.hz+2,3,none⟩) Ys _
 have b9:IG (c.head.map (rn n.vars)):=IG.rn b.wfh (by have:=b.hl;omega) b.och (by have:=b.n;omega);have ca:(c.head.map (rn n.vars)).length=c.head.length:=Ys
 have e6:=b.hl;have bk:=hd (Hb H (.slice ha c.head.length an) c.head n.vars (BJ.ext U.head bt) Yo (fun s P=>(Hs b.wfh Yo b.och (by have:=b.n;omega)).num s P) Yo);obtain⟨L,bx⟩:∃l,l=c.head.map (rn n.vars):=⟨_,rfl⟩;have aw:Hd (L=ap (AX n.vars) c.head):=by show _=_;rw[bx];exact(Jg b.wfh).symm
 rw[<-bx]at bk ca b9;have ch:=hd h;have co:=hd U;have a:=hd hn;have f:=hd b;have cj:=hd bt;have d3:=hd b9;have d4:=hd ca;have et:=hd t;clear h U bt bz b0 b3 b9 bx J c5 hn b ca
 cases A:n.goals with
 |nil=>
  have r:=hd A;rw[A]at ad;obtain⟨cq,cr,cs,ct,cu,cv,cw,d,I⟩:=ad.o H (Below.refl _ _);have C:=Aa d 0 _ rfl;have D:=Aa d 1 _ rfl;have E:=Aa d 2 _ rfl;have F:=Aa d 3 _ rfl;have G:=fun i=>Ae d i;rw[A]at t;clear A d c8;go_enter func97,ntmps97;go_wp2_with fail;rw[Qt]at t;rw[<-t];refine bodyPost_ret (v:= .tuple #[.agg #[Nl,Nl,Nl,Vi 0],Vi 0]) (by simp[results,results97,go_sem,C,D,E,F,G,I]) rfl ?_;exact⟨cj.o,none,0,0,none,0,0,none,0,0,0,0,rfl,Or.inl ⟨rfl,Or.inl r.o⟩⟩
 |cons g gs=>
  have db:n.goals.length=gs.length+1:=by rw[A];simp
  have ep:((n.goals.length:Int)==0)=false:=by rw[Qu];omega
  obtain⟨fe,ba⟩:=ch.o.goals;obtain⟨x,Y,cd⟩:=ba.all 0 g.1 (by rw[A];rfl);obtain⟨cf,cg,rfl⟩:=Ac cd;obtain⟨T,eu,ev,c6,_,da,_⟩:=An ba.owns Yp;simp only[QH]at c6;obtain⟨rfl,_,rfl⟩:=c6;have ef:=Ab da;have K:w.cell? ⟨T,0,none⟩=some (.slice cf g.1.length cg):=Ag (by have:=ba.owns;rw[Ql]at this;exact this) _ _ Y;have b8:g.1∈n.terms:=by unfold ND.terms;rw[A];simp
  have b7:=a.o.wf g.1 b8;have c7:=(a.o.gs g (by rw[A];simp)).1;have c9:=(Hs b7 Yo (a.o.occ g.1 b8) Yo).num;have c3:Wf 1 L:=by rw[aw.o];exact Iu (LF _) f.o.wfh
  have ee:=d4.o;have cl:Hd (∀y Y b,Ao w y->BJ y (.slice Y L.length b) L->Calls prog 127 #[.slice cf g.1.length cg,.slice Y L.length b] y (N6 g.1 L y)):=fun y Y b N ej=>
   SP y _ _ g.1 L (BJ.ext cd N) ej b7 c3 Yo Yo (fun s P=>by
    rcases Qk.1 P with P|P
    ·exact c9 s P
    ·exact d3.o.num s P)
  have r:=hd A;have ax:=hd db;have d2:=hd c7;clear ba Y cd da b8 b7 c9 c3 ee A db c7;obtain⟨gl,J⟩:∃m,m=n.goals.length:=⟨_,rfl⟩;rw[<-J]at ad t ep c8;rw[show(g::gs).length=gl from by rw[J,ax.o];rfl];have e4:0<gl:=by rw[J,ax.o];omega
  have bp:=hd J;clear J;go_enter func97,ntmps97;go_wp2_with fail;rw[<-t];apply bk.o.mono;rintro e w1 ⟨e7,eq,rfl,ew,cc,ah⟩;obtain⟨ec,ed,rfl⟩:=Ac cc;obtain⟨cq,cr,cs,ct,cu,cv,cw,d,I⟩:=ad.o w1 ah;have a8:Ao w w1:=cj.o.trans (ah.mono Yo);have em:=ah.size;have R:w1.cell? ⟨T,0,none⟩=some (.slice cf g.1.length cg):=(a8.cell (p:=⟨T,0,none⟩) ef).trans K;have e5:T<w1.hz:=Yo
  have cm:=hd (cl.o w1 ec ed a8 (AI cc (Qm _)));have dx:=hd ah;have dy:=hd a8;clear cc ah a8 bk K cl t;go_wp2_with fail;apply cm.o.mono;rintro e w2 ⟨ai,aa,Q,Z,q,rfl,W⟩;obtain⟨cq,cr,cs,ct,cu,cv,cw,d,I⟩:=ad.o w2 (dx.o.trans (ai.mono em));have e8:=ai.size;have C:=Aa d 0 _ rfl;have D:=Aa d 1 _ rfl;have E:=Aa d 2 _ rfl;have F:=Aa d 3 _ rfl;have G:=fun i=>Ae d i;have c1:Ao w w2:=dy.o.trans (ai.mono Yo);have e9:w.hz<w2.hz:=Yo
  have fa:w.hz+1<w2.hz:=Yo
  have er:=hd ai;have S:=hd c1;have d0:=hd d;clear ai c1 R cm d;rcases W with⟨rfl,dd⟩|⟨rfl,dm⟩|⟨rfl,ts,eo,dj,cb,dg,el,di⟩
  ·have d5:Hd (Kb n c k 0 n):=⟨g,gs,r.o,Or.inl ⟨rfl,by rw[<-aw.o];exact dd⟩⟩;clear dd;go_wp2;refine bodyPost_ret (v:= .tuple #[.agg #[Nl,Nl,Nl,Vi 0],Vi 0]) (by simp[results,results97,go_sem,C,D,E,F,G,I]) rfl ?_;refine⟨(X.o w2 Nl Nl Nl (Vi 0) S.o).alloc Yp _,none,0,0,none,0,0,none,0,0,0,0,rfl,Or.inl ⟨rfl,Or.inr d5.o⟩⟩
  ·have d9:Hd (∃af,Kb n c k 3 af):=⟨n,g,gs,r.o,Or.inr (Or.inl ⟨rfl,by rw[<-aw.o];exact dm⟩)⟩;clear dm;go_wp2;refine bodyPost_ret (v:= .tuple #[.agg #[Nl,Nl,Nl,Vi 0],Vi 2]) (by simp[results,results97,go_sem,C,D,E,F,G,I]) rfl ?_;refine⟨(X.o w2 Nl Nl Nl (Vi 0) S.o).alloc Yp _,none,0,0,none,0,0,none,0,0,0,2,rfl,Or.inr (Or.inl ⟨rfl,d9.o⟩)⟩
  ·rw[aw.o]at cb;have az:=hd cb;have d8:=hd dj;have d7:=hd di;have bq:=hd dg;clear cb dj di dg
   by_cases V:40<c.body.length+gs.length\/100<n.used.length+1
   ·have ay:Hd (∃af,Kb n c k 3 af):=⟨_,g,gs,r.o,Or.inr (Or.inr ⟨B3 ts,az.o,bq.o,(RE k V).symm,rfl⟩)⟩;have bc:gl=gs.length+1:=by rw[bp.o,ax.o]
    have bb:=a.o.dl
    by_cases c0:40<c.body.length+gs.length
    ·have hi:(40:Int)<(c.body.length:Int)+(gl:Int)-1:=Yo
     clear V c0 bc bb;go_wp2;refine bodyPost_ret (v:= .tuple #[.agg #[Nl,Nl,Nl,Vi 0],Vi 2]) (by simp[results,results97,go_sem,C,D,E,F,G,I]) rfl ?_;exact⟨(X.o w2 Nl Nl Nl (Vi 0) S.o).alloc Yp _,none,0,0,none,0,0,none,0,0,0,2,rfl,Or.inr (Or.inl ⟨rfl,ay.o⟩)⟩
    ·have hi:¬((40:Int)<(c.body.length:Int)+(gl:Int)-1):=Yo
     have eg:(100:Int)<(n.done.length:Int)+1:=Yo
     clear V c0 bc bb;go_wp2;refine bodyPost_ret (v:= .tuple #[.agg #[Nl,Nl,Nl,Vi 0],Vi 2]) (by simp[results,results97,go_sem,C,D,E,F,G,I]) rfl ?_;exact⟨(X.o w2 Nl Nl Nl (Vi 0) S.o).alloc Yp _,none,0,0,none,0,0,none,0,0,0,2,rfl,Or.inr (Or.inl ⟨rfl,ay.o⟩)⟩
   ·have bc:gl=gs.length+1:=by rw[bp.o,ax.o]
    have bb:=a.o.dl;have hi:¬((40:Int)<(c.body.length:Int)+(gl:Int)-1):=Yo
    have eg:¬((100:Int)<(n.done.length:Int)+1):=Yo
    have eh:¬40<c.body.length+gs.length:=fun h=>V (Or.inl h);have ei:¬100<n.used.length+1:=fun h=>V (Or.inr h);obtain⟨fd,ek⟩:∃m,m=Q:=⟨_,rfl⟩;have al:Gd w (.slice (some ⟨T,0,none⟩) gl ag) (.slice va n.vals.length ab) (.slice ao n.done.length aq) n:=by rw[bp.o];exact ch.o
    have O:Ao w (w2.alloc (.cells #[.slice aa Q Z] 216)):=S.o.alloc Yo _;have b6:=(al.ext O).goals;rw[r.o,Qx]at b6;have ci:=hd (Nm (w2.alloc (.cells #[.slice aa Q Z] 216)) (.slice (some ⟨T,0,none⟩) gl ag) (.slice va n.vals.length ab) (.slice ao n.done.length aq) (.slice ha c.head.length an) (.slice a0 c.body.length a1) (.slice na c.names.length bd) g.1 (gs.map (·.1)) n.vals (n.done.map (·.1)) c.body c.names n.vars
     b6 (al.ext O).vals (al.ext O).done ⟨_,_,_,rfl⟩ (co.o.ext O).body (co.o.ext O).names Yp Yp Yo Yo Yo (fun l hl=>Hs (f.o.wfb l hl) (by have:=f.o.bl l hl;omega) (f.o.ocb l hl) (by have:=f.o.n;omega)))
    have HN:=hd al;have es:=hd O;clear bc bb V ek al O b6;go_wp2_with fail;apply ci.o.mono;rintro e w4 ⟨a7,b1,b2,ea,eb,rfl,b4,b5⟩;obtain⟨ac,ak⟩:∃l,l=c.body.map (fun l=>l.map (rn n.vars))++gs.map (·.1):=⟨_,rfl⟩;obtain⟨ae,am⟩:∃l,l=n.done.map (·.1)++[g.1]:=⟨_,rfl⟩;rw[<-ak]at b4⊢;rw[<-am]at b5⊢;have ex:ac.length<=1000:=by rw[ak];simp;omega
    have ey:ae.length<=1000:=by rw[am];simp;omega
    have de:∀l∈ac++(n.vals++ae),IG l:=fun l hl=>by
     rcases Qk.1 hl with hl|hl
     ·rw[ak]at hl;rcases Qk.1 hl with hl|hl
      ·obtain⟨m,B,rfl⟩:=Q0.1 hl;exact IG.rn (f.o.wfb m B) (by have:=f.o.bl m B;omega) (f.o.ocb m B) (by have:=f.o.n;omega)
      ·obtain⟨m,B,rfl⟩:=Q0.1 hl;have u:m.1∈n.terms:=by unfold ND.terms;rw[r.o];exact Q9 _ (Q0.2 ⟨m,by simp[B],rfl⟩)
       exact Hs (a.o.wf _ u) (by have:=(a.o.gs m (by rw[r.o];simp[B])).1;omega) (a.o.occ _ u) Yo
     ·rcases Qk.1 hl with hl|hl
      ·have u:l∈n.terms:=by unfold ND.terms;simp[hl]
       exact Hs (a.o.wf _ u) (by have:=a.o.vsize hl;omega) (a.o.occ _ u) Yo
      ·rw[am]at hl;rcases Qk.1 hl with hl|hl
       ·obtain⟨m,B,rfl⟩:=Q0.1 hl;have u:m.1∈n.terms:=by unfold ND.terms;exact QA _ (QA _ (Q0.2 ⟨m,B,rfl⟩))
        exact Hs (a.o.wf _ u) (by have:=(a.o.ds m B).1;omega) (a.o.occ _ u) Yo
       ·simp at hl;subst hl;have u:g.1∈n.terms:=by unfold ND.terms;rw[r.o];simp
        exact Hs (a.o.wf _ u) (by have:=d2.o;omega) (a.o.occ _ u) Yo
    have dn:=a7.size;have dn:w2.hz+1<=w4.hz:=by simpa using dn
    have df:w4.heap[w2.hz]?=some (.cells #[.slice aa Q Z] 216 (0,0)):=(a7.block _ Ys).trans (QL w2 _);have fc:=Aa df 0 _ rfl;have a6:Ao w2 w4:=(show Ao w2 (w2.alloc (.cells #[.slice aa Q Z] 216)) from Mxt).trans (a7.mono Ys);have bw:Ao w w4:=S.o.trans (a6.mono Yo);have cx:NB w4 (w.hz+2) Nl Nl Nl 0:=(a6.block _ I).trans d0.o;have aj:∀o,Ao w4 (w4.alloc o):=fun o=>Mxt;have cn:Hd (∀o,Calls prog 129 #[.agg #[.slice b1 ac.length b2,.slice va n.vals.length ab,.slice ea ae.length eb,Vi ((n.vars+c.names.length:Nat):Int)],.agg #[.slice aa Q Z]] (w4.alloc o) (S3 ts ac n.vals ae (n.vars+c.names.length) (w4.alloc o))):=fun o=>
     Mn (w4.alloc o) (.slice aa Q Z) _ _ _ ts ac n.vals ae eo (n.vars+c.names.length) ((d8.o.ext a6).ext (aj o)) (b4.ext (aj o)) ((HN.o.vals.ext bw).ext (aj o)) (b5.ext (aj o)) el d7.o Yo (by have:=a.o.vl;omega) Yo de Yo
    have dz:=hd bw;have d1:=hd cx;have av:=hd ak;have bm:=hd am;have en:w.hz+2<w4.hz:=Yo
    have fb:w2.hz<w4.hz:=Yo
    clear a7 b4 b5 de df a6 bw cx aj ak am ci;go_wp2_with fail;apply(cn.o _).mono;rintro e z ⟨bv,W⟩;have dp:=bv.size;have dp:w4.hz+1<=z.hz:=by simpa using dp
    have bu:Ao w4 z:=(Below.refl _ w4|>.alloc (Qe _) _).trans (bv.mono Ys);have c2:Ao w z:=dz.o.trans (bu.mono Yo);have M:NB z (w.hz+2) Nl Nl Nl 0:=(bu.block _ en).trans d1.o;have C:=Aa M 0 _ rfl;have D:=Aa M 1 _ rfl;have E:=Aa M 2 _ rfl;have F:=Aa M 3 _ rfl;have G:=fun i=>Ae M i;have dq:w.hz+2<z.hz:=Yo
    have ck:=hd c2;have bo:=hd M;clear bv bu c2 M cn;rcases W with⟨dh,a3,a4,a5,bh,bi,bj,be,bf,bg,rfl,ce,dt,du⟩|⟨⟨l,hl,c4⟩,rfl⟩
    ·have dc:=Pj (k:=k) (g:=g) (gs:=gs) f.o (σ:=B3 ts) eh ei (by rw[<-av.o,<-bm.o];exact dh);have a9:∀K R ar au,Ad (fun j=>j=w.hz+2) z ((((z.setCell ⟨w.hz+2,0,none⟩ K).setCell ⟨w.hz+2,1,none⟩ R).setCell ⟨w.hz+2,2,none⟩ ar).setCell ⟨w.hz+2,3,none⟩ au):=fun K R ar au=>((((Ad.refl (only (w.hz+2)) z).put 0 _).put 1 _).put 2 _).put 3 _;have W:NG n c k w (Rq #[.agg #[.slice a3 a4 a5,.slice bh bi bj,.slice be bf bg,Vi ((n.vars+c.names.length:Nat):Int)],Vi 1]) ((((z.setCell ⟨w.hz+2,0,none⟩ (.slice a3 a4 a5)).setCell ⟨w.hz+2,1,none⟩ (.slice bh bi bj)).setCell ⟨w.hz+2,2,none⟩ (.slice be bf bg)).setCell ⟨w.hz+2,3,none⟩ (Vi ((n.vars+c.names.length:Nat):Int))):=by
      refine⟨X.o z _ _ _ _ ck.o,a3,a4,a5,bh,bi,bj,be,bf,bg,n.vars+c.names.length,1,rfl,Or.inr (Or.inr ⟨rfl,Au (B3 ts) n c k g gs,Cy (Au (B3 ts) n c k g gs),dc,⟨g,gs,r.o,Or.inr (Or.inr ⟨B3 ts,az.o,bq.o,rfl,rfl⟩)⟩,⟨?_,?_,?_⟩,rfl,?_⟩)⟩
      ·rw[F2 _ _ _ f.o,<-av.o];exact(ce.box bo.o Yd Yd (a9 _ _ _ _)).mono Yp
      ·exact(dt.box bo.o Yd Yd (a9 _ _ _ _)).mono Yp
      ·rw[IC,<-bm.o];exact(du.box bo.o Yd Yd (a9 _ _ _ _)).mono Yp
      ·obtain⟨ff,fg,dw⟩:=ce.inn.shape;simp only[QH]at dw;rw[dw.2.1,av.o,<-F2 (B3 ts) n c f.o k g gs,Ql]
     have d6:=hd W;clear W dh dc a9 ce dt du;go_wp2;refine bodyPost_ret (v:= .tuple #[.agg #[.slice a3 a4 a5,.slice bh bi bj,.slice be bf bg,Vi ((n.vars+c.names.length:Nat):Int)],Vi 1]) (by simp[results,results97,go_sem,C,D,E,F,G,dq]) rfl ?_;exact d6.o
    ·have ay:Hd (∃af,Kb n c k 3 af):=⟨_,g,gs,r.o,Or.inr (Or.inr ⟨B3 ts,az.o,bq.o,(Ux a.o f.o k r.o az.o (by rw[<-av.o,<-bm.o];exact hl) c4).symm,rfl⟩)⟩;clear hl c4;go_wp2;refine bodyPost_ret (v:= .tuple #[.agg #[Nl,Nl,Nl,Vi 0],Vi 2]) (by simp[results,results97,go_sem,C,D,E,F,G,dq]) rfl ?_;exact⟨X.o z _ _ _ _ ck.o,none,0,0,none,0,0,none,0,0,0,2,rfl,Or.inr (Or.inl ⟨rfl,ay.o⟩)⟩
def Ib:ByteArray:=⟨#[48,49,50,51,52,53,54,55,56,57]⟩
theorem GM(c:UInt8):EE c Ib=Fh c:=by
 have:=Dw (p:=fun c=>EE c Ib==Fh c) (by decide+kernel) c;simpa using this
theorem Ej{c:UInt8}(h:Fh c=true):48<=c.toNat/\c.toNat<=57:=by simpa[Fh]using h
theorem Ji(s:ByteArray)(p:Nat)(h:¬p<s.size):As (s.data.toList.drop p)=(0,0):=by rw[DX s p h];rfl
theorem JZ(s:ByteArray)(p:Nat)(h:p<s.size)(a:Fh s[p]=false):As (s.data.toList.drop p)=(0,0):=by
 rw[B0 s p h];simp[As,a]
theorem Jf(s:ByteArray)(p:Nat)(h:p<s.size)(a:Fh s[p]=true)(h0:s[p].toNat-48=0):As (s.data.toList.drop p)=(s[p].toNat-48,1):=by
 have:=Ej a;rw[B0 s p h];simp[As,a,show s[p].toNat=48 by omega]
theorem Kg(s:ByteArray)(p:Nat)(h:p<s.size)(b:Fh s[p]=true)(a:¬p+1<s.size):As (s.data.toList.drop p)=(s[p].toNat-48,1):=by
 rw[B0 s p h,DX s (p+1) a];simp only[As,b,if_true];split
 ·rename_i h0;rw[h0]
 ·rfl
theorem Jk(s:ByteArray)(p:Nat)(h:p<s.size)(b:Fh s[p]=true)(a:p+1<s.size)(c:Fh s[p+1]=false):As (s.data.toList.drop p)=(s[p].toNat-48,1):=by
 rw[B0 s p h,B0 s (p+1) a];simp only[As,b,c,if_true];split
 ·rename_i h0;rw[h0]
 ·simp
theorem JQ(s:ByteArray)(p:Nat)(h:p<s.size)(b:Fh s[p]=true)(h0:¬s[p].toNat-48=0)(a:p+1<s.size)(c:Fh s[p+1]=true):As (s.data.toList.drop p)=(10*(s[p].toNat-48)+(s[p+1].toNat-48),2):=by
 rw[B0 s p h,B0 s (p+1) a];simp only[As,b,c,if_true];rw[if_neg Yo]
theorem FX(s:ByteArray)(p:Nat)(w:World)(F:s.size<=100000)(E:p<=100001):
  Calls prog 151 #[.string s,Vi p] w fun e w'=>e=Rq #[Vi (As (s.data.toList.drop p)).1,Vi (As (s.data.toList.drop p)).2]/\w'=w:=by
 obtain⟨r,l⟩:=Ex (As (s.data.toList.drop p));rw[<-l];have k:=hd l;clear l;go_enter func151,G;go_wp2
 go_loopg [6,7] 4 (fun gk nv x wr=>∃(m c:Nat),nv=Vi m/\x=Vi c/\c<=2/\2-c<gk/\wr=w/\
  ((c=0/\m=0)\/(c=1/\∃h:p<s.size,Fh s[p]=true/\m=s[p].toNat-48)\/(c=2/\r=(m,2))))
 case atStart=>exact⟨0,0,Yg,Yg,Yo,Yo,rfl,Or.inl ⟨rfl,rfl⟩⟩
 case round=>
  obtain⟨m,c,rfl,rfl,z,A,rfl,h⟩:=hrel;rcases h with⟨rfl,rfl⟩|⟨rfl,i,a,j⟩|⟨rfl,l⟩
  ·by_cases i:p<s.size
   ·cases a:Fh s[p]with
    |false=>
     have q:Hd _:=hd (BS s[p] Ib wr Yd);have b:=q.o;rw[GM,a]at b;have f:=hd b;have d:Hd (r=(0,0)):=k.o.trans (JZ s p i a);clear b q a
     go_wp2_with (go_at_call 175;apply f.o.mono;rintro e w' ⟨rfl,rfl⟩)
     go_ret2;rw[d.o];exact⟨rfl,rfl⟩
    |true=>
     have b:=BS s[p] Ib wr Yd;rw[GM,a]at b;have f:=hd b;obtain⟨u,v⟩:=Ej a;have t:=hd a;clear b a
     go_wp2_with (go_at_call 175;apply f.o.mono;rintro e w' ⟨rfl,rfl⟩)
     go_roundg 2
     case measure=>omega
     case rel=>exact⟨s[p].toNat-48,1,by simp;omega,Yg,Yo,Yo,rfl,Or.inr (Or.inl ⟨rfl,i,t.o,rfl⟩)⟩
   ·have d:Hd (r=(0,0)):=k.o.trans (Ji s p i);go_wp2;go_ret2;rw[d.o];exact⟨rfl,rfl⟩
  ·obtain⟨u,v⟩:=Ej a
   by_cases n:p+1<s.size
   ·cases g:Fh s[p+1]with
    |false=>
     have b:=BS s[p+1] Ib wr Yd;rw[GM,g]at b;have f:=hd b;have d:Hd (r=(m,1)):=by show _=_;rw[k.o,Jk s p i a n g,j]
     clear b g j a
     go_wp2_with (go_at_call 175;apply f.o.mono;rintro e w' ⟨rfl,rfl⟩)
     go_ret2;rw[d.o];exact⟨rfl,rfl⟩
    |true=>
     have b:=BS s[p+1] Ib wr Yd;rw[GM,g]at b;have f:=hd b;obtain⟨y,f4⟩:=Ej g
     by_cases h0:m=0
     ·have d:Hd (r=(m,1)):=by show _=_;rw[k.o,Jf s p i a Yo,j]
      subst h0;clear b g j a
      go_wp2_with (go_at_call 175;apply f.o.mono;rintro e w' ⟨rfl,rfl⟩)
      go_ret2;rw[d.o];exact⟨rfl,rfl⟩
     ·have d:Hd (r=(10*m+(s[p+1].toNat-48),2)):=by show _=_;rw[k.o,JQ s p i a Yo n g,j]
      have D:((m:Int)==0)=false:=by rw[Qu];omega
      have C:m<=9:=Yo
      clear b g j a
      go_wp2_with (go_at_call 175;apply f.o.mono;rintro e w' ⟨rfl,rfl⟩)
      go_roundg 1
      case measure=>omega
      case rel=>exact⟨10*m+(s[p+1].toNat-48),2,by simp;omega,Yg,Yo,Yo,rfl,Or.inr (Or.inr ⟨rfl,d.o⟩)⟩
   ·have d:Hd (r=(m,1)):=by show _=_;rw[k.o,Kg s p i a n,j]
    clear a j;go_wp2;go_ret2;rw[d.o];exact⟨rfl,rfl⟩
  ·have d:=hd l;clear l
   by_cases B:p+2<s.size
   ·go_wp2;go_ret2;rw[d.o];exact⟨rfl,rfl⟩
   ·go_wp2;go_ret2;rw[d.o];exact⟨rfl,rfl⟩
theorem U6(w:World)(v:Value)(e:TypeId):(w.alloc (.cells #[v] e)).ownsRow w.hz e 1 (.slice (some ⟨w.hz,0,none⟩) 1 1) 1 [v]:=
 ⟨rfl,Or.inr ⟨_,1,#[v],rfl,Qe _,QL w _,Qe _,by unfold maxLen;omega,rfl,rfl⟩⟩
def DP(f:Nat)(l:Lu)(p:Nat)(acc:List Nat):Option (List Nat)×Nat:=
 match l with
 |[]=>(some acc,0)
 |c::r=>if c=46 then D9 f r (p+1) acc else(none,p)
theorem Ge(f:Nat)(l:Lu)(p:Nat)(a:List Nat)(h:(As l).2≠0):D9 (f+1) l p a=DP f (l.drop (As l).2) (p+(As l).2) (a++[(As l).1]):=by
 rw[D9,if_neg h];rfl
theorem F9(f:Nat)(l:Lu)(p:Nat)(a:List Nat)(h:(As l).2=0):D9 (f+1) l p a=(none,p):=by
 rw[D9,if_pos h]
def R9(s:ByteArray)(e:Ending)(w':World):Prop:=
 (∃ks lv,Bn s=(some ks,0)/\e= .returned (.tuple #[lv,.int .i64 (-1)])/\w'.ownsRow 0 3 1 lv ks.length (AM ks)/\ks.length<=400/\∀k∈ks,k<=99)\/(∃pl:Nat,Bn s=(none,pl)/\e= .returned (.tuple #[.slice none 0 0,.int .i64 pl]))
theorem OI(s:ByteArray)(w:World)(Y:s.size<=400):Calls prog 150 #[.string s] w fun e w'=>Ao w w'/\R9 s e w':=by
 have Z:s.data.toList.length=s.size:=Ys
 have HN:=hd (fun p u (Q:p<=401)=>FX s p u Yo Yo);obtain⟨m,b,n⟩:∃m b,As s.data.toList=(m,b):=⟨_,_,rfl⟩;have M:=Ci s.data.toList;rw[n]at M;simp only at M;have h0:=HN.o 0 w Yo;rw[List.drop_zero,n]at h0;have E:=hd h0;have r:=hd n;clear h0 n
 by_cases hz:b=0
 ·have x:Hd (Bn s=(none,0)):=by
   show _=_;rw[Bn,F9 _ _ _ _ (by rw[r.o];exact hz)]
  subst hz;go_enter func150,T;go_wp2_with fail;apply E.o.mono;rintro e w' ⟨rfl,rfl⟩;go_wp2;go_ret2;exact⟨Below.refl _ _,Or.inr ⟨0,x.o,rfl⟩⟩
 ·have x:Hd (Bn s=DP s.size (s.data.toList.drop b) b [m]):=by
   show _=_;rw[Bn,Ge _ _ _ _ (by rw[r.o];exact hz),r.o];simp
  have aa:(((b:Nat):Int)==0)=false:=by rw[Qu];omega
  go_enter func150,T;go_wp2_with fail;apply E.o.mono;rintro e w' ⟨rfl,rfl⟩;go_wp2
  go_loopg [6,7] (s.size+1) (fun gk S av wr=>∃(p f:Nat)(a:List Nat),av=Vi p/\p<=s.size/\s.size-p<gk/\s.size-p<=f/\Bn s=DP f (s.data.toList.drop p) p a/\a.length<=p/\(∀k∈a,k<=99)/\Ao w' wr/\wr.ownsRow w'.hz 3 1 S a.length (AM a))
  case atStart=>exact⟨b,s.size,[m],Yg,Yo,Yo,Yo,x.o,by simp;omega,by simp;omega,Mxt,U6 w' _ _⟩
  case round=>
   obtain⟨p,f,a,rfl,Q,X,W,L,V,J,B,C⟩:=hrel;obtain⟨la,ac,rfl⟩:=Ac C;have R:=B.size;have v:=hd L;have l:=hd B;have y:=hd C;have G:=hd J;clear L B C J
   by_cases K:p<s.size
   ·have hd:=B0 s p K
    by_cases d:s[p]=46
    ·have P:((s[p].toNat:Int) !=46)=false:=by rw[d];rfl
     obtain⟨h,rfl⟩:∃h,f=h+1:=⟨f-1,Yo⟩;obtain⟨O,j,q⟩:∃m b,As (s.data.toList.drop (p+1))=(m,b):=⟨_,_,rfl⟩;have N:=Ci (s.data.toList.drop (p+1));rw[q]at N;simp only[List.length_drop]at N;have z:=HN.o (p+1) wr Yo;rw[q]at z;have F:=hd z;have I:Hd (Bn s=D9 (h+1) (s.data.toList.drop (p+1)) (p+1) a):=by
      show _=_;rw[v.o,hd];simp[DP,d]
     have t:=hd q;have U:=hd d;clear z q hd d
     by_cases D:j=0
     ·have c:Hd (Bn s=(none,p+1)):=by
       show _=_;rw[I.o,F9 _ _ _ _ (by rw[t.o];exact D)]
      subst D;go_wp2_with fail;apply F.o.mono;rintro e w2 ⟨rfl,rfl⟩;go_wp2;go_ret2;exact⟨l.o,Or.inr ⟨p+1,c.o,Ys⟩⟩
     ·have c:Hd (Bn s=DP h (s.data.toList.drop (p+1+j)) (p+1+j) (a++[O])):=by
       show _=_;rw[I.o,Ge _ _ _ _ (by rw[t.o];exact D),t.o,List.drop_drop]
      have ab:(((j:Nat):Int)==0)=false:=by rw[Qu];omega
      go_wp2_with fail;apply F.o.mono;rintro e w2 ⟨rfl,rfl⟩
      go_wp2_with (at_builtin;refine Am _ rfl (.tmp 38) (.tmp 40) 25 rfl w'.hz 3 infoInt underlying25 rfl Yd _ a.length (AM a) rfl y.o _ rfl rfl rfl (DT _) ?_ ?_ ?_)
      ·omega
      ·omega
      intro ad w3 A;obtain⟨ae,af,rfl⟩:=Ac A.owns;have H:=hd A;clear A;go_wp2
      go_roundg (s.size-p)
      case measure=>omega
      case rel=>
       refine⟨p+1+j,h,a++[O],Yg,Yo,Yo,Yo,c.o,by simp;omega,fun k g=> ?_,?_,?_⟩
       ·rcases Qk.1 g with g|g
        ·exact G.o k g
        ·simp at g;subst g;omega
       ·exact l.o.trans (H.o.kept.below R (fun i e=>(y.o.lt i e).1))
       ·have:=H.o.owns;simpa[AM]using this
    ·have P:((s[p].toNat:Int) !=46)=true:=by
      rw[bne_iff_ne];intro e;apply d;apply UInt8.toNat_inj.1;have:s[p].toNat=46:=Yo
      rw[this];rfl
     have c:Hd (Bn s=(none,p)):=by
      show _=_;rw[v.o,hd];simp[DP,d]
     clear hd d;go_wp2;go_ret2;exact⟨l.o,Or.inr ⟨p,c.o,Ys⟩⟩
   ·have hd:=DX s p K;have c:Hd (Bn s=(some a,0)):=by
     show _=_;rw[v.o,hd];simp[DP]
    clear hd;go_wp2;go_ret2;exact⟨l.o,Or.inl ⟨a,_,c.o,rfl,AI y.o (Qm _),Yo,G.o⟩⟩
def Gp(s:ByteArray)(p:Nat):Bool:=if h:p<s.size then Fh s[p]else false
theorem Pu(h:Gp s p=true):∃h:p<s.size,Fh s[p]=true:=by
 unfold Gp at h;split at h
 ·rename_i a;exact⟨a,h⟩
 ·simp at h
theorem TH(s:ByteArray)(p:Nat)(w:World)(i:s.size<=100000)(h:p<=100001):
  Calls prog 126 #[.string s,Vi p] w fun e w'=>e= .returned (.bool (Gp s p))/\w'=w:=by
 have h0:(0:Int)<=(p:Int):=Yo
 by_cases b:p<s.size
 ·have g:(p:Int)<(s.size:Int):=Yo
  cases a:Fh s[p]with
  |true=>
   obtain⟨d,f⟩:=Ej a;have Hd:Hd (Gp s p=true):=by show _=_;unfold Gp;rw[dif_pos b];exact a
   clear a;go_enter func126,c;go_wp2;go_ret;rw[Hd.o];exact⟨by simp;omega,rfl⟩
  |false=>
   have Hd:Hd (Gp s p=false):=by show _=_;unfold Gp;rw[dif_pos b];exact a
   have hb:s[p].toNat<48\/57<s[p].toNat:=by
    simp only[Fh,decide_eq_false_iff_not]at a;omega
   clear a;rcases hb with hb|hb
   ·have d:¬48<=s[p].toNat:=Yo
    go_enter func126,c;go_wp2;go_ret;rw[Hd.o];exact⟨rfl,rfl⟩
   ·have d:48<=s[p].toNat:=Yo
    have f:¬s[p].toNat<=57:=Yo
    go_enter func126,c;go_wp2;go_ret;rw[Hd.o];exact⟨by simp;omega,rfl⟩
 ·have g:¬(p:Int)<(s.size:Int):=Yo
  have Hd:Hd (Gp s p=false):=by show _=_;unfold Gp;rw[dif_neg b]
  go_enter func126,c;go_wp2;go_ret;rw[Hd.o];exact⟨rfl,rfl⟩
theorem Rg(s:ByteArray)(p:Nat)(w:World)(v:s.size<=100000)(A:p<=100000):
  Calls prog 96 #[.string s,Vi p] w fun e w'=>e=Rq #[Vi (As (s.data.toList.drop p)).1,Vi ((p+(As (s.data.toList.drop p)).2:Nat):Int)]/\w'=w:=by
 have j:=hd (fun q u (t:q<=100001)=>TH s q u v t);obtain⟨r,l⟩:=Ex (As (s.data.toList.drop p));rw[<-l];have i:=hd l;clear l
 cases hd:Gp s p with
 |false=>
  have g:Hd (r=(0,0)):=by
   show _=_;rw[i.o]
   by_cases f:p<s.size
   ·refine JZ s p f ?_;unfold Gp at hd;rw[dif_pos f]at hd;exact hd
   ·exact Ji s p f
  have a:=j.o p w Yo;rw[hd]at a;have a:=hd a;clear hd;go_enter func96,m;go_wp2_with fail;apply a.o.mono;rintro e w' ⟨rfl,rfl⟩;go_wp2;go_ret2;rw[g.o];exact⟨Ys,rfl⟩
 |true=>
  obtain⟨f,d⟩:=Pu hd;obtain⟨x,y⟩:=Ej d;have a:=j.o p w Yo;rw[hd]at a;have a:=hd a;have b:=j.o (p+1) w Yo;clear hd
  by_cases h0:s[p].toNat-48=0
  ·have g:Hd (r=(0,1)):=by show _=_;rw[i.o,Jf s p f d h0,h0]
   have n:s[p].toNat=48:=Yo
   clear d b;go_enter func96,m;go_wp2_with fail;apply a.o.mono;rintro e w' ⟨rfl,rfl⟩;go_wp2;go_ret2;rw[g.o];exact⟨by simp[n],rfl⟩
  ·cases c:Gp s (p+1)with
   |false=>
    have g:Hd (r=(s[p].toNat-48,1)):=by
     show _=_;rw[i.o]
     by_cases h:p+1<s.size
     ·refine Jk s p f d h ?_;unfold Gp at c;rw[dif_pos h]at c;exact c
     ·exact Kg s p f d h
    rw[c]at b;have b:=hd b;clear d c;go_enter func96,m;go_wp2_with fail;apply a.o.mono;rintro e w' ⟨rfl,rfl⟩;go_wp2_with fail;apply b.o.mono;rintro e w' ⟨rfl,rfl⟩;go_wp2;go_ret2;rw[g.o];exact⟨by simp;omega,rfl⟩
   |true=>
    obtain⟨h,k⟩:=Pu c;obtain⟨z,f4⟩:=Ej k;have g:Hd (r=(10*(s[p].toNat-48)+(s[p+1].toNat-48),2)):=by
     show _=_;rw[i.o];exact JQ s p f d h0 h k
    rw[c]at b;have b:=hd b;clear d c k;go_enter func96,m;go_wp2_with fail;apply a.o.mono;rintro e w' ⟨rfl,rfl⟩;go_wp2_with fail;apply b.o.mono;rintro e w' ⟨rfl,rfl⟩;go_wp2;go_ret2;rw[g.o];exact⟨by simp;omega,rfl⟩
def Vy(s:ByteArray)(w:World)(e:Ending)(w':World):Prop:=Ao w w'/\
 ((400<s.size/\e= .returned (.tuple #[.slice none 0 0,.agg #[.int .i64 1,.int .i64 0]]))\/(s.size<=400/\
  ((∃ks a c,Bn s=(some ks,0)/\e= .returned (.tuple #[.slice a ks.length c,.agg #[.int .i64 0,.int .i64 0]])/\w'.ownsRow 0 3 1 (.slice a ks.length c) ks.length (AM ks)/\ks.length<=400/\∀k∈ks,k<=99)\/
   (∃pl:Nat,Bn s=(none,pl)/\e= .returned (.tuple #[.slice none 0 0,.agg #[.int .i64 6,.int .i64 pl]])))))
theorem U5(s:ByteArray)(w:World)(ao:s.size<=maxLen):Calls prog 67 #[.string s] w (Vy s w):=by
 unfold maxLen at ao;have I:Hd (∀y q r,Ao w y->Ao w ((y.setCell ⟨w.hz,0,none⟩ q).setCell ⟨w.hz,1,none⟩ r)):=fun y q r ah=>(ah.setCell (p:=⟨w.hz,0,none⟩) (Qe _) _).setCell (p:=⟨w.hz,1,none⟩) (Qe _) _
 by_cases ak:400<s.size
 ·have aj:(400:Int)<(s.size:Int):=Yo
  go_enter func67,aw;go_wp2;refine bodyPost_ret (v:= .tuple #[Nl,.agg #[Vi 1,Vi 0]]) (by simp[results,results67,go_sem]) rfl ?_;exact⟨Mxt,Or.inl ⟨ak,rfl⟩⟩
 ·have H:s.size<=400:=Yo
  have aj:¬((400:Int)<(s.size:Int)):=Yo
  have a1:s.data.toList.length=s.size:=Ys
  have HN:=hd (fun p u (ap:p<=401)=>Rg s p u Yo Yo);go_enter func67,aw;go_wp2
  go_loopg [4,5] (s.size+2) (fun gk au av wr=>∃(p f:Nat)(a:List Nat),av=Vi p/\p<=s.size/\s.size+1-p<gk/\s.size+1-p<=f/\Bn s=D9 f (s.data.toList.drop p) p a/\a.length<=p/\(∀k∈a,k<=99)/\Ao w wr/\wr.heap[w.hz]?=some (.cells #[Vi 0,Vi 0] 91 (0,0))/\wr.ownsRow w.hz 3 1 au a.length (AM a))
  case atStart=>exact⟨0,s.size+1,[],Yg,Yo,Yo,Yo,by rw[Bn];rfl,Ys,Ys,Mxt,QL w _,Q2 _ _ _ _⟩
  case round=>
   obtain⟨p,f,a,rfl,ap,az,ay,ac,ax,aa,F,E,G⟩:=hrel;obtain⟨la,ar,rfl⟩:=Ac G;have aq:=F.size;obtain⟨Y,Q,R,S⟩:=C7.cells (e:=0) (p:=0) E;obtain⟨m,b,t⟩:∃m b,As (s.data.toList.drop p)=(m,b):=⟨_,_,rfl⟩;have af:=Ci (s.data.toList.drop p);rw[t]at af;simp only[List.length_drop]at af;have C:=HN.o p wr Yo;rw[t]at C;have L:=hd C;have A:=hd t;have O:=hd ac;have N:=hd F;have B:=hd G;have z:=hd E;have ag:=hd aa;clear C t ac F G E aa
   by_cases hz:b=0
   ·have g:Hd (Bn s=(none,p)):=by
     show _=_
     cases f with
     |zero=>
      exfalso;omega
     |succ f=>rw[O.o,F9 _ _ _ _ (by rw[A.o];exact hz)]
    subst hz;go_wp2_with fail;apply L.o.mono;rintro e w2 ⟨rfl,rfl⟩;go_wp2;refine bodyPost_ret (v:= .tuple #[Nl,.agg #[Vi 6,Vi p]]) (by simp[results,results67,go_sem,Q,R,S,Y]) rfl ?_;exact⟨I.o _ _ _ N.o,Or.inr ⟨H,Or.inr ⟨p,g.o,rfl⟩⟩⟩
   ·have a0:p<s.size:=Yo
    obtain⟨l,rfl⟩:∃l,f=l+1:=⟨f-1,Yo⟩;have g:Hd (Bn s=DP l (s.data.toList.drop (p+b)) (p+b) (a++[m])):=by
     show _=_;rw[O.o,Ge _ _ _ _ (by rw[A.o];exact hz),A.o,List.drop_drop]
    have a2:(((p+b:Nat):Int)==(p:Int))=false:=by rw[Qu];omega
    go_wp2_with fail;apply L.o.mono;rintro e w2 ⟨rfl,rfl⟩
    go_wp2_with (at_builtin;go_loud (refine Am _ rfl (.tmp 23) (.tmp 25) 25 rfl w.hz 3 infoInt underlying25 rfl Yd (.slice la a.length ar) a.length (AM a) rfl B.o _ rfl rfl rfl (DT _) ?_ ?_ ?_))
    ·omega
    ·omega
    intro a3 w3 n;obtain⟨J,K,rfl⟩:=Ac n.owns;have X:Ao w w3:=N.o.trans (n.kept.below aq (fun i e=>(B.o.lt i e).1));have D:=(n.kept.block _ (Ab z.o) (Ai B.o Yd z.o)).trans z.o;obtain⟨Z,T,U,V⟩:=C7.cells (e:=0) (p:=0) D;have ae:w3.ownsRow w.hz 3 1 (.slice J (a.length+1) K) (a++[m]).length (AM (a++[m])):=by
     have:=n.owns;simpa[AM]using this
    have x:=hd X;have M:=hd D;have P:=hd ae;clear n X D ae Q R S Y;have W:Hd (∀k∈a++[m],k<=99):=fun k d=>by
     rcases Qk.1 d with d|d
     ·exact ag.o k d
     ·simp at d;subst d;omega
    by_cases ab:p+b<s.size
    ·have hd:=B0 s (p+b) ab;have an:¬((s.size:Int)<=((p+b:Nat):Int)):=Yo
     by_cases c:s[p+b]=46
     ·have al:((s[p+b].toNat:Int) !=46)=false:=by rw[c];rfl
      have h:Hd (Bn s=D9 l (s.data.toList.drop (p+b+1)) (p+b+1) (a++[m])):=by
       show _=_;rw[g.o,hd];simp[DP,c]
      clear hd c;go_wp2
      go_roundg (s.size+1-p)
      case measure=>omega
      case rel=>exact⟨p+b+1,l,a++[m],Yg,Yo,Yo,Yo,h.o,by simp;omega,W.o,x.o,M.o,by have:=P.o;simpa using this⟩
     ·have al:((s[p+b].toNat:Int) !=46)=true:=by
       rw[bne_iff_ne];intro e;apply c;apply UInt8.toNat_inj.1;have:s[p+b].toNat=46:=Yo
       rw[this];rfl
      have h:Hd (Bn s=(none,p+b)):=by
       show _=_;rw[g.o,hd];simp[DP,c]
      clear hd c;go_wp2;refine bodyPost_ret (v:= .tuple #[Nl,.agg #[Vi 6,Vi ((p+b:Nat):Int)]]) (by simp[results,results67,go_sem,T,U,V,Z]) rfl ?_;exact⟨I.o _ _ _ x.o,Or.inr ⟨H,Or.inr ⟨p+b,h.o,rfl⟩⟩⟩
    ·have hd:=DX s (p+b) ab;have an:(s.size:Int)<=((p+b:Nat):Int):=Yo
     have h:Hd (Bn s=(some (a++[m]),0)):=by
      show _=_;rw[g.o,hd];simp[DP]
     clear hd;go_wp2;refine bodyPost_ret (v:= .tuple #[.slice J (a.length+1) K,.agg #[Vi 0,Vi 0]]) (by simp[results,results67,go_sem,T,U,V,Z]) rfl ?_;have ai:∀q r,Ad (fun j=>j=w.hz) w3 ((w3.setCell ⟨w.hz,0,none⟩ q).setCell ⟨w.hz,1,none⟩ r):=fun q r=>((Ad.refl (only w.hz) w3).put 0 _).put 1 _;have ad:=P.o;refine⟨I.o _ _ _ x.o,Or.inr ⟨H,Or.inl ⟨a++[m],J,K,h.o,Ys,?_,by simp;omega,W.o⟩⟩⟩;have am:(a++[m]).length=a.length+1:=Ys
     rw[am]at ad⊢;exact AI (By ad M.o Yd (ai (Vi 0) (Vi 0))) (Qm _)
def J0(n:Nat):Prop:=∀(w:World)(X:Np)(a b c:Value)(l:Ly)(v:Nat),l.length<=n->l.length<=4000->CH X w a b c l->(∀k,X k->k<w.heap.size)->v<=1000000->(∀s∈l,s.num<=1000000)->
 Calls prog 180 #[.agg #[a,b,c],.int .i64 v] w fun e w'=>∃a' b' c',e= .returned (.agg #[a',b',c'])/\Ao w w'/\CH X w' a' b' c' (ap (AX v) l)
theorem PP(w:World)(X:Np)(n v:Nat)(hn:n<=1000000)(d:v<=1000000):
  Calls prog 180 #[.agg #[.string ⟨#[]⟩,Vi n,Nl],Vi v] w fun e w'=>∃a b c,e= .returned (.agg #[a,b,c])/\Ao w w'/\CH X w' a b c (vr (n+v)):=by
 go_enter func180,ntmps180;go_wp2;refine bodyPost_ret (v:= .agg #[.string ⟨#[]⟩,Vi ((n+v:Nat):Int),Nl]) (by simp[results,results180,go_sem]) rfl ?_;exact⟨_,_,_,rfl,Mxt,CH.var _ _ _⟩
theorem Ny(n:Nat)(Z:J0 n)(w:World)(X:Np)(nm:Lu)(ao:nm≠[])(c:Value)(ls:Ll)(xs:Lv)(v:Nat)
  (E:Eh X w c ls xs) (ag:∀k,X k->k<w.hz) (hn:ls.flatten.length<=n) (b1:ls.flatten.length<=3999) (bh:v<=1000000) (bi:∀s∈ls.flatten,s.num<=1000000):
  Calls prog 180 #[.agg #[.string ⟨nm.toArray⟩,Vi 0,c],Vi v] w fun e w'=>∃I J K,e= .returned (.agg #[I,J,K])/\Ao w w'/\CH X w' I J K (⟨nm,0,ls.length⟩::ap (AX v) ls.flatten):=by
 obtain⟨ca,a8,rfl⟩:=Ac E.1;have av:=E.wf;have b7:ls.length<=ls.flatten.length:=BN (CF av);have aj:nm.isEmpty=false:=by simpa using ao
 have W:=hd E;have a5:=hd Z;have F:=hd ag;clear E Z ag;go_enter func180,cc;go_wp2
 go_loopg [6] (ls.length+1) (fun gk i wr=>∃(k:Nat)(L:Value)(T:Lv),i=Vi k/\k<=ls.length/\ls.length-k<gk/\Ao w wr/\
   wr.heap[w.hz]?=some (.cells #[.string ⟨nm.toArray⟩,Vi 0,.slice ca ls.length a8] 183 (0,0))/\
   wr.heap[w.hz+1]?=some (.cells #[.string ⟨#[]⟩,Vi 0,Nl] 183 (0,0))/\
   wr.heap[w.hz+1+1]?=some (.cells #[.string ⟨nm.toArray⟩,Vi 0,L] 183 (0,0))/\
   OM (A9 X w.hz 3) wr (w.hz+3) L k ((ls.take k).map (ap (AX v))) T)
 case atStart=>
  refine⟨0,Nl,[],Yg,Qm _,Yo,Mxt,?_,?_,?_,by simpa using OM.nil _ _ _⟩
  ·exact Ah (Ah (QL w _) _) _
  ·simpa using Ah (QL (w.alloc _) _) _
  ·simpa using QL ((w.alloc _).alloc _) _
 case round=>
  obtain⟨k,L,T,rfl,am,b3,ak,h0,af,M,P⟩:=hrel;obtain⟨l,m,rfl⟩:=Ac P.owns;have bg:=Ab M;obtain⟨bo,bp,bq,cf⟩:=BB h0;have f:=hd ak;have a1:=hd h0;have U:=hd af;have z:=hd M;have q:=hd P;clear ak h0 af M P
  by_cases bd:k<ls.length
  ·obtain⟨d,x⟩:∃d,ls[k]?=some d:=⟨_,Qb bd⟩;obtain⟨_,_,b6,_⟩:=G6 x av;obtain⟨I,J,K,ay,az,a0,R⟩:=W.o.2.2 k d x;obtain⟨ax,aw,aa,ac,ab,rfl,rfl,rfl⟩:=R.shape;have y:=W.o.ext (Y:=X) f.o (fun _ _ h=>h);obtain⟨g,bu,bv,al,b0,bc,b2⟩:=An y.1 Yo;simp only[QH]at al;obtain⟨rfl,_,rfl⟩:=al;have cg:wr.cell? ⟨g,k*3,none⟩=some (.string ax):=Ag y.1 _ _ ay;have ch:wr.cell? ⟨g,k*3+1,none⟩=some (Vi aw):=Ag y.1 _ _ az;have ci:wr.cell? ⟨g,k*3+2,none⟩=some (.slice aa ac ab):=Ag y.1 _ _ a0;have ba:∀s∈d,s.num<=1000000:=fun s bf=>bi s (List.mem_flatten.2 ⟨d,Qh x,bf⟩);have a3:Hd (∀H u,Ao wr u->(∀k,H k->wr.hz<=k/\k<u.hz)->Calls prog 180 #[.agg #[.string ax,Vi aw,.slice aa ac ab],Vi v] u fun e S=>
     ∃r,e= .returned r/\Ao u S/\RT (fun j=>A9 X w.hz 3 j\/Ak (.slice l k m) j) (ap (AX v) d) H r S):=fun H u au ah=>by
    have bj:Ao w u:=f.o.trans (au.mono f.o.size);have hz:=MJ (X:=X) q.o (fun k h=>(ah k h).1) f.o.size;refine(a5.o u _ _ _ _ d v Yo Yo (R.ext bj hz) ?_ bh ba).mono ?_
    ·rintro j (h|h)
     ·exact Nat.lt_of_lt_of_le (Lp q.o F.o Yo j h) au.size
     ·exact(ah j h).2
    ·rintro e S ⟨a,b,c,rfl,aj,D⟩;exact⟨_,rfl,aj,RT.of D⟩
   have a7:Hd ((ls.take (k+1)).map (ap (AX v))=(ls.take k).map (ap (AX v))++[ap (AX v) d]):=by
    show _=_;rw[List.take_add_one,x];simp
   clear bc y R ay az a0 x;go_wp2_with fail;refine(a3.o (fun _=>False) wr Mxt (fun _ h=>h.elim)).mono ?_;rintro e w1 ⟨vc,rfl,t,s2,cb,br,bt,bs,rfl,ar⟩;have O:=(t.block _ bg).trans z.o;have aq:=(Ad.of_below t).owns q.o.owns (fun k am e=>by have:=(q.o.owns.lt k am).2;omega);have a9:w1.cell? ⟨w.hz+1+1,2,none⟩=some (.slice l k m):=Aa O 2 _ rfl;have b9:=t.size;have b8:w.hz+1+1<w1.hz:=Yo
   have G:=hd aq;have A:=hd t;have a6:=hd ar;have a2:=hd O;clear aq t ar O
   go_wp2_with (at_builtin;refine Am _ rfl (.tmp 34) (.tmp 36) 146 rfl (w.hz+3) 183 infoTerm underlying146 rfl Yd _ k T rfl (G.o.alloc _) _ rfl Ys rfl Gw ?_ ?_ ?_)
   ·omega
   ·simp;omega
   intro cv' w3 B;obtain⟨ad,ae,rfl⟩:=Ac B.owns;have be:¬Ak (.slice l k m) (w.hz+1+1):=fun e=>by have:=(G.o.lt _ e).1;omega
   have C:=(B.kept.block _ Yp be).trans (Ah a2.o _);have cd:w3.cell? ⟨w.hz+1+1,2,none⟩=some (.slice l k m):=Aa C 2 _ rfl;have ce:∀i,w3.frozen? ⟨w.hz+1+1,i,none⟩=false:=fun i=>Ae C i;have a4:=hd C;have V:=hd B;clear C B a9;go_wp2
   go_roundg (ls.length-k)
   case measure=>omega
   case rel=>
    obtain⟨ai,b5⟩:=q.o.step (w4:=w3.setCell ⟨w.hz+1+1,2,none⟩ (.slice ad (k+1) ae)) (A.o.alloc A.o.size _) ((a6.o.on (fun j b4 hn _=>⟨rfl,fun h=>hn (Or.inl h)⟩)).ext Mxt (fun _ _ h=>h)) V.o
     (Ad.setCell (Ad.refl _ w3) (p:=⟨w.hz+1+1,2,none⟩) (fun _=>Or.inr (by simp only;omega)) _) (Dd F.o)
    rw[<-a7.o]at ai;have Q:=V.o.under (N:=w.hz+1+1) (A.o.alloc A.o.size _) (fun j e=>by have:=(G.o.lt j e).1;omega) Yo 2 (.slice ad (k+1) ae);exact⟨k+1,_,_,Yg,Yo,Yo,f.o.trans (Q.mono Yo),(Q.block _ Yo).trans a1.o,(Q.block _ Yo).trans U.o,Af a4.o 2 _,ai⟩
  ·have bw:wr.cell? ⟨w.hz+1+1,0,none⟩=some (.string ⟨nm.toArray⟩):=Aa z.o 0 _ rfl;have bx:wr.cell? ⟨w.hz+1+1,1,none⟩=some (Vi 0):=Aa z.o 1 _ rfl;have bz:wr.cell? ⟨w.hz+1+1,2,none⟩=some (.slice l k m):=Aa z.o 2 _ rfl;obtain⟨bk,bl,bm,bn⟩:=BB U.o;go_wp2;refine bodyPost_ret (v:= .agg #[.string ⟨nm.toArray⟩,Vi 0,.slice l k m]) (by simp[results,results180,go_sem,bk,bl,bm,bn]) rfl ?_;have bb:k=ls.length:=Yo
   subst bb;have an:=(((Ad.refl (only (w.hz+1)) wr).put 0 (.string ⟨nm.toArray⟩)).put 1 (Vi 0)).put 2 (.slice l ls.length m);refine⟨_,_,_,rfl,f.o.trans (an.below f.o.size (fun j e=>by have e:j=w.hz+1:=e;omega)),?_⟩;have D:=q.o.row (X:=X) (an.mono (fun j _ e=>Or.inr (by have e:j=w.hz+1:=e;omega))) (fun j h=>Or.inl h) (Dd F.o);rw[List.take_length]at D;have:=CH.name ao D;rw[<-EK]at this;simpa using this
theorem J8:∀n,J0 n:=by
 intro n
 induction n with
 |zero=>
  intro w X a b c l v hl _ h;have:=BN (h.wf _ (Qe _));omega
 |succ n p=>
  intro w X a b c l v hl j h i f hb;rcases h.o with⟨k,rfl,rfl,rfl,rfl⟩|⟨nm,ls,xs,d,rfl,rfl,rfl,g⟩
  ·have e:ap (AX v) [⟨[],k,0⟩]=vr (k+v):=IT _ _;rw[e];exact PP w X k v (hb ⟨[],k,0⟩ Ys) f
  ·have e:ap (AX v) (⟨nm,0,ls.length⟩::ls.flatten)=⟨nm,0,ls.length⟩::ap (AX v) ls.flatten:=by rw[Bw];simp[EG,d]
   rw[e];simp only[Qf]at hl j;exact Ny n p w X nm d c ls xs v g i Yo Yo f (fun s m=>hb s (by simp[m]))
structure G3(X:Nat->Prop)(w:World)(gs:List (List BL×Nat))(ys:List Value):Prop where
 len:ys.length=gs.length*4
 all:∀(i:Nat)(g:List BL×Nat),gs[i]?=some g->∃a b c,ys[i*4]?=some a/\ys[i*4+1]?=some b/\ys[i*4+2]?=some c/\ys[i*4+3]?=some (.int .i64 g.2)/\CH X w a b c g.1
theorem G3.one{gs:List (Ly×Nat)}(h:G3 X w gs ys):∀u∈ys,u.oneCell'=true:=by
 intro u l;obtain⟨i,hi,rfl⟩:=Q8 l;have hl:=h.len;have g:i/4<gs.length:=Yo
 obtain⟨a,b,c,o,p,q,r,k⟩:=h.all (i/4) _ (Qb g);obtain⟨s,n,ca,cl,cc,rfl,rfl,rfl⟩:=k.shape;have f:∀(j:Nat)(v:Value),ys[j]?=some v->i=j->ys[i]=v:=fun j v m e=>by subst e;exact(Qa.1 m).2
 have d:i%4=0\/i%4=1\/i%4=2\/i%4=3:=Yo
 rcases d with d|d|d|d
 ·rw[f _ _ o Yo];rfl
 ·rw[f _ _ p Yo];rfl
 ·rw[f _ _ q Yo];rfl
 ·rw[f _ _ r Yo];rfl
theorem Dq.ins{gs:List (Ly×Nat)}(h:Dq X w B cv n gs xs):G3 X w gs xs:=⟨by rw[h.owns.1,h.len],h.all⟩
theorem G3.tail{g:Ly×Nat}{gs:List (Ly×Nat)}(h:G3 X w (g::gs) ys):G3 X w gs (ys.drop 4):=by
 have hl:=h.len;simp only[Qf]at hl;refine⟨by simp;omega,fun i d f=> ?_⟩;obtain⟨a,b,c,l,m,n,o,k⟩:=h.all (i+1) d (by simpa using f);have e:∀j,(ys.drop 4)[i*4+j]?=ys[(i+1)*4+j]?:=fun j=>by
  rw[List.getElem?_drop];congr 1;omega
 refine⟨a,b,c,?_,?_,?_,?_,k⟩
 ·have:=e 0;simp only[Nat.add_zero]at this;rw[this];exact l
 ·rw[e 1];exact m
 ·rw[e 2];exact n
 ·rw[e 3];exact o
theorem Dq.more{m:Nat}{cv':Value}{gs r:List (Ly×Nat)}(h:Dq X w B cv n gs xs)(hi:G3 X w r ys)(ha:Ar w B 200 4 cv (n+m) (xs++ys) cv' w')(D:r.length=m):
  Dq X w' B cv' (n+m) (gs++r) (xs++ys):=by
 have y:∀{a b c:Value}{l:Ly},CH X w a b c l->CH X w' a b c l:=fun E=>E.on (fun k C G F=>by
  obtain⟨H,A⟩:=F;exact⟨ha.kept.block k C (Ai h.owns Yd A),G⟩)
 have I:=h.owns.1;have z:=h.len;refine⟨ha.owns,by simp[z,D],fun i s d=> ?_⟩;rcases QB i gs.length with q|q
 ·rw[Qc q]at d;obtain⟨f,o,p,t,u,v,x,g⟩:=h.all i s d;refine⟨f,o,p,?_,?_,?_,?_,y g⟩
  ·rw[Qc Yo];exact t
  ·rw[Qc Yo];exact u
  ·rw[Qc Yo];exact v
  ·rw[Qc Yo];exact x
 ·rw[Qd q]at d;obtain⟨f,o,p,t,u,v,x,g⟩:=hi.all (i-gs.length) s d;have e:∀j,(xs++ys)[i*4+j]?=ys[(i-gs.length)*4+j]?:=fun j=>by
   rw[Qd Yo];congr 1;omega
  refine⟨f,o,p,?_,?_,?_,?_,y g⟩
  ·have:=e 0;simp only[Nat.add_zero]at this;rw[this];exact t
  ·rw[e 1];exact u
  ·rw[e 2];exact v
  ·rw[e 3];exact x
theorem Ra{a e:Nat}{g:Ly×Nat}{gs:List (Ly×Nat)}(h:Dq X w B (.slice (some ⟨a,0,none⟩) (gs.length+1) e) (gs.length+1) (g::gs) xs)(c:Nat):
  Jn w 4 (.slice (some ⟨a,4,none⟩) gs.length c) gs.length (xs.drop 4):=by
 have b:=h.ins.tail;refine⟨b.len,b.one,Or.inr ⟨⟨a,4,none⟩,c,rfl,fun j u d=> ?_⟩⟩;rw[List.getElem?_drop]at d;have:=Ag h.owns (4+j) u d;have f:(⟨a,4,none⟩:Addr).add j=⟨a,4+j,none⟩:=by unfold Addr.add;split<;>simp_all
 rw[f];exact this
end Go.Proofs.YtlmjilpjmgjjcaaGreatDoor
