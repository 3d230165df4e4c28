/-
  PROVED HERE: plain facts on rows of words that lie in memory (the conditions stand in each statement).
-/
import Derived.Test.YtlmjilpjmgjjcaaGreatDoorT3
import Derived.Laws.OwnMore
set_option linter.unusedSimpArgs false
set_option linter.unusedVariables false
set_option maxRecDepth 10000
set_option maxHeartbeats 4000000
namespace Go.Proofs.YtlmjilpjmgjjcaaGreatDoor
open Go.RowKit
open Tryz
variable{w w' w1 w2 w0 wr:World}{n k B b i p size cap M rb bW x:Nat}{v cv gv vv lv:Value}{xs ys vs:Lv}{X Y S:Np}{s:ByteArray}{t e:TypeId}{fr:Nat×Nat}{P:Program}{l:Ly}{ls ts:Ll}{ρ:Nat->Nat}{σ:Nat->Ly}{cs:Lc}{c:Dt}{a:Ll×At}{ds r:Ln}{st:RS}{L:Bj}{G:Gr}{A:List Lu}
theorem I8{a0:Act}{vc:Value}{β:Nat->Nat}{lst:Nat->Bool}:∀{ops:List Oper}{kd:List Kd}{k:Nat},(pa a0 vc β lst k ops kd).tmps.size=a0.tmps.size:=by
 intro ops
 induction ops with
 |nil=>intro kd k;simp[pa]
 |cons o os a=>
  intro kd k
  cases kd with
  |nil=>simp[pa]
  |cons q b=>
   rw[pa];split
   ·cases o.dst<;>simp[Act.put,a]
   ·exact a
theorem U1{a0:Act}{vc:Value}{β:Nat->Nat}{lst:Nat->Bool}:∀{ops:List Oper}{kd:List Kd}{k i:Nat}{o:Oper}{q:Kd}{d:Nat},ops[i]?=some o->kd[i]?=some q->lst (k+i)=true->o.dst=some d->
  (∀j p,ops[j]?=some p->p.dst=some d->j=i)->d<a0.tmps.size->(pa a0 vc β lst k ops kd).tmps[d]?=some (q.val vc β (k+i)):=by
 intro ops
 induction ops with
 |nil=>intro kd k i o q d h;simp at h
 |cons p os u=>
  intro kd k i o q d c a hl hd l g
  cases kd with
  |nil=>simp at a
  |cons r v=>
   cases i with
   |zero=>
    simp at c a;subst c a;simp only[Nat.add_zero]at hl⊢;rw[pa,if_pos hl,hd];simp only[Act.put];rw[Array.getElem?_setIfInBounds_self_of_lt (by rw[I8];exact g)]
   |succ i=>
    have e:k+(i+1)=k+1+i:=Yo
    have f:=u (kd:=v) (k:=k+1) (i:=i) (by simpa using c) (by simpa using a) (by rw[<-e];exact hl) hd (fun j p' s b=>by
     have:=l (j+1) p' (by simpa using s) b;omega) g
    rw[e,pa];have n:p.dst≠some d:=fun b=>by have:=l 0 p rfl b;omega
    split
    ·cases t:p.dst with
     |none=>simpa[Act.put]using f
     |some m=>
      have:m≠d:=fun e'=>n (by rw[t,e']);simp only[Act.put];rw[Array.getElem?_setIfInBounds_ne (by exact this)];exact f
    ·exact f
def H5(T:Nat)(ops:List Oper)(kd:List Kd)(ic fi:Nat):Bool:=
 ops.length==kd.length&&
 (List.range ops.length).all fun i=>match ops[i]?,kd[i]? with
  |some o,some q=>
   (match o.guard with
    |none=>true
    |some (j,b)=>Bl o j&&(match kd[j]?,ops[j]? with
     |some (.pur (.bool c)),some p=>c==b&&(match p.dst with|some d=>decide (d<T)|none=>false)
     |_,_=>false))&&(match o.op with| .select .. =>false|_=>true)&&
   (o.after.all fun e=> !Region.binds .any e||e.on<i)&&
   ((List.range ops.length).all fun j=>match ops[j]? with
    |some p=>match p.dst with
     |some d=>((j==i)||(o.dst !=some d))&&(!(o.looksAt ops.toArray).contains d||Bl o j)
     |none=>true
    |none=>true)&&
   (match q with
    | .pur _=>(List.range ops.length).any fun j=>i<j&&(match ops[j]?,kd[j]? with|some p,some r=>Bl p i&&M6 r|_,_=>false)
    | .cal=>i==ic
    | .post _=>(List.range i).any fun j=>Bl o j&&(match kd[j]? with|some r=>Cu r|none=>false)
    | .alo .. =>false
    | .sto _=>i==fi&&o.dst.isNone&&((List.range i).any fun j=>Bl o j&&(match kd[j]? with|some r=>Cu r|none=>false)))
  |_,_=>false
structure Tw(T:Nat)(ops:List Oper)(kd:List Kd)(ic fi i:Nat)(o:Oper)(q:Kd):Prop where
 gd:o.guard=none\/∃j b p d,o.guard=some (j,b)/\Bl o j=true/\kd[j]?=some (.pur (.bool b))/\ops[j]?=some p/\p.dst=some d/\d<T
 sel:∀cs b,o.op≠.select cs b
 low:∀e∈o.after,Region.binds .any e=true->e.on<i
 dst:∀j p d,ops[j]?=some p->p.dst=some d->j=i\/o.dst≠some d
 look:∀j p d,ops[j]?=some p->p.dst=some d->d∈o.looksAt ops.toArray->Bl o j=true
 pur:∀c,q= .pur c->∃j p r,i<j/\ops[j]?=some p/\kd[j]?=some r/\Bl p i=true/\M6 r=true
 cal:q= .cal->i=ic
 post:B9 q=true->∃j r,Bl o j=true/\kd[j]?=some r/\Cu r=true
 alo:∀t z s cs,q≠.alo t z s cs
 sto:∀k,q= .sto k->i=fi/\o.dst=none
theorem KI{T:Nat}{ops:List Oper}{kd:List Kd}{D x:Nat}(h:H5 T ops kd D x=true){o:Oper}(A:ops[i]?=some o):∃q,kd[i]?=some q/\Tw T ops kd D x i o q:=by
 unfold H5 at h;simp only[Q6,List.all_eq_true,List.mem_range,beq_iff_eq]at h;obtain⟨hl,h⟩:=h;have hi:=(Qa.1 A).1;have h:=h i hi;rw[A]at h
 cases C:kd[i]? with
 |none=>rw[C]at h;simp at h
 |some q=>
  rw[C]at h;simp only[Q6,List.all_eq_true,List.mem_range]at h;obtain⟨⟨⟨⟨w,y⟩,E⟩,z⟩,l⟩:=h;have B:∀(b:Bool),((List.range i).any fun j=>Bl o j&&(match kd[j]? with|some r=>Cu r|none=>false))=true->∃j r,Bl o j=true/\kd[j]?=some r/\Cu r=true:=by
   intro _ h;simp only[List.any_eq_true,List.mem_range,Q6]at h;obtain⟨j,_,n,a⟩:=h
   cases m:kd[j]? with
   |none=>rw[m]at a;simp at a
   |some r=>rw[m]at a;exact⟨j,r,n,m,a⟩
  refine⟨q,rfl,?_,?_,?_,?_,?_,?_,?_,?_,?_,?_⟩
  ·cases H:o.guard with
   |none=>exact Or.inl rfl
   |some K=>
    obtain⟨j,b⟩:=K;rw[H]at w;simp only[Q6]at w;obtain⟨n,a⟩:=w
    cases v:kd[j]? with
    |none=>rw[v]at a;simp at a
    |some r=>
     cases f:ops[j]? with
     |none=>rw[v,f]at a;cases r<;>simp at a
     |some p=>
      rw[v,f]at a
      cases r with
      |pur c=>
       cases c with
       |bool c=>
        simp only[Q6,beq_iff_eq]at a;obtain⟨F,u⟩:=a
        cases hd:p.dst with
        |none=>rw[hd]at u;simp at u
        |some d=>
         rw[hd]at u;subst F;exact Or.inr ⟨j,c,p,d,rfl,n,v,f,hd,by simpa using u⟩
       |_=>simp at a
      |_=>simp at a
  ·intro cs b e;rw[e]at y;simp at y
  ·intro e G hb;have:=Array.all_eq_true_iff_forall_mem.1 E e G;simpa[hb]using this
  ·intro j p d f hd;have:=z j (Qa.1 f).1;rw[f]at this;simp only[hd,Q6,Bool.or_eq_true,beq_iff_eq,bne_iff_ne]at this;exact this.1
  ·intro j p d f hd J;have:=z j (Qa.1 f).1;rw[f]at this;simp only[hd,Q6,Bool.or_eq_true,beq_iff_eq,bne_iff_ne]at this;rcases this.2 with h|h
   ·simp[J]at h
   ·exact h
  ·intro c e;subst e;simp only[List.any_eq_true,List.mem_range,Q6]at l;obtain⟨j,I,n,a⟩:=l;have f:ops[j]?=some ops[j]:=Qb I
   cases m:kd[j]? with
   |none=>rw[f,m]at a;simp at a
   |some r=>
    rw[f,m]at a;simp only[Q6]at a;exact⟨j,_,r,by simpa using n,f,m,a.1,a.2⟩
  ·intro e;subst e;simpa using l
  ·intro f
   cases q with
   |post g=>exact B true l
   |sto k=>
    simp only[Q6]at l;exact B true l.2
   |_=>simp[B9]at f
  ·intro t L s cs e;subst e;simp at l
  ·intro k e;subst e;simp only[Q6,beq_iff_eq]at l;exact⟨l.1.1,by simpa using l.1.2⟩
theorem Fp{ops:List Oper}{b0:Nat}{a5:Exit->Act->World->Prop}{a0:Act}(bp:P.follows .mixedOrders=true)(kd:List Kd)(D A:Nat)(S:H5 a0.tmps.size ops kd D A=true)
  (W X:Value->World->Prop) (f:FuncId) (args:Av)
  (bf:Calls P f args w.drew (fun e bc=>∃v,e= .returned v/\W v bc))
  (bq:KR P w.drew (fun vc=>B4 a0 ops kd vc Fn) W X f args ops kd)
  (bk:kd[D]?=some .cal) (am:D<ops.length) (al:(∃k,kd[A]?=some (.sto k))\/(ops.length<=A/\∀v u,W v u->X v u))
  (bg:∀vc u,X vc u->a5 .normal (B4 a0 ops kd vc Fn) u):
  (Code.region b0 ops.toArray true).wp P a5 a0 w:=by
 have b4:ops.length=kd.length:=by
  unfold H5 at S;simp only[Q6,beq_iff_eq]at S;exact S.1
 have aa:∀{m:Nat}{B:Kd},kd[m]?=some B->∃H,ops[m]?=some H/\Tw a0.tmps.size ops kd D A m H B:=fun{m B} y=>by
  have C:=Qb (l:=ops) (i:=m) (by have:=(Qa.1 y).1;omega);obtain⟨b6,a2,au⟩:=KI S C;rw[y]at a2;simp at a2;subst a2;exact⟨_,C,au⟩
 refine wp_region_any bp (Gz (J:=P0 ops kd D A a0 w.drew W X) ?_ ?_ _ _ _ _ ?_ ?_)
 ·intro L a u i O av;obtain⟨af,ax,vc,rfl,a4,R,ad⟩:=av;obtain⟨h0,o,T,_⟩:=mem_ready.1 O;have C:ops[i]?=some o:=by simpa using T
  have hi:i<ops.length:=(Qa.1 C).1;have am:i<L.size:=Yo
  have ap:L.getD i false=false:=by simp[am]at h0⊢;exact h0
  obtain⟨q,ae,F⟩:=KI S C;have aj:=bq.at C ae;have bl:execOp (pa a0 vc Fn (fun j=>L.getD j false) 0 ops kd).eval o=execOp (B4 a0 ops kd vc Fn).eval o:=by
   refine execOp_congr o F.sel (fun x bx=>Kt (fun j p ac hl d hd e=> ?_));subst e;have bv:=F.look j p d ac hd (Q9 _ (List.mem_filterMap.2 ⟨.tmp d,by simpa using bx,rfl⟩));have:=Be O C bv;simp only[Nat.zero_add]at hl;rw[hl]at this;simp at this
  have bw:Region.wanted o (yielded ops.toArray (pa a0 vc Fn (fun j=>L.getD j false) 0 ops kd).tmps)=true:=by
   rcases F.gd with az|⟨j,b,p,d,az,y,z,I,Y,ai⟩
   ·simp[Region.wanted,az]
   ·obtain⟨H,T,K⟩:=aa z;rw[I]at T;simp only[Qo]at T;subst T;have bt:=U1 (a0:=a0) (vc:=vc) (β:=Fn) (lst:=fun j=>L.getD j false) (k:=0) I z (by simpa using Be O C y) Y (fun b1 p' aq ar=>by
     rcases K.dst b1 p' d aq ar with h|h
     ·exact h
     ·exact absurd Y h) ai
    have bz:yielded ops.toArray (pa a0 vc Fn (fun j=>L.getD j false) 0 ops kd).tmps j=some b:=by
     unfold yielded;simp only[List.getElem?_toArray,I,Option.bind_some,Y,bt,Kd.val]
    unfold Region.wanted;rw[az];simp only;rw[bz];simp
  have Q:=E7 am;have ao:∀V,(∀j r,kd[j]?=some r->L.getD j false=true->r.val vc Fn j=r.val V Fn j)->
    (pa a0 vc Fn (fun j=>L.getD j false) 0 ops kd).put o.dst (q.val V Fn i)=pa a0 V Fn (fun j=>(L.setIfInBounds i true).getD j false) 0 ops kd:=by
   intro V bu;have be:pa a0 vc Fn (fun j=>L.getD j false) 0 ops kd=pa a0 V Fn (fun j=>L.getD j false) 0 ops kd:=CV (fun j r U=>by
    simp only[Nat.zero_add];exact⟨trivial,fun hl=>bu j r U hl⟩)
   rw[be];have a6:=Lq (a0:=a0) (vc:=V) (β:=Fn) (lst:=fun j=>L.getD j false) (k:=0) C ae (by simpa using ap) F.dst;simp only[Nat.zero_add]at a6;rw[<-a6];exact CV (fun j r U=>⟨by simp only[Nat.zero_add,Q],fun _=>rfl⟩)
  have N:∀j,L.getD j false=true->(L.setIfInBounds i true).getD j false=true:=fun j h=>by rw[Q,h];rfl
  have ab:∀j,j≠i->(L.setIfInBounds i true).getD j false=L.getD j false:=fun j h=>by
   rw[Q];have:(j==i)=false:=by rw[Qu];exact h
   simp[this]
  have an:∀{m:Nat}{B:Kd},kd[m]?=some B->B≠q->m≠i:=fun{m B} y z e=>by
   subst e;rw[ae]at y;exact z (Option.some.inj y).symm
  have ak:∀(m:Nat) H,ops[m]?=some H->(L.setIfInBounds i true).getD m false=true->∀j,Bl H j=true->(L.setIfInBounds i true).getD j false=true:=by
   intro m H y z j Z
   by_cases e:m=i
   ·subst e;rw[C]at y;simp at y;subst y;exact N _ (Be O C Z)
   ·exact N _ (ax m H y ((ab m e).symm.trans z) j Z)
  have br:B9 q=false->∀(m:Nat) B,kd[m]?=some B->(L.setIfInBounds i true).getD m false=true->B9 B=true->(L.setIfInBounds i true).getD D false=true:=fun ac m B y z I=>
   N _ (ad m B y ((ab m (an y (fun e=>by rw[e,ac]at I;simp at I))).symm.trans z) I)
  have a9:B9 q=true->L.getD D false=true:=fun ac=>by
   obtain⟨j,r,y,z,I⟩:=F.post ac;have Z:=Be O C y
   cases r with
   |post g=>exact ad j _ z Z rfl
   |cal=>
    obtain⟨H,_,K⟩:=aa z;have:=K.cal rfl;rw[<-this];exact Z
   |_=>simp[Cu]at I
  --the reads stand ahead of the call
  have bj:∀(n:Nat)(m:Nat) c,ops.length-m<=n->kd[m]?=some (.pur c)->L.getD D false=true->L.getD m false=true:=by
   intro n
   induction n with
   |zero=>
    intro m c hn y _;have:=(Qa.1 y).1;omega
   |succ n ag=>
    intro m c hn y z;obtain⟨H,_,K⟩:=aa y;obtain⟨j,p,r,I,Y,ai,aq,ar⟩:=K.pur c rfl;have bo:L.getD j false=true:=by
     cases r with
     |pur bd=>exact ag j bd Yo ai z
     |cal=>
      obtain⟨b5,_,au⟩:=aa ai;rw[au.cal rfl];exact z
     |_=>simp[M6]at ar
    exact ax j p Y bo m aq
  unfold wpOp;simp only[T];rw[if_pos bw];refine Or.inl ?_;unfold Oper.wp;rw[bl]
  cases q with
  |pur c=>
   have M:L.getD D false=false:=by
    cases h:L.getD D false with
    |false=>rfl
    |true=>
     have:=bj _ i c (Qe _) ae h;rw[ap]at this;simp at this
   have G:D≠i:=an bk Ys;have a3:=a4 M;subst a3;rw[aj vc];refine⟨by simpa using af,ak,vc,ao vc (fun _ _ _ _=>rfl),fun _=>rfl,?_,br rfl⟩;intro h;rw[ab D G,M]at h;simp at h
  |post g=>
   have G:=a9 rfl;have ay:A≠i:=by
    rcases al with⟨k,E⟩|⟨E,_⟩
    ·exact an E Ys
    ·omega
   have bi:W vc u\/X vc u:=by
    cases h:L.getD A false with
    |false=>exact Or.inl ((R G).1 h)
    |true=>exact(R G).2.1 h
   rw[aj vc u bi];refine⟨by simpa using af,ak,vc,ao vc (fun _ _ _ _=>rfl),?_,?_,fun m B _ _ _=>N _ G⟩
   ·intro h;have:=N _ G;rw[h]at this;simp at this
   ·intro _;rw[ab A ay];exact R G
  |cal=>
   have a1:=F.cal rfl;have M:L.getD D false=false:=by rw[<-a1];exact ap
   have a3:=a4 M;subst a3;rw[aj vc];apply bf.mono;rintro e bc ⟨v,rfl,U⟩;have bm:L.getD A false=false:=by
    rcases al with⟨k,E⟩|⟨E,_⟩
    ·cases h:L.getD A false with
     |false=>rfl
     |true=>
      have:=ad A _ E h rfl;rw[M]at this;simp at this
    ·have:¬A<L.size:=Yo
     simp[this]
   have ay:A≠i:=by
    rcases al with⟨k,E⟩|⟨E,_⟩
    ·exact an E Ys
    ·omega
   refine⟨by simpa using af,ak,v,ao v ?_,?_,?_,?_⟩
   ·intro j r y z
    cases r with
    |post g=>
     have:=ad j _ y z rfl;rw[M]at this;simp at this
    |cal=>
     obtain⟨H,_,K⟩:=aa y;have:=K.cal rfl;rw[this,M]at z;simp at z
    |_=>rfl
   ·intro h;rw[<-a1,Q]at h;simp at h
   ·intro _;rw[ab A ay,bm];exact⟨fun _=>U,fun h=>by simp at h,fun h=>by simp at h⟩
   ·intro m B _ _ _;rw[<-a1,Q];simp
  |alo t b2 s cs=>exact absurd rfl (F.alo t b2 s cs)
  |sto k=>
   have G:=a9 rfl;obtain⟨bb,b3⟩:=F.sto k rfl;obtain⟨w',bs,a8⟩:=aj vc u ((R G).1 (by rw[<-bb];exact ap));rw[bs];refine⟨by simpa using af,ak,vc,ao vc (fun _ _ _ _=>rfl),?_,?_,fun m B _ _ _=>N _ G⟩
   ·intro h;have:=N _ G;rw[h]at this;simp at this
   ·intro _;refine⟨fun h=> ?_,fun _=>Or.inr a8,fun _ _=>a8⟩;rw[<-bb,Q]at h;simp at h
 ·intro L a u O av;obtain⟨af,ax,vc,rfl,a4,R,ad⟩:=av;have aw:∀i,i<ops.length->L.getD i false=true:=by
   intro i
   induction i using Nat.strongRecOn with
   |_ i ag=>
    intro hi
    cases hl:L.getD i false with
    |true=>rfl
    |false=>
     exfalso;have C:ops[i]?=some ops[i]:=Qb hi;obtain⟨q,ae,F⟩:=KI S C;have:i∈Region.ready .any ops.toArray L:=by
      refine mem_ready.2 ⟨?_,ops[i],Ys,fun e ba hb=>ag e.on (F.low e ba hb) (by have:=F.low e ba hb;omega)⟩;have bn:i<L.size:=Yo
      simp[bn]at hl⊢;exact hl
     rw[O]at this;simp at this
  have e:pa a0 vc Fn (fun j=>L.getD j false) 0 ops kd=B4 a0 ops kd vc Fn:=CV (fun j r U=>⟨by
   simp only[Nat.zero_add];exact aw j (by have:=(Qa.1 U).1;omega),fun _=>rfl⟩)
  rw[e];have a7:=R (aw D am);refine bg vc u ?_;rcases al with⟨k,E⟩|⟨E,bh⟩
  ·exact a7.2.2 (aw A (by have:=(Qa.1 E).1;omega)) ⟨k,E⟩
  ·refine bh _ _ (a7.1 ?_);have:¬A<L.size:=Yo
   simp[this]
 ·have:(ops.toArray).size=ops.length:=Ys
  unfold Xn;exact Qq (List.length_filter_le _ _) Ys
 ·have hz:∀j,(Array.replicate ops.toArray.size false).getD j false=false:=fun j=>by
   simp only[Array.getD_eq_getD_getElem?,Array.getElem?_replicate];split<;>rfl
  refine⟨Ys,?_,undef,?_,fun _=>rfl,?_,?_⟩
  ·intro i o _ h;rw[hz]at h;simp at h
  ·have:∀(k:Nat)(os:List Oper)(ah:List Kd),pa a0 undef Fn (fun j=>(Array.replicate ops.toArray.size false).getD j false) k os ah=a0:=by
    intro k os
    induction os generalizing k with
    |nil=>intro ah;simp[pa]
    |cons o os ag=>
     intro ah
     cases ah with
     |nil=>simp[pa]
     |cons q ah=>rw[pa,hz];simp only[Bool.false_eq_true,if_false];exact ag _ _
   exact(this _ _ _).symm
  ·intro h;rw[hz]at h;simp at h
  ·intro i q _ h;rw[hz]at h;simp at h
def gr(cs:List AR):Gr:=⟨cs.length,fun i=>((cs[i]?).map AR.sym).getD ⟨[],0,0⟩,fun i=>((cs[i]?).map AR.kids).getD []⟩
theorem OB(cs:List AR)(x y:Nat):gr (turn cs x y)=gr cs:=by
 unfold gr;rw[Gn]
 congr 1
 ·funext i
  rw[G4]
  cases cs[i]? with
  |none=>rfl
  |some c=>simp;split<;>rfl
 ·funext i
  rw[G4]
  cases cs[i]? with
  |none=>rfl
  |some c=>simp;split<;>rfl
theorem Cv{cs:List AR}{c:AR}(h:cs[i]?=some c):(gr cs).hd i=c.sym/\(gr cs).kids i=c.kids:=by simp[gr,h]
theorem CT(w:World)(g n a i:Nat)(u:Value):Ad (Ak (.slice (some ⟨g,0,none⟩) n a)) w (w.setCell ⟨g,i,none⟩ u):=(Ad.refl _ w).setCell (p:=⟨g,i,none⟩) (fun _=>(rfl:some g=some g)) u
theorem Wa{cs d:List AR}(h:gr d=gr cs){c a:AR}(f:cs[i]?=some c)(g:d[i]?=some a):a.sym=c.sym/\a.kids=c.kids:=by
 have e:=Cv f;have b:=Cv g;rw[h]at b;exact⟨b.1.symm.trans e.1,b.2.symm.trans e.2⟩
theorem Ve{cs a:List AR}(h:gr a=gr cs):a.length=cs.length:=congrArg Gr.n h
theorem GE{l:List Nat}(h:l[k]?=some n):l.take (k+1)=l.take k++[n]:=by rw[List.take_add_one,h];rfl
theorem HU{l:List Nat}(h:l[k]?=some n):l=l.take k++n::l.drop (k+1):=by
 obtain⟨a,e⟩:=Qa.1 h;have:=QC a;rw[e]at this;rw[<-this,List.take_append_drop]
def II(m:Nat):Prop:=∀(w:World)(B:Nat)(lv:Value)(cs:List AR)(vs:Lv)(ρ rk:Nat->Nat)(a b:Nat),Bd w B lv cs vs->Fa cs ρ rk->(gr cs).Ok->BW cs<=m->a<cs.length->b<cs.length->cs.length<=4000->(∀(i:Nat),((gr cs).kids i).length<=4000)->
 Calls prog 211 #[lv,.int .i64 a,.int .i64 b] w fun e w'=>∃(q:Bool)(cs':List AR)(ρ' rk':Nat->Nat),e= .returned (.bool q)/\Bd w' B lv cs' vs/\gr cs'=gr cs/\Fa cs' ρ' rk'/\BW cs'<=BW cs/\Ad (Ak lv) w w'/\
  (q=true->Bg (gr cs) ρ ρ' [a] [b])/\(q=false->Ew (gr cs) ρ [a] [b])
theorem PO(m:Nat)(bl:∀k,k<m->II k):II m:=by
 intro w B dz cs vs r ah a b h af bs b7 ha hb hl a4;have bf:=hd a4;clear a4;have X:=af.rt;have t:=X.lt a ha;have C:=X.lt b hb;have bb:=X.idem a ha;have bc:=X.idem b hb;obtain⟨x,au⟩:=Ex (r a);obtain⟨y,aw⟩:=Ex (r b);rw[<-au]at t bb;rw[<-aw]at C bc;obtain⟨g,A,c,d0,rfl,bu,J,ds,dx,dt,c1,c2,c3,c4,c6,a6⟩:=h.at t;obtain⟨dp,df,d,d2,bz,bw,Q,_,_,_,c7,c8,c9,da,dc,a7⟩:=h.at C;simp only[QH,Qo,Addr.mk.injEq]at bz;obtain⟨⟨rfl,_⟩,_,rfl⟩:=bz;obtain⟨d4,c5,rfl⟩:=Ac a6;obtain⟨d5,db,rfl⟩:=Ac a7;have O:=hd (LT w B _ cs vs r ah a h af ha hl);have P:=hd (LT w B _ cs vs r ah b h af hb hl);rw[<-au]at O;rw[<-aw]at P;have R:=hd h;have D:=hd af;have z:=hd bs;have cl:=hd b7;have S:=hd X;have ch:=hd bl;have U:=hd au;have V:=hd aw;have T:=hd bb;have Y:=hd bc;have f:=hd bu;have p:=hd bw;have dd:=hd a6;have cm:=hd J;have cn:=hd Q;have de:=hd a7;clear h af bs b7 X bl au aw bb bc bu bw a6 a7 J Q
 by_cases av:x=y
 ·have c0:((x:Int)==(y:Int))=true:=by rw[beq_iff_eq];omega
  have s:=hd av;clear av;go_enter func211,ag;go_wp2_with fail;apply O.o.mono;rintro e w1 ⟨rfl,rfl⟩;go_wp2_with fail;apply P.o.mono;rintro e w1 ⟨rfl,rfl⟩;go_wp2;go_ret;exact⟨true,cs,r,ah,rfl,R.o,rfl,D.o,Qe _,Ad.refl _ _,fun _=>Bg.same S.o (U.o.symm.trans (s.o.trans V.o)),Ys⟩
 ·have c0:((x:Int)==(y:Int))=false:=by rw[Qu];omega
  have s:=hd av;clear av
  by_cases J:c.sym.name=[]
  ·have cy:c.sym.name.isEmpty=true:=by simpa using J
   go_enter func211,ag;go_wp2_with fail;apply O.o.mono;rintro e w1 ⟨rfl,rfl⟩;go_wp2_with fail;apply P.o.mono;rintro e w1 ⟨rfl,rfl⟩;go_wp2;go_ret;refine⟨true,turn cs x y,mg r x y,_,rfl,R.o.turn t y,OB _ _ _,D.o.turn t C T.o Y.o s.o,?_,CT _ _ _ _ _ _,fun _=>Bg.var S.o ha hb (Or.inl ⟨U.o,V.o⟩) s.o (by rw[(Cv f.o).1];exact J),Ys⟩;obtain⟨br,K,L,_⟩:=D.o.root _ x c (Qe _) f.o;rw[T.o]at K L;exact Nat.le_of_lt (Fs K L s.o)
  ·have cy:c.sym.name.isEmpty=false:=by simpa using J
   by_cases Q:d.sym.name=[]
   ·have cz:d.sym.name.isEmpty=true:=by simpa using Q
    go_enter func211,ag;go_wp2_with fail;apply O.o.mono;rintro e w1 ⟨rfl,rfl⟩;go_wp2_with fail;apply P.o.mono;rintro e w1 ⟨rfl,rfl⟩;go_wp2;go_ret;refine⟨true,turn cs y x,mg r y x,_,rfl,R.o.turn C x,OB _ _ _,D.o.turn C t Y.o T.o (fun e=>s.o e.symm),?_,CT _ _ _ _ _ _,fun _=>Bg.var S.o ha hb (Or.inr ⟨V.o,U.o⟩) (fun e=>s.o e.symm) (by rw[(Cv p.o).1];exact Q),Ys⟩;obtain⟨br,K,L,_⟩:=D.o.root _ y d (Qe _) p.o;rw[Y.o]at K L;exact Nat.le_of_lt (Fs K L (fun e=>s.o e.symm))
   ·have cz:d.sym.name.isEmpty=false:=by simpa using Q
    have cf:Hd (c.sym.args=c.kids.length):=by have:=z.o.ar x t;rw[(Cv f.o).1,(Cv f.o).2]at this;exact this
    have cg:Hd (d.sym.args=d.kids.length):=by have:=z.o.ar y C;rw[(Cv p.o).1,(Cv p.o).2]at this;exact this
    have bd:Hd ((c.sym.name≠d.sym.name\/c.kids.length≠d.kids.length)->Ew (gr cs) r [a] [b]):=fun h=>by
     refine Hv z.o S.o ha hb (Or.inl ⟨U.o,V.o⟩) (by rw[(Cv f.o).1];exact J) (by rw[(Cv p.o).1];exact Q) ?_;rw[(Cv f.o).1,(Cv p.o).1,cf.o,cg.o];exact h
    by_cases ao:c.sym.name=d.sym.name
    ·by_cases an:c.kids.length=d.kids.length
     ·have a5:(c.kids.length:Int)=d.kids.length:=Yo
      have bg:=hd an;have bh:=hd ao;have a4:c.kids.length<=4000:=by have:=bf.o x;rw[(Cv f.o).2]at this;exact this
      have cr:Hd (BW (turn cs x y)<BW cs):=by
       obtain⟨br,K,L,_⟩:=D.o.root _ x c (Qe _) f.o;rw[T.o]at K L;exact Fs K L s.o
      go_enter func211,ag;go_wp2_with fail;apply O.o.mono;rintro e w1 ⟨rfl,rfl⟩;go_wp2_with fail;apply P.o.mono;rintro e w1 ⟨rfl,rfl⟩;go_wp2_with fail;go_quiet (fail);go_wp2
      go_loopg [9] (c.kids.length+1) (fun gk i wr=>∃(k:Nat)(E:List AR)(H ax:Nat->Nat),i=Vi k/\k<=c.kids.length/\c.kids.length-k<gk/\Bd wr B (.slice (some ⟨g,0,none⟩) cs.length A) E vs/\gr E=gr cs/\Fa E H ax/\BW E<BW cs/\
       Ad (Ak (.slice (some ⟨g,0,none⟩) cs.length A)) w1 wr/\Bg (gr cs) (mg r x y) H (c.kids.take k) (d.kids.take k))
      case atStart=>
       exact⟨0,turn cs x y,mg r x y,_,rfl,Qm _,Yo,Bd.turn (w:=w1.drewN nq) (R.o.ext (fun _ _=>rfl)) t y,OB _ _ _,D.o.turn t C T.o Y.o s.o,cr.o,((Ad.refl _ w1).drewN nq).trans (CT _ _ _ _ _ _),Bg.nil (by have:=(D.o.turn t C T.o Y.o s.o).rt;rw[Gn]at this;exact this)⟩
      case round=>
       obtain⟨k,E,H,ax,rfl,dy,dw,am,ac,b9,b8,b6,W⟩:=hrel;have al:=Ve ac;obtain⟨dq,dg,dm,d1,b0,bv,a9,_,_,_,_,_,ca,_,_,ad⟩:=am.at (i:=x) Yo;obtain⟨dr,dh,dn,d3,b1,bx,ba,_,_,_,_,_,cb,_,_,ae⟩:=am.at (i:=y) Yo;simp only[QH,Qo,Addr.mk.injEq]at b0 b1;obtain⟨⟨rfl,_⟩,cw,rfl⟩:=b0;obtain⟨⟨rfl,_⟩,cx,rfl⟩:=b1;clear cw cx;rw[cm.o]at a9;rw[cn.o]at ba;simp only[Qo]at a9 ba;subst a9 ba;rw[(Wa ac f.o bv).2]at ad;rw[(Wa ac p.o bx).2]at ae;have be:=hd am;have ai:=hd ac;have bk:=hd b9;have a0:=hd b8;have az:=hd b6;have ay:=hd W;clear am ac b9 b8 b6 W bv bx c1 c2 c3 c4 c6 c7 c8 c9 da dc
       by_cases a8:k<c.kids.length
       ·obtain⟨F,ap⟩:∃n,c.kids[k]?=some n:=⟨_,Qb a8⟩;obtain⟨G,aq⟩:∃n,d.kids[k]?=some n:=⟨_,Qb (bg.o▸a8)⟩;obtain⟨a1,di,dk,b2,_,_,du⟩:=An ad Yo;simp only[QH]at b2;obtain⟨rfl,_,rfl⟩:=b2;obtain⟨a2,dj,dl,b3,_,_,dv⟩:=An ae Yo;simp only[QH]at b3;obtain⟨rfl,_,rfl⟩:=b3;have cc:wr.cell? ⟨a1,k,none⟩=some (Vi F):=Ag ad k _ (by simp[AM,ap]);have cd:wr.cell? ⟨a2,k,none⟩=some (Vi G):=Ag ae k _ (by simp[AM,aq]);have cu:F<E.length:=by
         have:=z.o.kl x t F (by rw[(Cv f.o).2];exact Qh ap);rw[al];exact this
        have cv:G<E.length:=by
         have:=z.o.kl y C G (by rw[(Cv p.o).2];exact Qh aq);rw[al];exact this
        have ce:=hd (ch.o (BW E) (by have:=cl.o;have:=a0.o;omega) wr.drew B (.slice (some ⟨g,0,none⟩) cs.length A) E vs H ax F G (be.o.ext (fun _ _=>rfl)) bk.o (by rw[ai.o];exact z.o) (Qe _) cu cv Yo (by rw[ai.o];exact bf.o));have bi:=hd ap;have bj:=hd aq;have ct:k<d.kids.length:=Yo
        clear ad ae ap aq al an a5 ao;go_wp2_with fail;refine Fp Yk [.pur (.slice (some ⟨g,0,none⟩) cs.length A),.pur (.slice (some ⟨g,0,none⟩) cs.length A),.pur (Vi x),.pur (.pointer (some ⟨g,x*4,none⟩)),.pur (.pointer (some ⟨g,x*4+2,none⟩)),.pur (.slice (some ⟨a1,0,none⟩) c.kids.length c5),.pur (Vi k),.pur (.pointer (some ⟨a1,k,none⟩)),.pur (Vi F),
         .pur (.slice (some ⟨g,0,none⟩) cs.length A),.pur (Vi y),.pur (.pointer (some ⟨g,y*4,none⟩)),.pur (.pointer (some ⟨g,y*4+2,none⟩)),.pur (.slice (some ⟨a2,0,none⟩) d.kids.length db),.pur (Vi k),.pur (.pointer (some ⟨a2,k,none⟩)),.pur (Vi G),.cal,.post (fun v=>v)] 17 19 Yk
         (fun v u=>∃(q:Bool)(l:List AR)(I N:Nat->Nat),v= .bool q/\Bd u B (.slice (some ⟨g,0,none⟩) cs.length A) l vs/\gr l=gr cs/\Fa l I N/\BW l<BW cs/\Ad (Ak (.slice (some ⟨g,0,none⟩) cs.length A)) wr u/\
          (q=true->Bg (gr cs) H I [F] [G])/\(q=false->Ew (gr cs) H [F] [G]))
         (fun v u=>∃(q:Bool)(l:List AR)(I N:Nat->Nat),v= .bool q/\Bd u B (.slice (some ⟨g,0,none⟩) cs.length A) l vs/\gr l=gr cs/\Fa l I N/\BW l<BW cs/\Ad (Ak (.slice (some ⟨g,0,none⟩) cs.length A)) wr u/\
          (q=true->Bg (gr cs) H I [F] [G])/\(q=false->Ew (gr cs) H [F] [G])) 211 #[.slice (some ⟨g,0,none⟩) cs.length A,Vi F,Vi G] ?_ ?_ rfl Yd (Or.inr ⟨Yd,fun _ _ h=>h⟩) ?_
        ·apply ce.o.mono;rintro e u ⟨q,l,I,N,rfl,aj,Z,ak,a3,M,aa,ab⟩;rw[ai.o]at Z aa ab;exact⟨_,rfl,q,l,I,N,rfl,aj,Z,ak,by have:=a0.o;omega,⟨M.os,M.tape,M.output,M.size,M.block⟩,aa,ab⟩
        ·refine⟨fun vc=> ?_,fun vc=> ?_,fun vc=> ?_,fun vc=> ?_,fun vc=> ?_,fun vc=> ?_,fun vc=> ?_,fun vc=> ?_,fun vc=> ?_,fun vc=> ?_,fun vc=> ?_,fun vc=> ?_,fun vc=> ?_,fun vc=> ?_,fun vc=> ?_,fun vc=> ?_,fun vc=> ?_,fun vc=> ?_,?_,trivial⟩
         all_goals try(simp[pa,Kd.val,go_sem,ca,cb,cc,cd,a8,ct,t,C];done)
         intro vc u _;simp[pa,Kd.val,go_sem]
        rintro vc w2 ⟨q,l,I,N,rfl,aj,Z,ak,a3,M,aa,ab⟩;simp only[B4,pa,Kd.val,if_true,Act.put];have bm:=hd aj;have bn:=hd Z;have bo:=hd ak;have bp:=hd a3;have bq:=hd M;have co:=hd aa;have cp:=hd ab;clear aj Z ak a3 M aa ab ca cb cc cd;have cj:Hd (∀j∈c.kids.take k,j<(gr cs).n):=fun j W=>z.o.kl x t j (by rw[(Cv f.o).2];exact List.mem_of_mem_take W);have ck:Hd (∀j∈d.kids.take k,j<(gr cs).n):=fun j W=>z.o.kl y C j (by rw[(Cv p.o).2];exact List.mem_of_mem_take W)
        cases q
        ·go_wp2;refine bodyPost_ret (v:= .bool false) (by simp[results,results211,go_sem]) rfl ?_;have bt:=Ew.snoc ay.o (cp.o trivial) (c.kids.drop (k+1)) (d.kids.drop (k+1));rw[<-HU bi.o,<-HU bj.o]at bt;refine Or.inl ⟨rfl,l,bm.o,bn.o,⟨I,N,bo.o⟩,Nat.le_of_lt bp.o,az.o.trans bq.o,?_⟩;exact LA z.o S.o ha hb (Or.inl ⟨U.o,V.o⟩) (by rw[(Cv f.o).1];exact J) (by rw[(Cv f.o).1,(Cv p.o).1];exact bh.o) (by rw[(Cv f.o).2,(Cv p.o).2];exact bt)
        ·go_wp2
         go_roundg (c.kids.length-k)
         case measure=>omega
         case rel=>
          have b4:=Bg.snoc z.o ay.o (co.o trivial) cj.o ck.o;rw[<-GE bi.o,<-GE bj.o]at b4;exact⟨k+1,l,I,N,Yg,Yo,Yo,bm.o,bn.o,bo.o,bp.o,az.o.trans bq.o,b4⟩
       ·have cq:k=c.kids.length:=Yo
        subst cq;have ci:Hd (Bg (gr cs) r H [a] [b]):=by
         have b5:=ay.o;rw[List.take_length,bg.o,List.take_length]at b5;exact Bg.name z.o S.o ha hb (Or.inl ⟨U.o,V.o⟩) s.o (by rw[(Cv f.o).1];exact J) (by rw[(Cv f.o).1,(Cv p.o).1];exact bh.o) (by rw[(Cv f.o).2,(Cv p.o).2];exact b5)
        clear ad ae al an a5 ao;go_wp2;go_ret;exact⟨true,E,H,ax,rfl,be.o,ai.o,bk.o,Nat.le_of_lt a0.o,az.o,fun _=>ci.o,Ys⟩
     ·have a5:¬(c.kids.length:Int)=d.kids.length:=Yo
      go_enter func211,ag;go_wp2_with fail;apply O.o.mono;rintro e w1 ⟨rfl,rfl⟩;go_wp2_with fail;apply P.o.mono;rintro e w1 ⟨rfl,rfl⟩;go_wp2_with fail;go_quiet (fail);go_wp2;go_ret;exact⟨false,cs,r,ah,rfl,R.o.ext (fun _ _=>rfl),rfl,D.o,Qe _,⟨rfl,rfl,rfl,Qe _,fun _ _ _=>rfl⟩,Ys,fun _=>bd.o (Or.inr an)⟩
    ·go_enter func211,ag;go_wp2_with fail;apply O.o.mono;rintro e w1 ⟨rfl,rfl⟩;go_wp2_with fail;apply P.o.mono;rintro e w1 ⟨rfl,rfl⟩;go_wp2_with fail;go_quiet (fail);go_wp2;go_ret;exact⟨false,cs,r,ah,rfl,R.o.ext (fun _ _=>rfl),rfl,D.o,Qe _,⟨rfl,rfl,rfl,Qe _,fun _ _ _=>rfl⟩,Ys,fun _=>bd.o (Or.inl ao)⟩
theorem SW(m:Nat):II m:=by
 induction m using Nat.strongRecOn with
 |_ m a=>exact PO m a
def fresh(st:List Nat):Nat:=(st.filter (fun n=>n==0)).length
theorem Ub:∀{st:List Nat}{x:Nat},st[x]?=some 0->fresh (st.set x 1)<fresh st:=by
 intro st
 induction st with
 |nil=>intro x h;simp at h
 |cons n st a=>
  intro x h
  cases x with
  |zero=>simp at h;subst h;simp[fresh]
  |succ x=>
   have:=a (x:=x) (by simpa using h);simp only[fresh,List.set_cons_succ,List.filter_cons]at this⊢;split<;>simp<;>omega
theorem Sk:∀{st:List Nat}{x:Nat},fresh (st.set x 2)<=fresh st:=by
 intro st
 induction st with
 |nil=>intro x;simp[fresh]
 |cons n st a=>
  intro x
  cases x with
  |zero=>simp[fresh,List.filter_cons];split<;>simp
  |succ x=>
   have:=a (x:=x);simp only[fresh,List.set_cons_succ,List.filter_cons]at this⊢;split<;>simp<;>omega
def dn(st:List Nat):Nat->Prop:=fun i=>st[i]?=some 2
def on(st:List Nat):Nat->Prop:=fun i=>st[i]?=some 1
theorem Bd.other{g:Nat}{a:Value}{cs:List AR}(h:Bd w B lv cs vs)(o:w.ownsRow g 3 1 a n xs)(l:∀(j:Nat)(c:AR)(v:Value),cs[j]?=some c->vs[j]?=some v->∀k,v.ownBlock=some k->¬Ak a k)
  (f:Ad (Ak a) w w'):Bd w' B lv cs vs:=
 ⟨h.len,f.owns h.owns (fun k e=>by
  obtain⟨p,m⟩:=Ay h.owns k e;exact Ai o Yd m),fun i c v b d=>f.owns (h.kids i c v b d) (fun k e=>l i c v b d k e)⟩
theorem ON(l:List Nat)(i n:Nat):(AM l).set i (Vi n)=AM (l.set i n):=by simp[AM,List.map_set]
theorem WJ{st:List Nat}(h:st[x]?=some 0)(j:Nat):on (st.set x 1) j↔on st j\/j=x:=by
 have a:=(Qa.1 h).1;unfold on;rw[List.getElem?_set]
 by_cases e:x=j
 ·subst e;simp[a]
 ·simp[e];exact fun e'=>absurd e'.symm e
theorem Ta{st:List Nat}(h:st[x]?=some 0)(j:Nat):dn (st.set x 1) j↔dn st j:=by
 have a:=(Qa.1 h).1;unfold dn;rw[List.getElem?_set]
 by_cases e:x=j
 ·subst e;rw[h];simp[a]
 ·simp[e]
theorem Ow{st:List Nat}(a:x<st.length)(j:Nat):dn (st.set x 2) j↔dn st j\/j=x:=by
 unfold dn;rw[List.getElem?_set]
 by_cases e:x=j
 ·subst e;simp[a]
 ·simp[e];exact fun e'=>absurd e'.symm e
theorem Wy{st:List Nat}(a:x<st.length)(j:Nat):on (st.set x 2) j↔on st j/\j≠x:=by
 unfold on;rw[List.getElem?_set]
 by_cases e:x=j
 ·subst e;simp[a]
 ·simp[e];exact fun _ e'=>absurd e'.symm e
theorem L2{st:List Nat}{v:Nat}(h:∀n∈st,n<=2)(b:v<=2):∀n∈st.set x v,n<=2:=by
 intro n hn;rcases List.mem_or_eq_of_mem_set hn with a|rfl
 ·exact h n a
 ·exact b
theorem CP.congr{D d:Np}{T e:Nat->Ly}(h:CP G ρ D T)(hd:∀i,d i↔D i)(f:∀i,D i->e i=T i):CP G ρ d e:=by
 refine⟨fun r a=>h.lt r ((hd r).1 a),fun r a=> ?_,fun r a k b=>(hd _).2 (h.kid r ((hd r).1 a) k b)⟩;have c:=(hd r).1 a;rw[f r c,h.tm r c]
 congr 2
 exact List.map_congr_left (fun k b=>(f _ (h.kid r c k b)).symm)
def Lg(m:Nat):Prop:=∀(w:World)(B Bs:Nat)(lv sv:Value)(cs:List AR)(vs:Lv)(ρ rk:Nat->Nat)(st:List Nat)(T:Nat->Ly)(i:Nat),Bd w B lv cs vs->Fa cs ρ rk->(gr cs).Ok->w.ownsRow Bs 3 1 sv st.length (AM st)->
 (∀(j:Nat)(c:AR)(v:Value),cs[j]?=some c->vs[j]?=some v->∀k,v.ownBlock=some k->¬Ak sv k)->st.length=cs.length->(∀n∈st,n<=2)->fresh st<=m->i<cs.length->cs.length<=4000->(∀j,((gr cs).kids j).length<=4000)->CP (gr cs) ρ (dn st) T->
 Calls prog 212 #[lv,.int .i64 i,sv] w fun e w'=>∃(qv:Value)(st':List Nat)(T':Nat->Ly),e= .returned qv/\w'.ownsRow Bs 3 1 sv st'.length (AM st')/\Ad (Ak sv) w w'/\st'.length=st.length/\
  ((qv= .bool true/\(∀n∈st',n<=2)/\fresh st'<=fresh st/\CP (gr cs) ρ (dn st') T'/\dn st' (ρ i)/\(∀j,on st' j↔on st j)/\(∀j,dn st j->dn st' j/\T' j=T j))\/(qv= .bool false/\FW (gr cs) ρ (on st) i))
theorem TJ(m:Nat)(ay:∀k,k<m->Lg k):Lg m:=by
 intro w B ao c1 c4 cs vs t bh st T i h X az W a1 be c a9 hi hl ah a0;have ak:=X.rt;have L:=ak.lt i hi;have am:=ak.idem i hi;obtain⟨x,Y⟩:=Ex (t i);rw[<-Y]at L am;obtain⟨g,bw,d,c5,rfl,a3,bf,cq,cw,ct,cg,ch,ci,cj,ck,ai⟩:=h.at L;obtain⟨c7,c8,rfl⟩:=Ac ai;obtain⟨gs,an,c3,rfl,cr,bc,cz⟩:=An W Yo;obtain⟨n,hn⟩:∃n,st[x]?=some n:=⟨_,Qb Yo⟩;have ce:w.cell? ⟨gs,x,none⟩=some (Vi n):=Ag W x _ (by simp[AM,hn]);have cf:∀j,w.frozen? ⟨gs,j,none⟩=false:=fun j=>Ae bc j;have cy:=c n (Qh hn);have c0:x<st.length:=Yo
 have O:=hd (LT w B _ cs vs t bh i h X hi hl);rw[<-Y]at O;have ap:=hd h;have bt:=hd X;have Z:=hd az;have bo:=hd a9;have bn:=hd ay;have y:=hd Y;have br:=hd am;have A:=hd a3;have cl:=hd ai;have E:=hd W;have aa:=hd a1;have aq:=hd c;have ar:=hd a0;have l:=hd hn;have bu:=hd bf;have au:=hd ah;have bs:=hd be;clear be;clear h X az a9 ay Y am a3 ai W a1 c a0 hn bf ak bc ah;have b2:n=0\/n=1\/n=2:=Yo
 rcases b2 with rfl|rfl|rfl
 ·have ah:d.kids.length<=4000:=by have:=au.o x;rw[(Cv A.o).2]at this;exact this
  go_enter func212,bg;go_wp2_with fail;apply O.o.mono;rintro e w1 ⟨rfl,rfl⟩;go_wp2
  go_loopg [8] (d.kids.length+1) (fun gk cd wr=>∃(k:Nat)(b:List Nat)(F:Nat->Ly),cd=Vi k/\k<=d.kids.length/\d.kids.length-k<gk/\wr.ownsRow ao 3 1 (.slice (some ⟨gs,0,none⟩) st.length an) b.length (AM b)/\Ad (Ak (.slice (some ⟨gs,0,none⟩) st.length an)) w1 wr/\
    b.length=st.length/\(∀n∈b,n<=2)/\fresh b<fresh st/\CP (gr cs) t (dn b) F/\(∀j∈d.kids.take k,dn b (t j))/\(∀j,on b j↔on st j\/j=x)/\(∀j,dn st j->dn b j/\F j=T j))
  case atStart=>
   refine⟨0,st.set x 1,T,Yg,Qm _,Yo,?_,CT _ _ _ _ _ _,Ys,L2 aq.o Yo,Ub l.o,ar.o.congr (Ta l.o) (fun _ _=>rfl),Ys,WJ l.o,fun j a=>⟨(Ta l.o j).2 a,rfl⟩⟩;have:=K4 E.o x (Vi 1);have ae:(AM st).set x (Vi 1)=AM (st.set x 1):=ON st x 1;rw[ae]at this;simpa using this
  case round=>
   obtain⟨k,b,F,rfl,cx,cv,aj,S,a8,V,a6,a7,G,bb,ba⟩:=hrel;obtain⟨_,_,cp,c6,a4,ag,al,_,_,_,_,_,bj,_,_,U⟩:=(ap.o.other E.o aa.o S).at (i:=x) Yo;simp only[QH,Qo,Addr.mk.injEq]at a4;obtain⟨⟨rfl,_⟩,b9,rfl⟩:=a4;clear b9;rw[bu.o]at al;rw[A.o]at ag;simp only[Qo]at al ag;subst al ag;have bm:=hd (ap.o.other E.o aa.o S);have ad:=hd aj;have ac:=hd S;have C:=hd a8;have ax:=hd V;have ab:=hd a6;have aw:=hd a7;have av:=hd G;have N:=hd bb;have D:=hd ba;have bd:∃bx,wr.heap[gs]?=some (.cells bx 3 (0,0)):=Ay aj gs rfl;clear aj S a8 V a6 a7 G bb ba cg ch ci cj ck ce cf
   by_cases b5:k<d.kids.length
   ·obtain⟨M,I⟩:∃n,d.kids[k]?=some n:=⟨_,Qb b5⟩;obtain⟨bz,cm,co,a5,_,_,cu⟩:=An U Yo;simp only[QH]at a5;obtain⟨rfl,_,rfl⟩:=a5;have bk:wr.cell? ⟨bz,k,none⟩=some (Vi M):=Ag U k _ (by simp[AM,I]);have bp:Hd (M∈(gr cs).kids (t i)):=by show _∈_;rw[<-y.o,(Cv A.o).2];exact Qh I
    have b8:M<cs.length:=Z.o.kl x L M (by rw[(Cv A.o).2];exact Qh I);have bl:=hd (bn.o (fresh b) (by have:=bo.o;have:=ab.o;omega) wr B ao (.slice (some ⟨g,0,none⟩) cs.length bw) (.slice (some ⟨gs,0,none⟩) st.length an) cs vs t bh b F M bm.o bt.o Z.o ad.o aa.o (C.o.trans bs.o) ax.o (Qe _) b8 hl au.o aw.o);have bq:=hd I;clear U I bd;go_wp2_with fail;apply bl.o.mono;rintro e w2 ⟨c2,bi,bv,rfl,p,c,q,⟨rfl,f,af,P,Q,R,z⟩|⟨rfl,f⟩⟩
    ·have J:=hd (And.intro p (And.intro c (And.intro q (And.intro f (And.intro af (And.intro P (And.intro Q (And.intro R z))))))));clear p c q f af P Q R z bj bk;go_wp2
     go_roundg (d.kids.length-k)
     case measure=>omega
     case rel=>
      obtain⟨p,c,q,f,af,P,Q,R,z⟩:=J.o;refine⟨k+1,bi,bv,Yg,Yo,Yo,p,ac.o.trans c,q.trans C.o,f,by have:=ab.o;omega,P,?_,fun j=>(R j).trans (N.o j),fun j a=>⟨(z j (D.o j a).1).1,(z j (D.o j a).1).2.trans (D.o j a).2⟩⟩;intro j a;rw[GE bq.o]at a;rcases Qk.1 a with a|a
      ·exact(z _ (av.o j a)).1
      ·simp at a;subst a;exact Q
    ·have J:=hd (And.intro p (And.intro c (And.intro q f)));clear p c q f bj bk;go_wp2;refine bodyPost_ret (v:= .bool false) (by simp[results,results212,go_sem]) rfl ?_;obtain⟨p,c,q,f⟩:=J.o;have cb:FW (gr cs) t (on st) i:=FW.up Z.o hi (by rw[<-y.o];exact L) bp.o (fun val cc b1=>by
      obtain⟨r,ca,V⟩:=f val cc b1;exact⟨r,by rw[<-y.o];exact(N.o r).1 ca,V⟩)
     exact⟨_,bi,T,rfl,p,ac.o.trans c,q.trans C.o,Or.inr ⟨rfl,cb⟩⟩
   ·have b3:k=d.kids.length:=Yo
    subst b3;obtain⟨cn,a2⟩:=bd;have zs:∃u,wr.cell? ⟨gs,x,none⟩=some u:=by
     have H:=C.o;have K:=ad.o;rw[H]at K;have s:x<b.length:=Yo
     exact⟨_,Ag K x (Vi (b[x]'s)) (by simp[AM,s])⟩
    obtain⟨u,zs⟩:=zs;have c9:∀j,wr.frozen? ⟨gs,j,none⟩=false:=fun j=>Ae a2 j;clear U a2;go_wp2;refine bodyPost_ret (v:= .bool true) (by simp[results,results212,go_sem]) rfl ?_;have H:=C.o;have s:x<b.length:=Yo
    have b6:¬dn b x:=fun hd=>by
     have:=(N.o x).2 (Or.inr rfl);unfold on at this;unfold dn at hd;rw[this]at hd;simp at hd
    have G:=av.o;rw[List.take_length]at G;have b0:=aw.o.more (r:=x) L br.o b6 (by rw[(Cv A.o).2];exact G);refine⟨_,b.set x 2,_,rfl,?_,ac.o.trans (CT _ _ _ _ _ _),by simpa using H,Or.inl ⟨rfl,L2 ax.o Yo,Qq Sk (Nat.le_of_lt ab.o),b0.congr (Ow s) (fun _ _=>rfl),by rw[<-y.o];exact(Ow s x).2 (Or.inr rfl),?_,?_⟩⟩
    ·have K:=ad.o;rw[H]at K;have:=K4 K x (Vi 2);have ae:(AM b).set x (Vi 2)=AM (b.set x 2):=ON b x 2;rw[ae]at this;simpa[H]using this
    ·intro j;rw[Wy s,N.o];constructor
     ·rintro⟨h|h,b7⟩
      ·exact h
      ·exact absurd h b7
     ·intro h;refine⟨Or.inl h,fun e=> ?_⟩;subst e;unfold on at h;rw[l.o]at h;simp at h
    ·intro j a;refine⟨(Ow s j).2 (Or.inl (D.o j a).1),?_⟩;have b4:j≠x:=fun e=>by
      subst e;unfold dn at a;rw[l.o]at a;simp at a
     show(if j=x then _ else F j)=T j;rw[if_neg b4];exact(D.o j a).2
 ·go_enter func212,bg;go_wp2_with fail;apply O.o.mono;rintro e w1 ⟨rfl,rfl⟩;go_wp2;refine bodyPost_ret (v:= .bool false) (by simp[results,results212,go_sem]) rfl ?_;exact⟨_,st,T,rfl,E.o,Ad.refl _ _,rfl,Or.inr ⟨rfl,FW.here hi (by rw[<-y.o];exact l.o)⟩⟩
 ·go_enter func212,bg;go_wp2_with fail;apply O.o.mono;rintro e w1 ⟨rfl,rfl⟩;go_wp2;refine bodyPost_ret (v:= .bool true) (by simp[results,results212,go_sem]) rfl ?_;exact⟨_,st,T,rfl,E.o,Ad.refl _ _,rfl,Or.inl ⟨rfl,aq.o,Qe _,ar.o,by rw[<-y.o];exact l.o,fun _=>Iff.rfl,fun j a=>⟨a,rfl⟩⟩⟩
theorem We(m:Nat):Lg m:=by
 induction m using Nat.strongRecOn with
 |_ m a=>exact TJ m a
def V5(cs:List AR):Prop:=∀(i j:Nat) c d,cs[i]?=some c->cs[j]?=some d->c.sym.name=[]->d.sym.name=[]->c.sym.num=d.sym.num->i=j
structure De(cs cs':List AR)(ks:List Nat)(ts:List (List BL)):Prop where
 ext:∃new,cs'=cs++new
 kl:∀k∈ks,k<cs'.length
 up:∀(i:Nat) c,cs.length<=i->cs'[i]?=some c->c.up=i
 ok:∀(i:Nat) c,cs.length<=i->cs'[i]?=some c->c.sym.args=c.kids.length/\(∀k∈c.kids,k<cs'.length)/\(c.sym.name=[]->c.kids=[])/\(c.sym.name≠[]->c.sym.num=0)/\c.kids.length<=4000
 occ:∀(i:Nat) c,cs.length<=i->cs'[i]?=some c->c.sym.name=[]->Cj c.sym.num ts.flatten
 uniq:V5 cs->V5 cs'
 tm:∀tm0:Nat->List BL,(∀(i:Nat) c,cs[i]?=some c->c.sym.name=[]->tm0 i=vr c.sym.num)->∃tm:Nat->List BL,(∀i,i<cs.length->tm i=tm0 i)/\(∀(i:Nat) c,cs.length<=i->cs'[i]?=some c->tm i=c.sym::(c.kids.map tm).flatten)/\ks.map tm=ts
 len:cs'.length<=cs.length+ts.flatten.length
theorem De.low{cs a:List AR}{ks:List Nat}(h:De cs a ks ts)(hi:i<cs.length):a[i]?=cs[i]?:=by
 obtain⟨new,rfl⟩:=h.ext;exact Qc hi
theorem De.le{cs a:List AR}{ks:List Nat}(h:De cs a ks ts):cs.length<=a.length:=by
 obtain⟨new,rfl⟩:=h.ext;simp
theorem De.nil(cs:List AR):De cs cs [] []:=
 ⟨⟨[],Ys⟩,Ys,fun i c h a=>by have:=(Qa.1 a).1;omega,fun i c h a=>by have:=(Qa.1 a).1;omega,fun i c h a=>by have:=(Qa.1 a).1;omega,fun h=>h,
  fun b _=>⟨b,fun _ _=>rfl,fun i c h a=>by have:=(Qa.1 a).1;omega,rfl⟩,Ys⟩
theorem WN{s:BL}(h:s.name=[])(ha:s.args=0):[s]=vr s.num:=by cases s;simp at h ha;subst h ha;rfl
theorem De.snoc{cs e p:List AR}{ks:List Nat}{t:Ly}(h:De cs e ks ts)(d:De e p [k] [t]):De cs p (ks++[k]) (ts++[t]):=by
 have G:=h.le;have H:=d.le;have n:∀(i:Nat) c,p[i]?=some c->(e[i]?=some c/\i<e.length)\/e.length<=i:=fun i c a=>by
  rcases QB i e.length with hi|hi
  ·rw[d.low hi]at a;exact Or.inl ⟨a,hi⟩
  ·exact Or.inr hi
 refine⟨?_,?_,?_,?_,?_,fun A=>d.uniq (h.uniq A),?_,?_⟩
 ·obtain⟨B,rfl⟩:=h.ext;obtain⟨C,rfl⟩:=d.ext;exact⟨B++C,Ys⟩
 ·intro j f;rcases Qk.1 f with f|f
  ·have:=h.kl j f;omega
  ·exact d.kl j f
 ·intro i c hi a;rcases n i c a with⟨b,_⟩|b
  ·exact h.up i c hi b
  ·exact d.up i c b a
 ·intro i c hi a;rcases n i c a with⟨b,_⟩|b
  ·obtain⟨o,s,l,u,v⟩:=h.ok i c hi b;exact⟨o,fun k g=>by have:=s k g;omega,l,u,v⟩
  ·exact d.ok i c b a
 ·intro i c hi a hn;rw[List.flatten_append,Ca];rcases n i c a with⟨b,_⟩|b
  ·exact Or.inl (h.occ i c hi b hn)
  ·exact Or.inr (d.occ i c b a hn)
 ·intro D h0;obtain⟨E,q,r,w⟩:=h.tm D h0;obtain⟨F,m,x,y⟩:=d.tm E (fun i c a hn=>by
   rcases QB i cs.length with hi|hi
   ·rw[q i hi];rw[h.low hi]at a;exact h0 i c a hn
   ·obtain⟨o,_,l,_⟩:=h.ok i c hi a;rw[r i c hi a,l hn];simp only[List.map_nil,List.flatten_nil];exact WN hn (by rw[o,l hn];rfl))
  refine⟨F,fun i hi=>(m i Yo).trans (q i hi),?_,?_⟩
  ·intro i c hi a;rcases n i c a with⟨b,z⟩|b
   ·rw[m i z,r i c hi b]
    congr 2
    exact List.map_congr_left (fun k g=>(m k ((h.ok i c hi b).2.1 k g)).symm)
   ·exact x i c b a
  ·rw[Qr,y]
   congr 1
   rw[<-w];exact List.map_congr_left (fun k g=>m k (h.kl k g))
 ·have:=h.len;have:=d.len;simp only[List.flatten_append,Qg]at*;omega
theorem De.hit{cs:List AR}{c:AR}(b:cs[i]?=some c)(hn:c.sym.name=[])(d:c.sym.num=n):De cs cs [i] [vr n]:=by
 have hi:=(Qa.1 b).1;refine⟨⟨[],Ys⟩,by simpa using hi,fun i c h a=>by have:=(Qa.1 a).1;omega,fun i c h a=>by have:=(Qa.1 a).1;omega,fun i c h a=>by have:=(Qa.1 a).1;omega,fun h=>h,fun e h0=> ?_,Ys⟩;exact⟨e,fun _ _=>rfl,fun i c h a=>by have:=(Qa.1 a).1;omega,by simp[h0 i c b hn,d]⟩
theorem De.miss{cs:List AR}(p:∀(i:Nat) c,cs[i]?=some c->c.sym.name=[]->c.sym.num≠n):De cs (cs++[⟨⟨[],n,0⟩,[],cs.length⟩]) [cs.length] [vr n]:=by
 have b:∀(i:Nat) c,(cs++[(⟨⟨[],n,0⟩,[],cs.length⟩:AR)])[i]?=some c->cs[i]?=some c\/(i=cs.length/\c=⟨⟨[],n,0⟩,[],cs.length⟩):=fun i c a=>by
  rcases QB i cs.length with hi|hi
  ·rw[Qc hi]at a;exact Or.inl a
  ·have:=(Qa.1 a).1;simp at this;have e:i=cs.length:=Yo
   subst e;simp at a;exact Or.inr ⟨rfl,a.symm⟩
 have f:∀(i:Nat) c,cs.length<=i->(cs++[(⟨⟨[],n,0⟩,[],cs.length⟩:AR)])[i]?=some c->i=cs.length/\c=⟨⟨[],n,0⟩,[],cs.length⟩:=fun i c hi a=>by
  rcases b i c a with h|h
  ·have:=(Qa.1 h).1;omega
  ·exact h
 refine⟨⟨_,rfl⟩,Ys,?_,?_,?_,?_,?_,by simp[vr]⟩
 ·intro i c hi a;obtain⟨rfl,rfl⟩:=f i c hi a;rfl
 ·intro i c hi a;obtain⟨rfl,rfl⟩:=f i c hi a;simp
 ·intro i c hi a _;obtain⟨rfl,rfl⟩:=f i c hi a;exact Ca.2 (Or.inl (Ez.2 rfl))
 ·intro q i j c d a hd l m g;rcases b i c a with o|⟨rfl,rfl⟩
  ·rcases b j d hd with k|⟨rfl,rfl⟩
   ·exact q i j c d o k l m g
   ·exact absurd g (p i c o l)
  ·rcases b j d hd with k|⟨rfl,rfl⟩
   ·exact absurd g.symm (p j d k m)
   ·rfl
 ·intro r _;refine⟨fun i=>if i=cs.length then vr n else r i,fun i hi=>by simp[show i≠cs.length by omega],?_,Ys⟩;intro i c hi a;obtain⟨rfl,rfl⟩:=f i c hi a;simp[vr]
def fill(cs:List AR)(x:Nat)(ks:List Nat):List AR:=cs.modify x (fun c=>{c with kids:=ks})
theorem HE(cs:List AR)(x:Nat)(ks:List Nat):(fill cs x ks).length=cs.length:=by simp[fill]
theorem Kw(cs:List AR)(x:Nat)(ks:List Nat)(i:Nat):(fill cs x ks)[i]?=(cs[i]?).map (fun c=>if x=i then{c with kids:=ks}else c):=by
 simp only[fill,List.getElem?_modify]
 cases cs[i]? with
 |none=>rfl
 |some c=>simp
theorem De.name{cs g:List AR}{nm:Lu}{ks:List Nat}(hn:nm≠[])(hl:ls.length<=4000)(h:De (cs++[⟨⟨nm,0,ls.length⟩,[],cs.length⟩]) g ks ls):De cs (fill g cs.length ks) [cs.length] [⟨nm,0,ls.length⟩::ls.flatten]:=by
 obtain⟨new,q⟩:=h.ext;have l:(cs++[(⟨⟨nm,0,ls.length⟩,[],cs.length⟩:AR)]).length=cs.length+1:=Ys
 have y:=h.le;rw[l]at y;have x:ks.length=ls.length:=by
  obtain⟨tm,_,_,e⟩:=h.tm (fun i=>((cs++[(⟨⟨nm,0,ls.length⟩,[],cs.length⟩:AR)])[i]?.map (fun c=>vr c.sym.num)).getD []) (fun i c a _=>by rw[a];rfl);simpa using congrArg List.length e
 have D:g[cs.length]?=some ⟨⟨nm,0,ls.length⟩,[],cs.length⟩:=by rw[q];simp
 have r:(fill g cs.length ks)[cs.length]?=some ⟨⟨nm,0,ls.length⟩,ks,cs.length⟩:=by rw[Kw,D];simp
 have p:∀i,i≠cs.length->(fill g cs.length ks)[i]?=g[i]?:=fun i hi=>by
  rw[Kw]
  cases g[i]? with
  |none=>rfl
  |some c=>simp;intro e;exact absurd e.symm hi
 have o:∀(i:Nat) c,cs.length<=i->(fill g cs.length ks)[i]?=some c->(i=cs.length/\c=⟨⟨nm,0,ls.length⟩,ks,cs.length⟩)\/(cs.length+1<=i/\g[i]?=some c):=fun i c hi a=>by
  by_cases e:i=cs.length
  ·subst e;rw[r]at a;exact Or.inl ⟨rfl,(Option.some.inj a).symm⟩
  ·rw[p i e]at a;exact Or.inr ⟨Yo,a⟩
 refine⟨?_,?_,?_,?_,?_,?_,?_,?_⟩
 ·refine⟨⟨⟨nm,0,ls.length⟩,ks,cs.length⟩::new,?_⟩;apply List.ext_getElem?;intro i;rcases QB i cs.length with hi|hi
  ·rw[p i Yo,q,Qi,Qc hi,Qc hi]
  ·by_cases e:i=cs.length
   ·subst e;rw[r];simp
   ·rw[p i e,q,Qi,Qd hi,Qd hi]
    cases F:i-cs.length with
    |zero=>omega
    |succ j=>simp
 ·rw[HE];simp;omega
 ·intro i c hi a;rcases o i c hi a with⟨rfl,rfl⟩|⟨b,f⟩
  ·rfl
  ·exact h.up i c (by rw[l];exact b) f
 ·intro i c hi a;rw[HE];rcases o i c hi a with⟨rfl,rfl⟩|⟨b,f⟩
  ·exact⟨x.symm,h.kl,fun e=>absurd e hn,fun _=>rfl,by simp only;omega⟩
  ·exact h.ok i c (by rw[l];exact b) f
 ·intro i c hi a k;rcases o i c hi a with⟨rfl,rfl⟩|⟨b,f⟩
  ·exact absurd k hn
  ·obtain⟨s,z,m⟩:=h.occ i c (by rw[l];exact b) f k;exact⟨s,by simp;exact Or.inr (List.mem_flatten.1 z),m⟩
 ·intro A;have B:V5 (cs++[⟨⟨nm,0,ls.length⟩,[],cs.length⟩]):=by
   intro i j c d a hd b f m;have n:∀(i:Nat) c,(cs++[(⟨⟨nm,0,ls.length⟩,[],cs.length⟩:AR)])[i]?=some c->c.sym.name=[]->cs[i]?=some c:=fun i c a k=>by
    rcases QB i cs.length with hi|hi
    ·rw[Qc hi]at a;exact a
    ·have:=(Qa.1 a).1;simp at this;have e:i=cs.length:=Yo
     subst e;simp at a;subst a;exact absurd k hn
   exact A i j c d (n i c a b) (n j d hd f) b f m
  have C:=h.uniq B;have n:∀(i:Nat) c,(fill g cs.length ks)[i]?=some c->c.sym.name=[]->g[i]?=some c:=fun i c a k=>by
   by_cases e:i=cs.length
   ·subst e;rw[r]at a;simp at a;subst a;exact absurd k hn
   ·rw[p i e]at a;exact a
  intro i j c d a hd b f m;exact C i j c d (n i c a b) (n j d hd f) b f m
 ·intro E h0;obtain⟨tm,t,v,w⟩:=h.tm (fun i=>if i=cs.length then⟨nm,0,ls.length⟩::ls.flatten else E i) (fun i c a k=>by
   rcases QB i cs.length with hi|hi
   ·rw[Qc hi]at a;simp only[show i≠cs.length by omega,if_false];exact h0 i c a k
   ·have:=(Qa.1 a).1;simp at this;have e:i=cs.length:=Yo
    subst e;simp at a;subst a;exact absurd k hn)
  have u:tm cs.length=⟨nm,0,ls.length⟩::ls.flatten:=by rw[t _ (by rw[l];omega)];simp
  refine⟨tm,fun i hi=> ?_,?_,by simp[u]⟩
  ·rw[t i (by rw[l];omega)];simp[show i≠cs.length by omega]
  ·intro i c hi a;rcases o i c hi a with⟨rfl,rfl⟩|⟨b,f⟩
   ·rw[u,<-w]
   ·exact v i c (by rw[l];exact b) f
 ·have:=h.len;rw[HE];simp at this⊢;omega
theorem infoCell:(prog.info? 314).map (fun i=>(i.zero,i.size,i.bytes))=some (some (.agg #[.string ⟨#[]⟩,Vi 0,Nl,Vi 0]),4,56):=by kernel_rfl
theorem LB{n m:Int}{ca:Oa}{cl cc:Nat}:∀u∈(#[Value.string s,Vi n,.slice ca cl cc,Vi m]:Av).toList,u.oneCell'=true:=by
 intro u a;simp at a;rcases a with rfl|rfl|rfl|rfl<;>rfl
structure Nu(w:World)(B:Nat)(lv:Value)(cs:List AR)(vs:List Value)(lv':Value)(k:Nat)(cs':List AR)(vs':List Value)(ts:List (List BL))(w':World):Prop where
 cells:Bd w' B lv' cs' vs'
 vals:∃new,vs'=vs++new
 kept:Ad (Ak lv) w w'
 where_:lv'.ownBlock=lv.ownBlock\/∃g,lv'.ownBlock=some g/\w.heap.size<=g
 fresh:∀(i:Nat) v k,vs.length<=i->vs'[i]?=some v->v.ownBlock=some k->w.heap.size<=k
def O4(n:Nat):Prop:=∀(w:World)(B:Nat)(lv:Value)(cs:List AR)(vs:Lv)(X:Np)(a b c:Value)(t:Ly),t.length<=n->Bd w B lv cs vs->CH X w a b c t->B<=w.heap.size->cs.length+t.length<=4000->
 Calls prog 210 #[lv,.agg #[a,b,c]] w fun e w'=>∃(lv':Value)(k:Nat)(cs':List AR)(vs':Lv),e= .returned (.tuple #[lv',.int .i64 k])/\Nu w B lv cs vs lv' k cs' vs' [t] w'/\De cs cs' [k] [t]
theorem PR:∀{cs:List AR}{vs:Lv}(c:AR)(v:Value),vs.length=cs.length->Cd (cs++[c]) (vs++[v])=Cd cs vs++Hl c v:=by
 intro cs
 induction cs with
 |nil=>intro vs c v h;cases vs with
  |nil=>simp[Cd]
  |cons _ _=>simp at h
 |cons d cs a=>
  intro vs c v h
  cases vs with
  |nil=>simp at h
  |cons u vs=>
   simp only[Qy,Cd];rw[a c v (by simpa using h)];simp
theorem Bd.snoc{g:Value}{cs:List AR}(h:Bd w B lv cs vs)(c:AR)(l:c.kids=[])(ha:Ar w B 314 4 lv (cs.length+1) (Cd cs vs++Hl c Nl) g w1):
  Bd w1 B g (cs++[c]) (vs++[Nl]):=by
 refine⟨by simp[h.len],?_,?_⟩
 ·rw[PR c _ h.len];simpa using ha.owns
 ·intro i d v a b;rcases QB i cs.length with hi|hi
  ·rw[Qc hi]at a;rw[Qc (by rw[h.len];exact hi)]at b;have f:=h.kids i d v a b;exact ha.kept.owns f (fun k e e'=>by
    obtain⟨m,j⟩:=Ay f k e;exact Ai h.owns Yd j e')
  ·have:=(Qa.1 a).1;simp at this;have e:i=cs.length:=Yo
   subst e;rw[Qd (by rw[h.len];exact Qe _),h.len]at b;simp at a b;subst a b;rw[l];exact Q2 _ _ _ _
theorem OV:∀{cs:List AR}{vs:Lv}{x:Nat}{ks:List Nat}{v:Value},vs.length=cs.length->x<cs.length->Cd (fill cs x ks) (vs.set x v)=(Cd cs vs).set (x*4+2) v:=by
 intro cs
 induction cs with
 |nil=>intro vs x ks v _ h;simp at h
 |cons d cs c=>
  intro vs x ks v hl b
  cases vs with
  |nil=>simp at hl
  |cons u vs=>
   cases x with
   |zero=>simp[fill,Cd,Hl]
   |succ x=>
    have e:=c (vs:=vs) (x:=x) (ks:=ks) (v:=v) (by simpa using hl) (by simpa using b);have a:fill (d::cs) (x+1) ks=d::fill cs x ks:=by simp[fill]
    rw[a,List.set_cons_succ,Cd,Cd,e,List.set_append_right _ _ (by simp[Hl];omega)]
    congr 2
    simp[Hl]
    try omega
theorem TA{cs:List AR}{c:AR}(h:cs[x]?=some c):fill cs x c.kids=cs:=by
 apply List.ext_getElem?;intro i;rw[Kw]
 by_cases e:x=i
 ·subst e;rw[h];simp
 ·cases cs[i]? with
  |none=>rfl
  |some d=>simp[e]
theorem Bd.fill{g:Nat}{cs:List AR}(h:Bd w B (.slice (some ⟨g,0,none⟩) n cap) cs vs)(q:x<cs.length){ks:List Nat}{av:Value}(ha:w.ownsRow B 3 1 av ks.length (AM ks)):
  Bd (w.setCell ⟨g,x*4+2,none⟩ av) B (.slice (some ⟨g,0,none⟩) n cap) (YtlmjilpjmgjjcaaGreatDoor.fill cs x ks) (vs.set x av):=by
 have l:∀{m:Nat}{v:Value}{z:Lv},w.ownsRow B 3 1 v m z->∀k,v.ownBlock=some k->k≠g:=fun f k e e'=>by
  subst e';obtain⟨j,s⟩:=Ay f k e;obtain⟨C,o⟩:=Ay h.owns k rfl;rw[s]at o;simp at o
 refine⟨by rw[HE];simpa using h.len,?_,?_⟩
 ·rw[HE,OV h.len q];have p:=h.owns;refine⟨by simpa using p.1,?_⟩;rcases p.2 with⟨a,_⟩|⟨D,A,j,a,hb,t,hn,d,u,y⟩
  ·simp at a
  ·simp at a;obtain⟨rfl,rfl,rfl⟩:=a;refine .inr ⟨g,cap,j.setIfInBounds (x*4+2) av,rfl,hb,Af t _ _,hn,d,by simpa using u,?_⟩;rw[<-y];simp[List.take_set]
 ·intro i c v a b;rw[Kw]at a
  cases d:cs[i]? with
  |none=>rw[d]at a;simp at a
  |some r=>
   rw[d]at a;simp only[Option.map_some,Qo]at a
   by_cases e:x=i
   ·subst e;rw[if_pos rfl]at a;subst a;rw[List.getElem?_set_self (by rw[h.len];exact q)]at b;simp only[Qo]at b;subst b;exact Aj ha (fun k e=>Below.heap_setCell _ _ _ _ (l ha k e))
   ·rw[if_neg e]at a;subst a;rw[QF e]at b;have f:=h.kids i r v d b;exact Aj f (fun k e=>Below.heap_setCell _ _ _ _ (l f k e))
theorem Vm(w:World)(B:Nat)(I:Value)(cs:List AR)(vs:Lv)(n:Nat)(h:Bd w B I cs vs)(al:B<=w.hz)(hl:cs.length+1<=4000):
  Calls prog 210 #[I,.agg #[.string ⟨#[]⟩,Vi n,Nl]] w fun e w'=>∃(J:Value)(k:Nat)(M:List AR)(ah:Lv),e=Rq #[J,Vi k]/\Nu w B I cs vs J k M ah [vr n] w'/\De cs M [k] [vr n]:=by
 obtain⟨la,ag,rfl⟩:=Ac h.owns;have U:=hd h;clear h;go_enter func210,ap;go_wp2
 go_loopg [6] (cs.length+1) (fun gk i wr=>∃(k:Nat),i=Vi k/\k<=cs.length/\cs.length-k<gk/\Ad A4 w wr/\wr.heap[w.hz]?=some (.cells #[.string ⟨#[]⟩,Vi n,Nl] 183 (0,0))/\
   (∀(i:Nat) c,i<k->cs[i]?=some c->c.sym.name=[]->c.sym.num≠n))
 case atStart=>exact⟨0,Yg,Qm _,Yo,(Ad.refl _ w).alloc _,QL w _,fun i c h=>by omega⟩
 case round=>
  obtain⟨k,rfl,u,Q,y,h0,T⟩:=hrel;obtain⟨aj,b1,b2,ak⟩:=BB h0;have s:=hd y;have j:=hd h0;have C:=hd T;have an:=y.size;have f:=hd (U.o.ext (w':=wr) (fun k u=>y.block k u (fun h=>h)));clear y h0 T
  by_cases H:k<cs.length
  ·obtain⟨g,L,c,v,P,b,q,_,ac,O,V,W,X,Y,cf,_⟩:=f.o.at H;simp only[QH]at P;obtain⟨rfl,_,rfl⟩:=P;have A:=hd b;clear b q
   by_cases hn:c.sym.name=[]
   ·have ad:c.sym.name.isEmpty=true:=by simpa using hn
    by_cases z:c.sym.num=n
    ·have ae:((c.sym.num:Int)==(n:Int))=true:=by rw[beq_iff_eq];omega
     have D:=hd z;clear z;go_wp2_with fail;go_quiet (fail);go_wp2;go_ret2;exact⟨_,k,cs,vs,rfl,⟨f.o.ext (fun _ _=>rfl),⟨[],Ys⟩,(s.o.drewN _).mono (fun _ _ h=>h.elim),Or.inl rfl,fun i v k Z m=>by have:=(Qa.1 m).1;omega⟩,De.hit A.o hn D.o⟩
    ·have ae:((c.sym.num:Int)==(n:Int))=false:=by rw[Qu];omega
     have D:=hd z;clear z;go_wp2_with fail;go_quiet (fail);go_wp2
     go_roundg (cs.length-k)
     case measure=>omega
     case rel=>
      refine⟨k+1,Yg,Yo,Yo,s.o.drewN _,j.o,fun i d hi hd t=> ?_⟩
      by_cases e:i=k
      ·subst e;rw[A.o]at hd;simp at hd;subst hd;exact D.o
      ·exact C.o i d Yo hd t
   ·have ad:c.sym.name.isEmpty=false:=by simpa using hn
    go_wp2_with fail;go_quiet (fail);go_wp2
    go_roundg (cs.length-k)
    case measure=>omega
    case rel=>
     refine⟨k+1,Yg,Yo,Yo,s.o.drewN _,j.o,fun i d hi hd t=> ?_⟩
     by_cases e:i=k
     ·subst e;rw[A.o]at hd;simp at hd;subst hd;exact absurd t hn
     ·exact C.o i d Yo hd t
  ·have ab:k=cs.length:=Yo
   subst ab;have af:=Ab j.o
   go_wp2_with (at_builtin;refine Am _ rfl (.tmp 43) (.tmp 50) 308 rfl B 314 infoCell underlying308 rfl Yd _ cs.length (Cd cs vs) rfl f.o.owns _ rfl rfl rfl LB ?_ ?_ ?_)
   ·omega
   ·omega
   intro J w1 p;have F:=Bd.snoc f.o ⟨⟨[],n,0⟩,[],cs.length⟩ rfl p;obtain⟨g,L,c,v,rfl,b,q,am,ac,O,V,W,X,Y,cf,_⟩:=F.at (i:=cs.length) Ys;have E:=(p.kept.block _ af (Ai f.o.owns Yd j.o)).trans j.o;obtain⟨aq,au,aw,ax⟩:=BB E;have K:=hd F;have r:=hd p;have ai:=hd E;have ao:=p.kept.size;have R:(cs++[(⟨⟨[],n,0⟩,[],cs.length⟩:AR)]).length=cs.length+1:=Ys
   clear F p E b q;rw[R]at K r O⊢;clear R;go_wp2
   go_loopg [0,8,9] 1 (fun gk l ar i wr=>l= .slice (some ⟨g,0,none⟩) (cs.length+1) L/\ar=Nl/\i=Vi 0/\0<gk/\wr=w1)
   case atStart=>exact⟨rfl,rfl,rfl,Yo,rfl⟩
   case round=>
    obtain⟨rfl,rfl,rfl,_,rfl⟩:=hrel;go_wp2;go_ret2;have G:=K.o.fill (x:=cs.length) (ks:=[]) (av:=Nl) Ys (Q2 _ _ _ _);rw[TA (c:=⟨⟨[],n,0⟩,[],cs.length⟩) Ys]at G;have q:(vs++[Value.slice none 0 0]).set cs.length Nl=vs++[Nl]:=by
     rw[<-f.o.len];simp
    rw[q]at G;refine⟨_,cs.length,_,_,rfl,⟨G,⟨_,rfl⟩,?_,?_,?_⟩,De.miss (fun i c b=>C.o i c (Qa.1 b).1 b)⟩
    ·have u:=((s.o.mono (fun _ _ h=>h.elim)).then (S:=Ak (.slice la cs.length ag)) r.o.kept (fun _ _ h=>h));refine Ad.setCell u (fun H=> ?_) _;rcases r.o.where_ with a|⟨N,a,Q⟩
     ·exact a.symm
     ·simp[Value.ownBlock]at a;subst a;simp only at H;omega
    ·rcases r.o.where_ with a|⟨N,a,Q⟩
     ·exact Or.inl a
     ·exact Or.inr ⟨N,a,Yo⟩
    ·intro i v k Z m aa;have:=(Qa.1 m).1;simp at this;have e:i=vs.length:=Yo
     subst e;simp at m;subst m;simp[Value.ownBlock]at aa
theorem TZ(m:Nat)(ak:O4 m)(w:World)(B:Nat)(ab:Value)(cs:List AR)(vs:Lv)(X:Np)(nm:Lu)(a9:nm≠[])(c:Value)(ls:Ll)(xs:Lv)(h:Bd w B ab cs vs)(H:Eh X w c ls xs)(c4:B<=w.hz)(db:ls.flatten.length<=m)(hl:cs.length+ls.flatten.length+1<=4000):
  Calls prog 210 #[ab,.agg #[.string ⟨nm.toArray⟩,Vi 0,c]] w fun e w'=>∃(ac:Value)(k:Nat)(ao:List AR)(cm:Lv),e=Rq #[ac,Vi k]/\Nu w B ab cs vs ac k ao cm [⟨nm,0,ls.length⟩::ls.flatten] w'/\De cs ao [k] [⟨nm,0,ls.length⟩::ls.flatten]:=by
 obtain⟨la,be,rfl⟩:=Ac h.owns;obtain⟨ca,P,rfl⟩:=Ac H.1;have bc:=H.wf;have da:ls.length<=ls.flatten.length:=BN (CF bc);have c7:nm.isEmpty=false:=by simpa using a9
 have I:=hd h;have ai:=hd H;have bp:=hd ak;clear h H ak;go_enter func210,dg;go_wp2
 go_loopg [6] 1 (fun gk i wr=>i=Vi 0/\0<gk/\wr=w.alloc (.cells #[.string ⟨nm.toArray⟩,Vi 0,.slice ca ls.length P] 183))
 case atStart=>exact⟨rfl,Yo,rfl⟩
 case round=>
  obtain⟨rfl,_,rfl⟩:=hrel;have K:=hd (I.o.ext (w':=w.alloc (.cells #[.string ⟨nm.toArray⟩,Vi 0,.slice ca ls.length P] 183)) (fun k E=>Below.heap_alloc _ _ _ E))
  go_wp2_with (at_builtin;refine Am _ rfl (.tmp 43) (.tmp 50) 308 rfl B 314 infoCell underlying308 rfl Yd _ cs.length (Cd cs vs) rfl K.o.owns _ rfl Ys rfl LB ?_ ?_ ?_)
  ·omega
  ·simp;omega
  intro ac w1 s;have ax:=Bd.snoc K.o ⟨⟨nm,0,ls.length⟩,[],cs.length⟩ rfl s;have h0:=(s.kept.block _ Ys (Ai K.o.owns Yd (QL w _))).trans (QL w _);have bn:=hd ax;have af:=hd s;have bk:=hd h0;have ba:=s.kept.size;simp at ba;obtain⟨dd,de,rfl⟩:=Ac s.owns;clear ax s h0;go_wp2
  go_loopg [0,8,9] (ls.length+1) (fun gk lv2 av i wr=>∃(k:Nat)(n:List AR)(p:Lv)(ks:List Nat),i=Vi k/\k<=ls.length/\ls.length-k<gk/\Bd wr B lv2 n p/\(∃new,p=(vs++[Nl])++new)/\De (cs++[⟨⟨nm,0,ls.length⟩,[],cs.length⟩]) n ks (ls.take k)/\ks.length=k/\
    wr.ownsRow (w.hz+1) 3 1 av ks.length (AM ks)/\Ad (Ak (.slice la cs.length be)) w wr/\(lv2.ownBlock=(Value.slice la cs.length be).ownBlock\/∃g,lv2.ownBlock=some g/\w.hz<g)/\(∀(i:Nat) v k,p[i]?=some v->v.ownBlock=some k->¬Ak av k/\(vs.length<=i->w.hz<=k))/\
    wr.heap[w.hz]?=some (.cells #[.string ⟨nm.toArray⟩,Vi 0,.slice ca ls.length P] 183 (0,0)))
  case atStart=>
   refine⟨0,_,_,[],Yg,Qm _,Yo,bn.o,⟨[],Ys⟩,De.nil _,rfl,Q2 _ _ _ _,((Ad.refl _ w).alloc _).then af.o.kept (fun _ _ h=>h),?_,?_,bk.o⟩;rcases af.o.where_ with a|⟨f,a,a3⟩
   ·exact Or.inl a
   ·exact Or.inr ⟨f,a,by simp at a3;omega⟩
   ·intro i v k l b;refine⟨fun e=>by simp[Ak,Value.ownBlock]at e,fun hi=> ?_⟩;have:=(Qa.1 l).1;simp at this;have e:i=vs.length:=Yo
    subst e;simp at l;subst l;simp[Value.ownBlock]at b
  case round=>
   obtain⟨k,n,p,ks,rfl,E,a3,T,bb,G,rfl,S,a5,bd,a2,hb⟩:=hrel;obtain⟨cu,b1,b2,cv⟩:=BB hb;obtain⟨ci,cj,rfl⟩:=Ac T.owns;obtain⟨N,O,rfl⟩:=Ac S;have b9:=Ab hb;have a8:n.length+(ls.drop ks.length).flatten.length<=4000:=by
    have l:=G.len;have b:=congrArg List.length (congrArg List.flatten (List.take_append_drop ks.length ls));simp only[List.flatten_append,Qg,Qf,Qt]at l b;omega
   have b6:=G.le;simp only[Qg,Qf,Qt]at b6;have r:=hd T;have aj:=hd bb;have ah:=hd G;have x:=hd S;have M:=hd a5;have C:=hd bd;have ag:=hd hb;have L:=hd a2;clear T bb G S a5 bd hb ba a2
   by_cases b7:ks.length<ls.length
   ·obtain⟨u,F⟩:∃u,ls[ks.length]?=some u:=⟨_,Qb b7⟩;obtain⟨_,az,c9,_⟩:=G6 F bc;obtain⟨cq,ct,cw,bh,bi,bj,Z⟩:=ai.o.2.2 ks.length u F;obtain⟨bg,bf,al,an,am,rfl,rfl,rfl⟩:=Z.shape;have Y:∀j,j<w.hz->¬X j->CG w j->wr.heap[j]?=w.heap[j]?/\¬X j:=fun j b4 cg cb=>by
     obtain⟨R,bx⟩:=cb;exact⟨M.o.block j b4 (Ai I.o.owns Yd bx),cg⟩
    have A:=ai.o.on Y;obtain⟨g,c2,R,a4,bv,b3,c6⟩:=An A.1 Yo;simp only[QH]at a4;obtain⟨rfl,_,rfl⟩:=a4;have cn:wr.cell? ⟨g,ks.length*3,none⟩=some (.string bg):=Ag A.1 _ _ bh;have co:wr.cell? ⟨g,ks.length*3+1,none⟩=some (Vi bf):=Ag A.1 _ _ bi;have cp:wr.cell? ⟨g,ks.length*3+2,none⟩=some (.slice al an am):=Ag A.1 _ _ bj;have b5:n.length+u.length<=4000:=by
     rw[az]at a8;simp only[Q4,Qg]at a8;omega
    have bl:=hd (bp.o wr B (.slice ci n.length cj) n p X (.string bg) (Vi bf) (.slice al an am) u Yo r.o (Z.on Y) Yo b5);have br:=hd F;clear b3 A Z bh bi bj F az Y;go_wp2_with fail;apply bl.o.mono;rintro e w2 ⟨df,ch,Q,ae,rfl,t,a6⟩;obtain⟨ck,cl,rfl⟩:=Ac t.cells.owns;have au:=t.kept.owns x.o (fun j e e'=>by
     obtain⟨R,y⟩:=Ay x.o j e;exact Ai r.o.owns Yd y e')
    have aw:=(t.kept.block _ b9 (Ai r.o.owns Yd ag.o)).trans ag.o;have dc:=t.kept.size;have d:=hd t;have bq:=hd a6;have J:=hd au;have bm:=hd aw;clear t a6 au aw cn co cp
    go_wp2_with (at_builtin;refine Am _ rfl (.tmp 70) (.tmp 72) 25 rfl (w.hz+1) 3 infoInt underlying25 rfl Yd _ ks.length (AM ks) rfl J.o _ rfl rfl rfl (DT _) ?_ ?_ ?_)
    ·omega
    ·omega
    intro cr w3 aq;have q:=hd aq;clear aq;go_wp2
    go_roundg (ls.length-ks.length)
    case measure=>omega
    case rel=>
     have ar:∀j,Ak (.slice N ks.length O) j->w.hz<j:=fun j e=>(J.o.lt j e).1;have ay:∀(i:Nat) v,ae[i]?=some v->∀j,v.ownBlock=some j->¬Ak (.slice N ks.length O) j:=fun i v b j e=>by
      obtain⟨ad,z⟩:=d.o.vals;rcases QB i p.length with hi|hi
      ·rw[z,Qc hi]at b;exact(L.o i v j b e).1
      ·have c3:=d.o.fresh i v j hi b e;intro e';have:=(x.o.lt j e').2;omega
     have bw:Bd w3 B (.slice ck Q.length cl) Q ae:=by
      refine⟨d.o.cells.len,q.o.kept.owns d.o.cells.owns (fun j e e'=> ?_),fun i c v l b=> ?_⟩
      ·obtain⟨R,y⟩:=Ay d.o.cells.owns j e;exact Ai J.o Yd y e'
      ·have E:=d.o.cells.kids i c v l b;exact q.o.kept.owns E (ay i v b)
     have cc:ls.take (ks.length+1)=ls.take ks.length++[u]:=by rw[List.take_add_one,br.o];rfl
     obtain⟨new,W⟩:=aj.o;obtain⟨ad,z⟩:=d.o.vals;refine⟨ks.length+1,Q,ae,ks++[ch],Yg,Yo,Yo,bw,⟨new++ad,by rw[z,W];simp⟩,by rw[cc];exact ah.o.snoc bq.o,Ys,by simpa[AM]using q.o.owns,?_,?_,?_,?_⟩
     ·refine(M.o.then d.o.kept (fun i hi e=> ?_)).then q.o.kept (fun i hi e=>absurd (ar i e) Yo)
      rcases C.o with a|⟨f,a,D⟩
      ·exact a.symm.trans e
      ·have:some f=some i:=a.symm.trans e;simp at this;omega
     ·rcases d.o.where_ with a|⟨f,a,D⟩
      ·rcases C.o with aa|⟨bt,aa,b0⟩
       ·exact Or.inl (a.trans aa)
       ·exact Or.inr ⟨bt,a.trans aa,b0⟩
      ·exact Or.inr ⟨f,a,Yo⟩
     ·intro i v j b e;have ce:v.ownBlock=some j->j<w2.hz:=fun e=>by
       have hi:=(Qa.1 b).1;rw[d.o.cells.len]at hi;exact((d.o.cells.kids i _ v (Qb hi) b).lt j e).2
      refine⟨fun e'=> ?_,fun hi=> ?_⟩
      ·rcases q.o.where_ with a|⟨f,a,D⟩
       ·exact ay i v b j e (a.symm.trans e')
       ·have bu:some f=some j:=a.symm.trans e';have:=ce e;simp at bu;omega
      ·rcases QB i p.length with U|U
       ·obtain⟨ad,z⟩:=d.o.vals;rw[z,Qc U]at b;exact(L.o i v j b e).2 hi
       ·have:=d.o.fresh i v j U b e;omega
     ·exact(q.o.kept.block _ Yo (fun e=>by have:=ar _ e;omega)).trans bm.o
   ·have a1:ks.length=ls.length:=Yo
    have bo:=hd a1;have V:cs.length<n.length:=Yo
    obtain⟨g,c1,c,v,a0,y,cd,bv,c8,c5,cx,cy,cz,c0,cf,_⟩:=r.o.at V;simp only[QH]at a0;obtain⟨rfl,_,rfl⟩:=a0;have bs:Hd (vs.length=cs.length):=I.o.len;clear a1 y cd;go_wp2;go_ret2;have a7:=ah.o;rw[List.take_of_length_le (by rw[bo.o];exact Qe _)]at a7;have bz:=r.o.fill V (AI x.o Yo);obtain⟨new,W⟩:=aj.o;refine⟨_,cs.length,_,_,rfl,⟨bz,?_,?_,?_,?_⟩,De.name a9 Yo a7⟩
    ·refine⟨.slice N ks.length O::new,?_⟩;rw[W,<-bs.o];simp
    ·refine Ad.setCell M.o (fun b8=> ?_) _;rcases C.o with a|⟨f,a,D⟩
     ·exact a.symm
     ·simp[Value.ownBlock]at a;subst a;simp only at b8;omega
    ·rcases C.o with a|⟨f,a,D⟩
     ·exact Or.inl a
     ·exact Or.inr ⟨f,a,Yo⟩
    ·intro i v j l b e
     by_cases ap:cs.length=i
     ·subst ap;rw[List.getElem?_set_self (by rw[r.o.len];exact V)]at b;simp only[Qo]at b;subst b;have:=(x.o.lt j e).1;omega
     ·rw[QF ap]at b;exact(L.o i v j b e).2 l
theorem OQ:∀n,O4 n:=by
 intro n
 induction n with
 |zero=>
  intro w B d cs vs X a b c t hl _ h;have:=BN (h.wf _ (Qe _));omega
 |succ n l=>
  intro w B d cs vs X a b c t hl f h e g;rcases h.o with⟨k,rfl,rfl,rfl,rfl⟩|⟨nm,ls,xs,i,rfl,rfl,rfl,j⟩
  ·exact Vm w B d cs vs k f e (by simpa using g)
  ·simp only[Qf]at hl g;exact TZ n l w B d cs vs X nm i c ls xs f j e Yo Yo
theorem V1{q g:List AR}{y:Nat}{a b:Ly}(m:De [] q [x] [a])(n:De q g [y] [b]):
  ∃tm,Tb (gr g) tm a b/\x<g.length/\y<g.length/\tm x=a/\tm y=b/\FH (gr g) (fun i=>i)/\Fa g (fun i=>i) (fun _=>0)/\∀i,((gr g).kids i).length<=4000:=by
 have h:=m.snoc n;obtain⟨tm,_,s,o⟩:=h.tm (fun _=>[]) (fun i c f=>by simp at f);simp only[Qy,Qz,Qx,List.map_nil,QI,and_true]at o;have u:=h.uniq (fun i j c d f=>by simp at f);have l:∀i,i<g.length->∃c,g[i]?=some c/\(gr g).hd i=c.sym/\(gr g).kids i=c.kids:=fun i hi=>by
  have f:g[i]?=some g[i]:=Qb hi;exact⟨_,f,(Cv f).1,(Cv f).2⟩
 refine⟨tm,⟨⟨?_,?_,?_,?_⟩,?_,?_⟩,h.kl x Ys,h.kl y Ys,o.1,o.2,⟨⟨fun i hi=>hi,fun i _=>rfl⟩,?_,fun _ _ _=>rfl,fun i _ hn=>⟨hn,rfl⟩⟩,?_,?_⟩
 ·intro i hi k r;obtain⟨c,f,_,e⟩:=l i hi;rw[e]at r;exact(h.ok i c (Qm _) f).2.1 k r
 ·intro i hi;obtain⟨c,f,e,e'⟩:=l i hi;rw[e,e'];exact(h.ok i c (Qm _) f).1
 ·intro i hi hn;obtain⟨c,f,e,e'⟩:=l i hi;rw[e]at hn;rw[e'];exact(h.ok i c (Qm _) f).2.2.1 hn
 ·intro i hi hn;obtain⟨c,f,e,e'⟩:=l i hi;rw[e]at hn⊢;exact(h.ok i c (Qm _) f).2.2.2.1 hn
 ·intro i hi;obtain⟨c,f,e,e'⟩:=l i hi;rw[e,e'];exact s i c (Qm _) f
 ·intro i hi hn;obtain⟨c,f,e,_⟩:=l i hi;rw[e]at hn⊢;have:=h.occ i c (Qm _) f hn;simp only[Qy,Qz,Q4,List.flatten_nil,Qs,Ca]at this;exact this
 ·intro i j hi t m n p;obtain⟨c,f,e,_⟩:=l i hi;obtain⟨d,hd,e',_⟩:=l j t;rw[e]at m p;rw[e']at n p;exact u i j c d f hd m n p
 ·intro i c f;have:=h.up i c (Qm _) f;exact⟨by rw[this];exact(Qa.1 f).1,this,fun _=>rfl,fun e=>absurd this e⟩
 ·intro i;rcases QB i g.length with hi|hi
  ·obtain⟨c,f,_,e⟩:=l i hi;rw[e];exact(h.ok i c (Qm _) f).2.2.2.2
  ·simp[gr,List.getElem?_eq_none hi]
theorem T7(w:World)(n:Nat)(hn:n<=100000):∃w',(Instr.makeSlice 25 (Vi (n:Int)) (Vi (n:Int))).run prog w= .ok (.slice (some ⟨w.hz,0,none⟩) n n) w'/\
  w'.ownsRow w.hz 3 1 (.slice (some ⟨w.hz,0,none⟩) n n) (List.replicate n 0).length (AM (List.replicate n 0))/\w.grownBy w' none:=by
 obtain⟨i,b,c,d,f⟩:=info_parts infoInt;obtain⟨w',g,a,h⟩:=run_make_full (P:=prog) w w.hz 25 3 i _ 1 underlying25 b c d .i64 .i64 n (by rw[f];omega) (by simp only[maxLen];omega) (Qe _);refine⟨w',g,?_,h⟩;have e:(madeCells (Value.int .i64 0).cells (n*1)).toList=AM (List.replicate n 0):=by
  have:(Value.int .i64 0).cells=#[Vi 0]:=rfl;rw[this,toList_madeCells_one];simp[AM]
 rw[e]at a;simpa using a
theorem H7(w:World)(X:Np)(a b c ae af ag:Value)(l m:Ly)(h:CH X w a b c l)(M:CH X w ae af ag m)(hl:l.length+m.length<=4000):
  Calls prog 206 #[.agg #[a,b,c],.agg #[ae,af,ag]] w fun e w'=>∃D,e= .returned D/\Ao w w'/\((D= .bool true/\∃g,Ts g/\ap g l=ap g m)\/(D= .bool false/\Dg l m)):=by
 obtain⟨a8,a7,ah,aj,ai,rfl,rfl,rfl⟩:=h.shape;obtain⟨s2,Y,J,L,K,rfl,rfl,rfl⟩:=M.shape;have bf:=hd (OQ l.length ((w.alloc (.cells #[.string a8,Vi a7,.slice ah aj ai] 183)).alloc (.cells #[.string s2,Vi Y,.slice J L K] 183)) (w.hz+2) Nl [] [] X _ _ _ l (Qe _)
  ⟨rfl,Q2 _ _ _ _,fun i c v h=>by simp at h⟩ (h.ext Mxt (fun _ _ h=>h)) Ys Yp)
 have a9:=hd M;clear h M;go_enter func206,ntmps206;go_wp2_with fail;apply bf.o.mono;rintro e w1 ⟨ch,x,bp,b4,rfl,f,U⟩;obtain⟨cd,ce,rfl⟩:=Ac f.cells.owns;have Q:Ad A4 w w1:=(((Ad.refl A4 w).alloc _).alloc _).then f.kept (fun i hi e=>by simp[Ak,Value.ownBlock]at e)
 have ak:w1.heap[w.hz+1]?=some (.cells #[.string s2,Vi Y,.slice J L K] 183 (0,0)):=(f.kept.block (w.hz+1) Ys (fun e=>by simp[Ak,Value.ownBlock]at e)).trans
  (by have:=QL (w.alloc (.cells #[.string a8,Vi a7,.slice ah aj ai] 183)) (.cells #[.string s2,Vi Y,.slice J L K] 183);simp only[World.alloc,Array.size_push]at this⊢;exact this)
 obtain⟨bz,b0,b1,b2⟩:=BB ak;have bw:=f.kept.size;simp at bw;have bu:=U.len;simp only[Qt,Q4,List.flatten_nil,Qs]at bu;have bg:=hd (OQ m.length w1 (w.hz+2) _ bp b4 X _ _ _ m (Qe _) f.cells (a9.o.ext (Ao.of Q) (fun _ _ h=>h)) Yo Yo);have bj:=hd f;have bh:=hd U;have bb:=hd Q;clear f U Q ak;go_wp2_with fail;apply bg.o.mono;rintro e w2 ⟨lv2,y,n,Z,rfl,p,V⟩;obtain⟨cf,cg,rfl⟩:=Ac p.cells.owns;obtain⟨tm,T,t,C,a2,a3,ao,a4,d⟩:=V1 bh.o V;have bv:=V.len;simp only[Q4,List.flatten_nil,Qs]at bv;have ca:=p.kept.size;have ar:Below w.hz w w2:=(Ao.of bb.o).trans (p.kept.below Yo (fun k e=>by have:=(bj.o.cells.owns.lt k e).1;omega));have z:=hd (SW (BW n) w2 (w.hz+2) _ n Z _ _ x y p.cells a4 T.ok (Qe _) t C Yo d);have bk:=hd p;have A:=hd T;have F:=hd ao;have bc:=hd ar;have bd:=hd d;have H:=hd a2;have I:=hd a3;clear p V T ao ar a4 d a2 a3 bz b0 b1 b2;go_wp2_with fail;apply z.o.mono;rintro e w3 ⟨q,B,aa,b3,rfl,am,O,a5,_,R,ay,az⟩;have al:=Ve O;have au:Below w.hz w w3:=bc.o.trans (R.below Yo (fun k e=>by have:=(bk.o.cells.owns.lt k e).1;omega));have cb:=R.size;have ab:=hd am;have u:=hd O;have bo:=hd a5;have ac:=hd au;have bl:=hd ay;have bm:=hd az;have E:=hd al;clear am O a5 R au ay az al
 cases q
 ·go_wp2;refine bodyPost_ret (v:= .bool false) (by simp[results,results206,go_sem]) rfl ?_;exact⟨_,rfl,ac.o,Or.inr ⟨rfl,PY A.o F.o t C H.o I.o (bm.o trivial)⟩⟩
 ·obtain⟨w4,b9,W,P⟩:=T7 w3 n.length Yo;have cc:=P.size;have d:Ad A4 w3 w4:=(Ad.of_grown P).mono (fun _ _ e=>by simp at e);have a6:=bo.o;have an:Bd w4 (w.hz+2) _ B Z:=ab.o.ext (fun k bt=>d.block k bt (fun h=>h));have aq:=bl.o rfl;have s:CP (gr B) aa (dn (List.replicate n.length 0)) (fun _=>[]):=(CP.none (gr B) aa (fun _=>[])).congr (fun i=>by
   unfold dn;simp only[iff_false];intro h;have:=Qh h;simp at this) (fun _ h=>h.elim)
  have ba:=hd (We (fresh (List.replicate n.length 0)) w4 (w.hz+2) w3.hz _ _ B Z aa b3 (List.replicate n.length 0) (fun _=>[]) x an a6 (by rw[u.o];exact A.o.ok) W (fun j c v bq br k e e'=>by
    have b7:=((ab.o.kids j c v bq br).lt k e).2;have N:some w3.hz=some k:=e';simp at N;omega) (by simp[E.o]) Ys (Qe _) (by rw[E.o];exact t) (by rw[E.o];omega) (by rw[u.o];exact bd.o) s)
  have be:=hd d;have z:=hd aq;have b5:=hd W;clear d an aq s W P a6;go_wp2_with fail;apply ba.o.mono;rintro e w5 ⟨D,ci,b6,rfl,_,av,_,a1⟩;have aw:Below w.hz w w5:=(ac.o.trans (Ad.below (be.o) Yo (fun _ h=>h.elim))).trans (av.below Yo (fun k e=>by
   have N:some w3.hz=some k:=e;simp at N;omega))
  have ad:=hd aw;have G:=hd a1;clear av aw a1;rcases G.o with⟨rfl,_,_,S,hd,_,_⟩|⟨rfl,s⟩
  ·have bn:Hd (∃g,Ts g/\ap g l=ap g m):=by
    rw[u.o]at S;have ax:=(OU A.o F.o t C H.o I.o z.o S hd).1;exact⟨_,ax.ts,ax.unif⟩
   clear S hd G;go_wp2;refine bodyPost_ret (v:= .bool true) (by simp[results,results206,go_sem]) rfl ?_;exact⟨_,rfl,ad.o,Or.inl ⟨rfl,bn.o⟩⟩
  ·have bi:Hd (Dg l m):=by
    rw[u.o]at s;refine PB A.o F.o t C H.o I.o z.o (i:=x) (fun val bx bs=> ?_);obtain⟨r,a0,b8⟩:=s val bx bs;unfold on at a0;have:=Qh a0;simp at this
   clear s G;go_wp2;refine bodyPost_ret (v:= .bool false) (by simp[results,results206,go_sem]) rfl ?_;exact⟨_,rfl,ad.o,Or.inr ⟨rfl,bi.o⟩⟩
def Fj:List (Nat×Ly)->Nat->Ly
 |L=>fun n=>L.foldl (fun t s=>ap (Bv s.1 s.2) t) (vr n)
theorem K3(L:List (Nat×Ly))(v:Nat)(t:Ly):Fj (L++[(v,t)])=fun n=>ap (Bv v t) (Fj L n):=by
 funext n;simp[Fj]
theorem infoSub:(prog.info? 300).map (fun i=>(i.zero,i.size,i.bytes))=some (some (.agg #[Vi 0,.string ⟨#[]⟩,Vi 0,Nl]),4,56):=by kernel_rfl
theorem Tr{n m:Int}{ca:Oa}{cl cc:Nat}:∀u∈(#[Value.int .i64 m,.string s,Vi n,.slice ca cl cc]:Av).toList,u.oneCell'=true:=by
 intro u a;simp at a;rcases a with rfl|rfl|rfl|rfl<;>rfl
structure GN(X:Nat->Prop)(w:World)(B:Nat)(cv:Value)(n:Nat)(L:List (Nat×List BL))(xs:List Value):Prop where
 owns:w.ownsRow B 300 4 cv n xs
 len:L.length=n
 all:∀(i:Nat)(s:Nat×List BL),L[i]?=some s->∃a b c,xs[i*4]?=some (.int .i64 s.1)/\xs[i*4+1]?=some a/\xs[i*4+2]?=some b/\xs[i*4+3]?=some c/\CH X w a b c s.2
theorem GN.nil(X:Np)(w:World)(B:Nat):GN X w B Nl 0 [] []:=⟨Q2 _ _ _ _,rfl,fun i a h=>by simp at h⟩
theorem GN.on{L:List (Nat×Ly)}(h:GN X w B cv n L xs)(e:∀k,cv.ownBlock=some k->w'.heap[k]?=w.heap[k]?)(d:∀k,k<w.hz->¬X k->CG w k->w'.heap[k]?=w.heap[k]?/\¬Y k):GN Y w' B cv n L xs:=
 ⟨Aj h.owns e,h.len,fun i s f=>by
  obtain⟨a,b,c,j,l,m,o,g⟩:=h.all i s f;exact⟨a,b,c,j,l,m,o,g.on d⟩⟩
theorem GN.ext{B':Nat}{L:List (Nat×Ly)}(h:GN X w B cv n L xs)(e:Ao w w')(c:∀k,Y k->X k)(b:B'<=B):GN Y w' B' cv n L xs:=by
 have:=h.on (Y:=Y) (w':=w') (fun k a=>e.block k (h.owns.lt k a).2) (fun k a hn _=>⟨e.block k a,fun h=>hn (c k h)⟩);exact⟨AI this.owns b,this.len,this.all⟩
theorem GN.step{cv':Value}{L:List (Nat×Ly)}{a b c:Value}{v:Nat}{t:Ly}(h:GN X w B cv n L xs)(j:CH X w a b c t)(ha:Ar w B 300 4 cv (n+1) (xs++[Vi v,a,b,c]) cv' w'):
  GN X w' B cv' (n+1) (L++[(v,t)]) (xs++[Vi v,a,b,c]):=by
 have o:∀{a b c:Value}{l:Ly},CH X w a b c l->CH X w' a b c l:=fun j=>j.on (fun k x z y=>by
  obtain⟨F,u⟩:=y;exact⟨ha.kept.block k x (Ai h.owns Yd u),z⟩)
 have f:=h.owns.1;have m:=h.len;refine⟨ha.owns,by simp[m],fun i s d=> ?_⟩;rcases QB i L.length with hi|hi
 ·rw[Qc hi]at d;obtain⟨p,q,r,A,C,D,E,g⟩:=h.all i s d;refine⟨p,q,r,?_,?_,?_,?_,o g⟩
  ·rw[Qc Yo];exact A
  ·rw[Qc Yo];exact C
  ·rw[Qc Yo];exact D
  ·rw[Qc Yo];exact E
 ·have:=(Qa.1 d).1;simp at this;have e:i=L.length:=Yo
  subst e;simp at d;subst d;rw[m];refine⟨a,b,c,?_,?_,?_,?_,o j⟩
  ·rw[Qd Yo,f];simp
  ·rw[Qd Yo,f];simp
  ·rw[Qd Yo,f];simp
  ·rw[Qd Yo,f];simp
structure Du(Y:Nat->Prop)(B:Nat)(u u':World):Prop where
 size:u.heap.size<=u'.heap.size
 block:∀k,k<u.heap.size->¬Y k->u'.heap[k]?=u.heap[k]?
 low:Below B u u'
theorem Du.ext{u a:World}(h:Ao u a)(b:B<=u.hz):Du Y B u a:=⟨h.size,fun k c _=>h.block k c,h.mono b⟩
theorem Du.of{u a:World}(h:Ad S u a)(d:B<=u.hz)(b:∀k,S k->Y k)(c:∀k,S k->B<=k):Du Y B u a:=⟨h.size,fun k f hn=>h.block k f (fun e=>hn (b k e)),h.below d c⟩
theorem Du.trans{u a b:World}(h:Du Y B u a)(k:Du Y B a b):Du Y B u b:=⟨Qq h.size k.size,fun i hi hn=>(k.block i (Nat.lt_of_lt_of_le hi h.size) hn).trans (h.block i hi hn),h.low.trans k.low⟩
theorem CH.stay{u d:World}{a b c:Value}(h:CH Y u a b c l)(f:Du Y B u d):CH Y d a b c l:=h.on (fun k e hn _=>⟨f.block k e hn,hn⟩)
theorem GN.stay{u b:World}{B':Nat}{L:List (Nat×Ly)}(h:GN Y u B' cv n L xs)(a:Du Y B u b)(c:∀k,B'<=k->¬Y k):GN Y b B' cv n L xs:=
 h.on (fun k e=>a.block k (h.owns.lt k e).2 (c k (h.owns.lt k e).1)) (fun k d hn _=>⟨a.block k d hn,hn⟩)
theorem Du.put3{u:World}(hb:B<=b/\b<B+n)(c:B<=u.hz)(x y a:Value):Du (A9 X B n) B u (((u.setCell ⟨b,0,none⟩ x).setCell ⟨b,1,none⟩ y).setCell ⟨b,2,none⟩ a):=
 Du.of (S:=only b) ((((Ad.refl (only b) u).put 0 x).put 1 y).put 2 a) c (fun k e=>Or.inr (by have e:k=b:=e;omega)) (fun k e=>by have e:k=b:=e;omega)
theorem ES(h:A9 X B n k)(a:k<B):X k:=by
 rcases h with h|h
 ·exact h
 ·omega
def EU(V:List Nat)(l:Ly):Nat:=(V.filter (fun v=>l.any (fun s=>s.name.isEmpty&&s.num==v))).length
theorem KE{v:Nat}:l.any (fun s=>s.name.isEmpty&&s.num==v)=true↔Cj v l:=by
 simp only[List.any_eq_true,Q6,beq_iff_eq,List.isEmpty_iff];constructor
 ·rintro⟨s,h,a,b⟩;exact⟨s,h,a,b⟩
 ·rintro⟨s,h,a,b⟩;exact⟨s,h,a,b⟩
theorem MO{V:List Nat}{a:Ly}{v:Nat}(d:v∈V)(b:Cj v l)(hn:¬Cj v a)(c:∀n,Cj n a->Cj n l):EU V a<EU V l:=by
 unfold EU;refine Ju (x:=v) (fun n _ h=>KE.2 (c n (KE.1 h))) d (KE.2 b) ?_
 cases h:a.any (fun s=>s.name.isEmpty&&s.num==v)with
 |false=>rfl
 |true=>exact absurd (KE.1 h) hn
theorem E4{v:Nat}{y:Ly}(h:Cj n (ap (Bv v y) l)):(n≠v/\Cj n l)\/(Cj v l/\Cj n y):=by
 rw[JJ]at h;obtain⟨k,b,a⟩:=h;unfold Bv at a;split at a
 ·rename_i e;subst e;exact Or.inr ⟨b,a⟩
 ·rename_i e;rw[Ez]at a;subst a;exact Or.inl ⟨e,b⟩
def OX(L:List (Nat×Ly)):Prop:=(∀s∈L,Wf 1 s.2/\s.2.length<=30)/\∀k n,(Fj (L.take k) n).length<=30
theorem OX.nil:OX []:=⟨Ys,fun k n=>by simp[Fj,vr]⟩
theorem OX.snoc{L:List (Nat×Ly)}(h:OX L){v:Nat}{t m la lb:Ly}(g:Wf 1 t/\t.length<=30)(b:Hm l m (Fj (L++[(v,t)])) la lb)(ha:la.length<=30)(hb:lb.length<=30):OX (L++[(v,t)]):=by
 refine⟨fun s a=> ?_,fun k n=> ?_⟩
 ·rcases Qk.1 a with a|a
  ·exact h.1 s a
  ·simp at a;subst a;exact g
 ·rcases QB k (L.length+1)with f|f
  ·rw[List.take_append_of_le_length Yo];exact h.2 k n
  ·rw[List.take_of_length_le Yp];have e:∀{l:Ly},Cj n l->1<=l.length:=fun⟨s,a,_⟩=>by cases ‹Ly›with|nil=>simp at a|cons _ _=>simp
   by_cases c:Cj n l
   ·have:=FE b.ts c;rw[<-b.ha]at this;have:=e c;omega
   ·by_cases d:Cj n m
    ·have:=FE b.ts d;rw[<-b.hb]at this;have:=e d;omega
    ·rw[b.own n c d];simp[vr]
def K1(X:Np)(l m:Ly)(w w':World)(r:Value):Prop:=
 (r= .tuple #[.slice none 0 0,.int .i64 0]/\Dg l m)\/(r= .tuple #[.slice none 0 0,.int .i64 3]/\Hp l m)\/
 (∃cv L xs,r= .tuple #[cv,.int .i64 1]/\GN X w' w.heap.size cv L.length L xs/\I5 (Fj L) l m/\(ap (Fj L) l).length<=30/\OX L/\L.length<=60)
theorem Gv(a:1<=k)(h:∀n,(σ n).length<=k)(l:Ly):(ap σ l).length<=l.length*k:=by
 induction l with
 |nil=>simp[ap]
 |cons s l b=>
  rw[Bw];have:(EG σ s).length<=k:=by
   unfold EG;split
   ·exact h _
   ·simpa using a
  simp only[Qg,Qf,Nat.add_mul,Nat.one_mul];omega
theorem E6{v:Nat}{t:Ly}(a:t.length<=30)(hl:l.length<=30):(ap (Bv v t) l).length<=900:=by
 have:=Gv (σ:=Bv v t) (k:=30) Yo (fun n=>by
  unfold Bv;split
  ·exact a
  ·simp[vr]) l
 omega
theorem DY.len{a b x y:Ly}(h:DY a b x y):x.length<=a.length/\y.length<=b.length:=by
 obtain⟨p,c,d,rfl,rfl⟩:=h.ex;simp;omega
set_option maxHeartbeats 8000000 in
theorem WU(w:World)(X:Np)(a b c fe ff fg:Value)(l m:Ly)(h:CH X w a b c l)(dn:CH X w fe ff fg m)(fr:∀k,X k->k<w.hz)(hl:l.length<=30)(g0:m.length<=30):
  Calls prog 181 #[.agg #[a,b,c],.agg #[fe,ff,fg]] w fun e w'=>∃r,e= .returned r/\Ao w w'/\K1 X l m w w' r:=by
 have w1:=h.wf _ (Qe _);have w2:=dn.wf _ (Qe _);obtain⟨ga,f7,fh,fj,fi,rfl,rfl,rfl⟩:=h.shape;obtain⟨s2,f8,fk,fm,fl,rfl,rfl,rfl⟩:=dn.shape;have dq:=hd h;have dr:=hd dn;have a3:=hd fr;have gj:=hd w1;have gl:=hd w2;obtain⟨V,fq⟩:∃V:List Nat,V=(l++m).map BL.num:=⟨_,rfl⟩;have dy:Hd (V.length<=60/\∀v,Cj v l\/Cj v m->v∈V):=by
  subst fq;refine⟨by simp;omega,fun v f3=> ?_⟩;rw[<-Ca]at f3;obtain⟨s,g3,_,e⟩:=f3;exact Q0.2 ⟨s,g3,e⟩
 clear h dn fr w1 w2 fq;go_enter func181,h4;go_wp2
 go_loopg [8] (EU V (l++m)+1) (fun gk gw wr=>∃(L:List (Nat×Ly))(xs:Lv)(la lb:Ly)(di:ByteArray)(df:Nat)(ce:Oa)(cg cf:Nat)(dj:ByteArray)(dg:Nat)(ch:Oa)(cj ci:Nat),
   Ao w wr/\GN (A9 X w.hz 4) wr (w.hz+4) gw L.length L xs/\Hm l m (Fj L) la lb/\la.length<=30/\lb.length<=30/\OX L/\EU V (la++lb)<gk/\L.length+EU V (la++lb)<=60/\
   wr.heap[w.hz]?=some (.cells #[.string di,Vi df,.slice ce cg cf] 183 (0,0))/\wr.heap[w.hz+1]?=some (.cells #[.string dj,Vi dg,.slice ch cj ci] 183 (0,0))/\
   wr.heap[w.hz+1+1]?=some (.cells #[.string ga,Vi f7,.slice fh fj fi] 183 (0,0))/\wr.heap[w.hz+1+1+1]?=some (.cells #[.string s2,Vi f8,.slice fk fm fl] 183 (0,0))/\
   CH (A9 X w.hz 4) wr (.string di) (Vi df) (.slice ce cg cf) la/\CH (A9 X w.hz 4) wr (.string dj) (Vi dg) (.slice ch cj ci) lb)
 case atStart=>
  have ft:∀k,k<w.hz->A9 X w.hz 4 k->X k:=fun k z h=>by
   rcases h with h|h
   ·exact h
   ·omega
  refine⟨[],[],l,m,ga,f7,fh,fj,fi,s2,f8,fk,fm,fl,Mxt,GN.nil _ _ _,Hm.start gj.o gl.o,hl,g0,OX.nil,Yo,?_,?_,?_,?_,?_,dq.o.ext Mxt ft,dr.o.ext Mxt ft⟩
  ·have:EU V (l++m)<=V.length:=List.length_filter_le _ _;have:=dy.o.1;simp;omega
  ·exact Ah (Ah (Ah (QL w _) _) _) _
  ·simpa using Ah (Ah (QL (w.alloc _) _) _) _
  ·simpa using Ah (QL ((w.alloc _).alloc _) _) _
  ·simpa using QL (((w.alloc _).alloc _).alloc _) _
 case round=>
  obtain⟨L,xs,la,lb,di,df,ce,cg,cf,dj,dg,ch,cj,ci,fx,ew,fw,cu,dp,fp,fy,fo,h0,el,fn,em,eu,ev⟩:=hrel;obtain⟨hp,b1,b2,hq⟩:=BB h0;obtain⟨hr,hs,ht,hu⟩:=BB el;obtain⟨dl,dm,rfl⟩:=Ac ew.owns;have hx:=Ab em;have fs:∀k,A9 X w.hz 4 k->k<wr.hz:=fun k h=>by have:=Dd a3.o k h;omega
  have gb:=hd (Rx la.length wr (A9 X w.hz 4) _ _ _ _ _ _ la lb (Qe _) Yo Yo eu ev fs);have G:=hd fx;have ed:=hd ew;have ac:=hd fw;have dw:=hd fp;have e7:=hd h0;have e8:=hd el;have e9:=hd fn;have fa:=hd em;have fc:=hd eu;have fd:=hd ev;have fb:=hd fy;have b0:=hd fo;clear fx ew fw fp h0 el fn em eu ev fs fy fo;go_wp2_with fail;apply gb.o.mono;rintro e w1 ⟨r,rfl,eq,aa,n5,au,aw,av,ab,d,ax,az,ay,q,rfl,f1,f2⟩;have H:=hd eq;have hw:=eq.size;have gg:=hd f1;have gh:=hd f2;clear eq f1 f2
  cases q
  ·have ge:Hd (la=lb):=gg.o rfl;go_wp2;go_ret2;have z:∀o f9,Ao wr ((w1.alloc o).alloc f9):=fun o f9=>H.o.trans (((Below.refl _ w1).alloc Yo _).alloc Yp _);refine⟨_,rfl,G.o.trans ((z _ _).mono G.o.size),Or.inr (Or.inr ⟨_,L,xs,rfl,?_,ac.o.done ge.o,by rw[<-ac.o.ha];exact cu,dw.o,by have:=b0.o;omega⟩)⟩;exact ed.o.ext (z _ _) (fun k h=>Or.inl h) Yo
  ·obtain⟨x,y,bw,bx,bq⟩:=gh.o rfl;have hv:=bq.len;rcases bw.o with⟨v,a0,er,fu,rfl⟩|⟨nm,ls,h5,fz,a0,er,bz,_⟩
   ·simp only[Value.string.injEq,Value.int.injEq,true_and,QH]at a0 er fu;obtain⟨rfl,rfl,rfl⟩:=fu;subst a0;have g1:n5=v:=Yo
    subst g1;have ei:=hd (fun g (f:Ao w1 g)=>L6 y.length g (A9 X w.hz 4) _ _ _ y n5 (Qe _) Yo (bx.ext f (fun j _ h=>Or.inl h)));have eg:=hd bx;have P:=hd bq;clear bw bx bq;go_wp2_with fail;apply(ei.o _ Mxt).mono;rintro e w2 ⟨r,rfl,S,ct⟩;have B:Hd (Ao w1 w2):=Below.trans Mxt (S.mono Yp);have b5:=hd ct;have ex:=S.size;simp at ex;have bk:w2.heap[w1.hz]?=some (.cells #[.string ⟨#[]⟩,Vi n5,Nl] 183 (0,0)):=(S.block _ Yp).trans (Ah (QL w1 _) _);have bf:w2.heap[w1.hz+1]?=some (.cells #[.string ab,Vi d,.slice ax az ay] 183 (0,0)):=(S.block _ Ys).trans (by simpa using QL (w1.alloc _) _);obtain⟨hk,hm,hn,ho⟩:=BB bk;obtain⟨hf,hg,hh,hi⟩:=BB bf;have gd:=hd bk;have gc:=hd bf;clear S ct bk bf
    cases r
    ·have ak:Du (A9 X w.hz 4) w.hz wr w2:=(Du.ext H.o Yo).trans (Du.ext B.o Yo);have g7:=ak.size;have bc:=((B.o.block w.hz Yo).trans (H.o.block _ Yo)).trans e7.o;have bg:=((B.o.block (w.hz+1) Yo).trans (H.o.block _ Yo)).trans e8.o;obtain⟨a8,a9,ba,bb⟩:=BB bc;obtain⟨al,am,an,ao⟩:=BB bg;have de:w.hz<w2.hz:=Yo
     have e1:w.hz+1<w2.hz:=Yo
     have g8:w1.hz<w2.hz:=Yo
     have g9:w1.hz+1<w2.hz:=Yo
     have b9:Hd (CH (A9 X w.hz 4) w2 (.string ab) (Vi d) (.slice ax az ay) y):=(eg.o.ext (Y:=A9 X w.hz 4) (w':=w2) B.o (fun k _ h=>Or.inl h));have ds:=hd (fun g (f:Ao w2 g)=>Jm la.length g (A9 X w.hz 4) (.string di) (Vi df) (.slice ce cg cf) la n5 (.string ab) (Vi d) (.slice ax az ay) y (Qe _) ((fc.o.stay ak).ext f (fun _ _ h=>h)) (b9.o.ext f (fun _ _ h=>h)) (fun k h=>by have:=Dd a3.o k h;have:=f.size;omega) (by have:=E6 (v:=n5) (t:=y) (l:=la) Yo cu;omega));have eh:=hd ak;have b3:=hd bc;have d2:=hd bg;clear ak bc bg;go_wp2_with fail;apply(ds.o _ Mxt).mono;rintro e w3 ⟨gm,gp,gr,rfl,aj,bt⟩;obtain⟨dk,dh,ck,cm,cl,rfl,rfl,rfl⟩:=bt.shape;have ey:=aj.size;simp at ey;have E:Ao w2 w3:=(Mxt:Ao w2 _).trans (aj.mono Ys);have g4:=E.size;obtain⟨a8,a9,ba,bb⟩:=BB ((E.block _ de).trans b3.o);have bh:=(E.block _ e1).trans d2.o;obtain⟨al,am,an,ao⟩:=BB bh;have I:w3.heap[w2.hz]?=some (.cells #[Vi n5,.string ab,Vi d,.slice ax az ay] 300 (0,0)):=(aj.block _ Ys).trans (QL w2 _);have q0:w3.cell? ⟨w2.hz,0,none⟩=some (Vi n5):=Aa I 0 _ rfl;have e2:w3.cell? ⟨w2.hz,1,none⟩=some (.string ab):=Aa I 1 _ rfl;have e3:w3.cell? ⟨w2.hz,2,none⟩=some (Vi d):=Aa I 2 _ rfl;have e4:w3.cell? ⟨w2.hz,3,none⟩=some (.slice ax az ay):=Aa I 3 _ rfl;have c3:Du (A9 X w.hz 4) w.hz wr w3:=eh.o.trans (Du.ext E Yo);have a1:=hd E;have dx:=hd I;have a6:=hd c3;have d9:=hd bt;have ca:=hd (b9.o.ext E (fun _ _ h=>h));have d3:=hd bh;have hb:¬w2.hz=w.hz:=Yo
     have hc:¬w.hz+1=w.hz:=Yo
     clear aj bt E I c3 bh;have dt:=hd (fun g (f:Du (A9 X w.hz 4) w.hz w3 g)=>Jm lb.length g (A9 X w.hz 4) (.string dj) (Vi dg) (.slice ch cj ci) lb n5 (.string ab) (Vi d) (.slice ax az ay) y (Qe _) (fd.o.stay (a6.o.trans f)) (ca.o.stay f) (fun k h=>by have:=Dd a3.o k h;have:=f.size;omega) (by have:=E6 (v:=n5) (t:=y) (l:=lb) Yo dp;omega));go_wp2_with fail;apply(dt.o _ (Du.put3 Yo Yo _ _ _)).mono;rintro e w4 ⟨gn,gq,gs,rfl,A,bu⟩;obtain⟨ar,aq,af,ah,ag,rfl,rfl,rfl⟩:=bu.shape;have ez:=A.size;simp at ez;have J:=GP ((a1.o.block _ de).trans b3.o) (.string dk) (Vi dh) (.slice ck cm cl);have W:Du (A9 X w.hz 4) w.hz w3 w4:=(Du.put3 Yo Yo _ _ _).trans (Du.ext A Yp);have bd:=(A.block w.hz Yp).trans J.1;have bi:=(A.block (w.hz+1) Yp).trans ((J.2.block _ Yo Yo).trans d3.o);have Q:=(A.block w2.hz Yp).trans ((J.2.block _ Yo Yo).trans dx.o);have cp:=(A.block (w.hz+1+1) Yp).trans ((J.2.block _ Yo Yo).trans ((a1.o.block _ Yo).trans (((B.o.block _ Yo).trans (H.o.block _ Yo)).trans e9.o)));have cr:=(A.block (w.hz+1+1+1) Yp).trans ((J.2.block _ Yo Yo).trans ((a1.o.block _ Yo).trans (((B.o.block _ Yo).trans (H.o.block _ Yo)).trans fa.o)));obtain⟨a8,a9,ba,bb⟩:=BB bd;obtain⟨al,am,an,ao⟩:=BB bi;have q0:w4.cell? ⟨w2.hz,0,none⟩=some (Vi n5):=Aa Q 0 _ rfl;have e2:w4.cell? ⟨w2.hz,1,none⟩=some (.string ab):=Aa Q 1 _ rfl;have e3:w4.cell? ⟨w2.hz,2,none⟩=some (Vi d):=Aa Q 2 _ rfl;have e4:w4.cell? ⟨w2.hz,3,none⟩=some (.slice ax az ay):=Aa Q 3 _ rfl;have K:=GP bi (.string ar) (Vi aq) (.slice af ah ag);obtain⟨cd,R⟩:∃ek,ek=((w4.setCell ⟨w.hz+1,0,none⟩ (.string ar)).setCell ⟨w.hz+1,1,none⟩ (Vi aq)).setCell ⟨w.hz+1,2,none⟩ (.slice af ah ag):=⟨_,rfl⟩;have F:Du (A9 X w.hz 4) w.hz w4 cd:=by rw[R];exact Du.put3 Yo Yo _ _ _
     rw[<-R]at K;have g6:=F.size;have cn:∀k,w.hz+4<=k->¬A9 X w.hz 4 k:=fun k z h=>by have:=Dd a3.o k h;omega
     have bv:=ed.o.stay (a6.o.trans (W.trans F)) cn;have cx:=d9.o.stay (W.trans F);have cy:=bu.stay F;have c1:=ca.o.stay (W.trans F);have c4:=a6.o.trans (W.trans F);have co:=(K.2.block w.hz Yo Yo).trans bd;have cq:=(K.2.block (w.hz+1+1) Yo Yo).trans cp;have cs:=(K.2.block (w.hz+1+1+1) Yo Yo).trans cr;have ae:=hd bv;have ea:=hd cx;have eb:=hd cy;have ec:=hd c1;have a7:=hd c4;have d1:=hd co;have d4:=hd K.1;have d5:=hd cq;have d6:=hd cs;have dz:=hd R;have ef:Hd ((((w4.setCell ⟨w.hz+1,0,none⟩ (.string ar)).setCell ⟨w.hz+1,1,none⟩ (Vi aq)).setCell ⟨w.hz+1,2,none⟩ (.slice af ah ag)).ownsRow (w.hz+4) 300 4 (.slice dl L.length dm) L.length xs):=by
      rw[<-R];exact bv.owns
     have he:¬w2.hz=w.hz+1:=Yo
     have gx:=b0.o;clear A bu W bd bi Q cp cr J K F bv cx cy c1 c4 co cq cs R cn
     go_wp2_with (at_builtin;refine Am _ rfl (.tmp 52) (.tmp 54) 283 rfl (w.hz+4) 300 infoSub underlying283 rfl Yd _ L.length xs rfl ef.o _ rfl Ys rfl Tr ?_ ?_ ?_)
     ·omega
     ·simp;omega
     rw[<-dz.o];intro cv' w5 p;obtain⟨gt,gu,rfl⟩:=Ac p.owns;have T:∀k,k<w.hz+4->¬Ak (.slice dl L.length dm) k:=fun k z e=>by have:=(ae.o.owns.lt k e).1;omega
     have be:=(p.kept.block _ Yo (T w.hz Yo)).trans d1.o;have bj:=(p.kept.block _ Yo (T (w.hz+1) Yo)).trans d4.o;have bl:=(p.kept.block _ Yo (T (w.hz+1+1) Yo)).trans d5.o;have bn:=(p.kept.block _ Yo (T (w.hz+1+1+1) Yo)).trans d6.o;have U:∀{a b c:Value}{t:Ly},CH (A9 X w.hz 4) cd a b c t->CH (A9 X w.hz 4) w5 a b c t:=fun et=>et.on (fun k z bz e0=>by
      obtain⟨gv,ep⟩:=e0;exact⟨p.kept.block k z (Ai ae.o.owns Yd ep),bz⟩)
     have c2:=ae.o.step ec.o p;have br:=U ea.o;have bs:=U eb.o;have cw:Below w.hz w w5:=(G.o.trans a7.o.low).trans (p.kept.below Yo (fun k e=>by have:=(ae.o.owns.lt k e).1;omega));have cz:=U ((dq.o.ext G.o (fun k z h=>ES h z)).stay a7.o);have c0:=U ((dr.o.ext G.o (fun k z h=>ES h z)).stay a7.o);obtain⟨a8,a9,ba,bb⟩:=BB be;obtain⟨al,am,an,ao⟩:=BB bj;obtain⟨c6,c7,c8,c9⟩:=BB bl;obtain⟨da,db,dc,dd⟩:=BB bn;have a0:=p.kept.size;have bm:=ac.o.step (v:=n5) (y:=y) (Or.inl P.o) rfl;rw[<-K3]at bm;have gy:=E6 (v:=n5) (t:=y) (l:=la) Yo cu;have gz:=E6 (v:=n5) (t:=y) (l:=lb) Yo dp;have du:=hd (GJ (ap (Bv n5 y) la).length w5 (A9 X w.hz 4) _ _ _ (ap (Bv n5 y) la) (Qe _) Yo br);have dv:=hd (fun g (f:Ao w5 g)=>GJ (ap (Bv n5 y) lb).length g (A9 X w.hz 4) _ _ _ (ap (Bv n5 y) lb) (Qe _) Yo (bs.ext f (fun _ _ h=>h)));have d0:=hd be;have b4:=hd bj;have a4:=hd bl;have a5:=hd bn;have ee:=hd c2;have d7:=hd br;have d8:=hd bs;have O:=hd cw;have b7:=hd cz;have b8:=hd c0;have ad:=hd bm;have b6:Hd (Cj n5 la):=P.o.occ.1 (Ez.2 rfl);have cc:Hd (∀k,Cj k y->Cj k lb):=fun k=>P.o.occ.2;have ej:Hd (Wf 1 y/\y.length<=30):=⟨P.o.wy,Yo⟩;clear be bj bl bn U c2 br bs cw cz c0 bm T p;go_wp2_with fail;apply du.o.mono;rintro e hj ⟨rfl,M⟩;have N:=hd M;have Z:=M.size;obtain⟨al,am,an,ao⟩:=BB ((M.block _ Yo).trans b4.o);obtain⟨c6,c7,c8,c9⟩:=BB ((M.block _ Yo).trans a4.o);obtain⟨da,db,dc,dd⟩:=BB ((M.block _ Yo).trans a5.o);clear M
     by_cases ai:30<(ap (Bv n5 y) la).length
     ·have en:(30:Int)<((ap (Bv n5 y) la).length:Nat):=Yo
      have a2:=hd (fun g (f:Ao w5 g)=>H7 g (A9 X w.hz 4) _ _ _ _ _ _ l m (b7.o.ext f (fun _ _ h=>h)) (b8.o.ext f (fun _ _ h=>h)) Yo);go_wp2_with fail;apply(a2.o _ N.o).mono;rintro e e6 ⟨e5,rfl,u,⟨rfl,n⟩|⟨rfl,n⟩⟩
      ·have C:=hd u;have D:=hd (ad.o.vast (Or.inl ai) n);clear u n;go_wp2;refine bodyPost_ret (v:= .tuple #[Nl,Vi 3]) (by simp[results,results181,go_sem]) rfl ?_;exact⟨_,rfl,O.o.trans ((Below.trans N.o (C.o.mono Yo)).mono Yo),Or.inr (Or.inl ⟨rfl,D.o⟩)⟩
      ·have C:=hd u;have D:=hd n;clear u n;go_wp2;refine bodyPost_ret (v:= .tuple #[Nl,Vi 0]) (by simp[results,results181,go_sem]) rfl ?_;exact⟨_,rfl,O.o.trans ((Below.trans N.o (C.o.mono Yo)).mono Yo),Or.inl ⟨rfl,D.o⟩⟩
     ·have en:¬(30:Int)<((ap (Bv n5 y) la).length:Nat):=Yo
      have cv:(ap (Bv n5 y) la).length<=30:=Yo
      clear ai;go_wp2_with fail;apply(dv.o _ N.o).mono;rintro e w7 ⟨rfl,bo⟩;have i:=hd (Below.trans N.o (bo.mono Z));have g5:=bo.size;obtain⟨c6,c7,c8,c9⟩:=BB ((i.o.block _ Yo).trans a4.o);obtain⟨da,db,dc,dd⟩:=BB ((i.o.block _ Yo).trans a5.o);clear bo
      by_cases ai:30<(ap (Bv n5 y) lb).length
      ·have eo:(30:Int)<((ap (Bv n5 y) lb).length:Nat):=Yo
       have a2:=hd (fun g (f:Ao w5 g)=>H7 g (A9 X w.hz 4) _ _ _ _ _ _ l m (b7.o.ext f (fun _ _ h=>h)) (b8.o.ext f (fun _ _ h=>h)) Yo);go_wp2_with fail;apply(a2.o _ i.o).mono;rintro e e6 ⟨e5,rfl,u,⟨rfl,n⟩|⟨rfl,n⟩⟩
       ·have C:=hd u;have D:=hd (ad.o.vast (Or.inr ai) n);clear u n;go_wp2;refine bodyPost_ret (v:= .tuple #[Nl,Vi 3]) (by simp[results,results181,go_sem]) rfl ?_;exact⟨_,rfl,O.o.trans ((Below.trans i.o (C.o.mono Yo)).mono Yo),Or.inr (Or.inl ⟨rfl,D.o⟩)⟩
       ·have C:=hd u;have D:=hd n;clear u n;go_wp2;refine bodyPost_ret (v:= .tuple #[Nl,Vi 0]) (by simp[results,results181,go_sem]) rfl ?_;exact⟨_,rfl,O.o.trans ((Below.trans i.o (C.o.mono Yo)).mono Yo),Or.inl ⟨rfl,D.o⟩⟩
      ·have eo:¬(30:Int)<((ap (Bv n5 y) lb).length:Nat):=Yo
       have bp:¬Cj n5 y:=fun h=>by have:=b5.o.2 h;simp at this
       have c5:EU V (ap (Bv n5 y) la++ap (Bv n5 y) lb)<EU V (la++lb):=by
        refine MO (v:=n5) (dy.o.2 n5 (ac.o.occs (Or.inl b6.o))) (Ca.2 (Or.inl b6.o)) (fun h=> ?_) (fun k h=> ?_)
        ·rw[Ca]at h;rcases h with h|h
         ·rcases E4 h with⟨h,_⟩|⟨_,h⟩
          ·exact h rfl
          ·exact bp h
         ·rcases E4 h with⟨h,_⟩|⟨_,h⟩
          ·exact h rfl
          ·exact bp h
        ·rw[Ca]at h⊢;rcases h with h|h
         ·rcases E4 h with⟨_,h⟩|⟨_,h⟩
          ·exact Or.inl h
          ·exact Or.inr (cc.o k h)
         ·rcases E4 h with⟨_,h⟩|⟨_,h⟩
          ·exact Or.inr h
          ·exact Or.inr (cc.o k h)
       have cb:=hd c5;clear c5 bp;go_wp2
       go_roundg (EU V (la++lb))
       case measure=>exact fb.o
       case rel=>
        refine⟨L++[(n5,y)],xs++[Vi n5,.string ab,Vi d,.slice ax az ay],ap (Bv n5 y) la,ap (Bv n5 y) lb,dk,dh,ck,cm,cl,ar,aq,af,ah,ag,O.o.trans (i.o.mono Yo),?_,ad.o,cv,Yo,?_,cb.o,?_,
         (i.o.block _ Yo).trans d0.o,(i.o.block _ Yo).trans b4.o,(i.o.block _ Yo).trans a4.o,(i.o.block _ Yo).trans a5.o,d7.o.ext i.o (fun _ _ h=>h),d8.o.ext i.o (fun _ _ h=>h)⟩
        ·have:=ee.o.ext i.o (Y:=A9 X w.hz 4) (B':=w.hz+4) (fun _ h=>h) (Qe _);simpa using this
        ·exact dw.o.snoc ej.o ad.o cv Yo
        ·have:=cb.o;have:=b0.o;simp;omega
    ·go_wp2;refine bodyPost_ret (v:= .tuple #[Nl,Vi 0]) (by simp[results,results181,go_sem]) rfl ?_;refine⟨_,rfl,(G.o.trans (H.o.mono G.o.size)).trans (B.o.mono Yo),Or.inl ⟨rfl,ac.o.none (Or.inl (Ke P.o rfl (b5.o.1 trivial)))⟩⟩
   ·have f4:aa.toList.isEmpty=false:=by
     simp only[Value.string.injEq]at a0;subst a0;rw[DA];simpa using fz
    have hy:¬aa.toList=[]:=by
     intro e;rw[e]at f4;simp at f4
    have gi:=hd bz;clear a0 er bz;rcases bx.o with⟨v,Z,es,fv,rfl⟩|⟨h3,h2,h6,f0,Z,es,f5,_⟩
    ·simp only[Value.string.injEq,Value.int.injEq,true_and,QH]at Z es fv;obtain⟨rfl,rfl,rfl⟩:=fv;subst Z;have g2:d=v:=Yo
     subst g2;have ei:=hd (fun g (f:Ao w1 g)=>L6 x.length g (A9 X w.hz 4) _ _ _ x d (Qe _) Yo (bw.ext f (fun j _ h=>Or.inl h)));have eg:=hd bw;have P:=hd bq.symm;clear bx bw bq;go_wp2_with fail;apply(ei.o _ Mxt).mono;rintro e w2 ⟨r,rfl,S,ct⟩;have B:Hd (Ao w1 w2):=Below.trans Mxt (S.mono Yp);have b5:=hd ct;have ex:=S.size;simp at ex;have bk:w2.heap[w1.hz]?=some (.cells #[.string ⟨#[]⟩,Vi d,Nl] 183 (0,0)):=(S.block _ Yp).trans (Ah (Ah (QL w1 _) _) _);have bf:w2.heap[w1.hz+1]?=some (.cells #[.string aa,Vi n5,.slice au aw av] 183 (0,0)):=(S.block _ Ys).trans (by simpa using Ah (QL (w1.alloc _) _) _);obtain⟨hk,hm,hn,ho⟩:=BB bk;obtain⟨hf,hg,hh,hi⟩:=BB bf;have gd:=hd bk;have gc:=hd bf;clear S ct bk bf
     cases r
     ·have ak:Du (A9 X w.hz 4) w.hz wr w2:=(Du.ext H.o Yo).trans (Du.ext B.o Yo);have g7:=ak.size;have bc:=((B.o.block w.hz Yo).trans (H.o.block _ Yo)).trans e7.o;have bg:=((B.o.block (w.hz+1) Yo).trans (H.o.block _ Yo)).trans e8.o;obtain⟨a8,a9,ba,bb⟩:=BB bc;obtain⟨al,am,an,ao⟩:=BB bg;have de:w.hz<w2.hz:=Yo
      have e1:w.hz+1<w2.hz:=Yo
      have g8:w1.hz<w2.hz:=Yo
      have g9:w1.hz+1<w2.hz:=Yo
      have b9:Hd (CH (A9 X w.hz 4) w2 (.string aa) (Vi n5) (.slice au aw av) x):=(eg.o.ext (Y:=A9 X w.hz 4) (w':=w2) B.o (fun k _ h=>Or.inl h));have ds:=hd (fun g (f:Ao w2 g)=>Jm la.length g (A9 X w.hz 4) (.string di) (Vi df) (.slice ce cg cf) la d (.string aa) (Vi n5) (.slice au aw av) x (Qe _) ((fc.o.stay ak).ext f (fun _ _ h=>h)) (b9.o.ext f (fun _ _ h=>h)) (fun k h=>by have:=Dd a3.o k h;have:=f.size;omega) (by have:=E6 (v:=d) (t:=x) (l:=la) Yo cu;omega));have eh:=hd ak;have b3:=hd bc;have d2:=hd bg;clear ak bc bg;go_wp2_with fail;apply(ds.o _ Mxt).mono;rintro e w3 ⟨gm,gp,gr,rfl,aj,bt⟩;obtain⟨dk,dh,ck,cm,cl,rfl,rfl,rfl⟩:=bt.shape;have ey:=aj.size;simp at ey;have E:Ao w2 w3:=(Mxt:Ao w2 _).trans (aj.mono Ys);have g4:=E.size;obtain⟨a8,a9,ba,bb⟩:=BB ((E.block _ de).trans b3.o);have bh:=(E.block _ e1).trans d2.o;obtain⟨al,am,an,ao⟩:=BB bh;have I:w3.heap[w2.hz]?=some (.cells #[Vi d,.string aa,Vi n5,.slice au aw av] 300 (0,0)):=(aj.block _ Ys).trans (QL w2 _);have q0:w3.cell? ⟨w2.hz,0,none⟩=some (Vi d):=Aa I 0 _ rfl;have e2:w3.cell? ⟨w2.hz,1,none⟩=some (.string aa):=Aa I 1 _ rfl;have e3:w3.cell? ⟨w2.hz,2,none⟩=some (Vi n5):=Aa I 2 _ rfl;have e4:w3.cell? ⟨w2.hz,3,none⟩=some (.slice au aw av):=Aa I 3 _ rfl;have c3:Du (A9 X w.hz 4) w.hz wr w3:=eh.o.trans (Du.ext E Yo);have a1:=hd E;have dx:=hd I;have a6:=hd c3;have d9:=hd bt;have ca:=hd (b9.o.ext E (fun _ _ h=>h));have d3:=hd bh;have hb:¬w2.hz=w.hz:=Yo
      have hc:¬w.hz+1=w.hz:=Yo
      clear aj bt E I c3 bh;have dt:=hd (fun g (f:Du (A9 X w.hz 4) w.hz w3 g)=>Jm lb.length g (A9 X w.hz 4) (.string dj) (Vi dg) (.slice ch cj ci) lb d (.string aa) (Vi n5) (.slice au aw av) x (Qe _) (fd.o.stay (a6.o.trans f)) (ca.o.stay f) (fun k h=>by have:=Dd a3.o k h;have:=f.size;omega) (by have:=E6 (v:=d) (t:=x) (l:=lb) Yo dp;omega));go_wp2_with fail;apply(dt.o _ (Du.put3 Yo Yo _ _ _)).mono;rintro e w4 ⟨gn,gq,gs,rfl,A,bu⟩;obtain⟨ar,aq,af,ah,ag,rfl,rfl,rfl⟩:=bu.shape;have ez:=A.size;simp at ez;have J:=GP ((a1.o.block _ de).trans b3.o) (.string dk) (Vi dh) (.slice ck cm cl);have W:Du (A9 X w.hz 4) w.hz w3 w4:=(Du.put3 Yo Yo _ _ _).trans (Du.ext A Yp);have bd:=(A.block w.hz Yp).trans J.1;have bi:=(A.block (w.hz+1) Yp).trans ((J.2.block _ Yo Yo).trans d3.o);have Q:=(A.block w2.hz Yp).trans ((J.2.block _ Yo Yo).trans dx.o);have cp:=(A.block (w.hz+1+1) Yp).trans ((J.2.block _ Yo Yo).trans ((a1.o.block _ Yo).trans (((B.o.block _ Yo).trans (H.o.block _ Yo)).trans e9.o)));have cr:=(A.block (w.hz+1+1+1) Yp).trans ((J.2.block _ Yo Yo).trans ((a1.o.block _ Yo).trans (((B.o.block _ Yo).trans (H.o.block _ Yo)).trans fa.o)));obtain⟨a8,a9,ba,bb⟩:=BB bd;obtain⟨al,am,an,ao⟩:=BB bi;have q0:w4.cell? ⟨w2.hz,0,none⟩=some (Vi d):=Aa Q 0 _ rfl;have e2:w4.cell? ⟨w2.hz,1,none⟩=some (.string aa):=Aa Q 1 _ rfl;have e3:w4.cell? ⟨w2.hz,2,none⟩=some (Vi n5):=Aa Q 2 _ rfl;have e4:w4.cell? ⟨w2.hz,3,none⟩=some (.slice au aw av):=Aa Q 3 _ rfl;have K:=GP bi (.string ar) (Vi aq) (.slice af ah ag);obtain⟨cd,R⟩:∃ek,ek=((w4.setCell ⟨w.hz+1,0,none⟩ (.string ar)).setCell ⟨w.hz+1,1,none⟩ (Vi aq)).setCell ⟨w.hz+1,2,none⟩ (.slice af ah ag):=⟨_,rfl⟩;have F:Du (A9 X w.hz 4) w.hz w4 cd:=by rw[R];exact Du.put3 Yo Yo _ _ _
      rw[<-R]at K;have g6:=F.size;have cn:∀k,w.hz+4<=k->¬A9 X w.hz 4 k:=fun k z h=>by have:=Dd a3.o k h;omega
      have bv:=ed.o.stay (a6.o.trans (W.trans F)) cn;have cx:=d9.o.stay (W.trans F);have cy:=bu.stay F;have c1:=ca.o.stay (W.trans F);have c4:=a6.o.trans (W.trans F);have co:=(K.2.block w.hz Yo Yo).trans bd;have cq:=(K.2.block (w.hz+1+1) Yo Yo).trans cp;have cs:=(K.2.block (w.hz+1+1+1) Yo Yo).trans cr;have ae:=hd bv;have ea:=hd cx;have eb:=hd cy;have ec:=hd c1;have a7:=hd c4;have d1:=hd co;have d4:=hd K.1;have d5:=hd cq;have d6:=hd cs;have dz:=hd R;have ef:Hd ((((w4.setCell ⟨w.hz+1,0,none⟩ (.string ar)).setCell ⟨w.hz+1,1,none⟩ (Vi aq)).setCell ⟨w.hz+1,2,none⟩ (.slice af ah ag)).ownsRow (w.hz+4) 300 4 (.slice dl L.length dm) L.length xs):=by
       rw[<-R];exact bv.owns
      have he:¬w2.hz=w.hz+1:=Yo
      have gx:=b0.o;clear A bu W bd bi Q cp cr J K F bv cx cy c1 c4 co cq cs R cn
      go_wp2_with (at_builtin;refine Am _ rfl (.tmp 52) (.tmp 54) 283 rfl (w.hz+4) 300 infoSub underlying283 rfl Yd _ L.length xs rfl ef.o _ rfl Ys rfl Tr ?_ ?_ ?_)
      ·omega
      ·simp;omega
      rw[<-dz.o];intro cv' w5 p;obtain⟨gt,gu,rfl⟩:=Ac p.owns;have T:∀k,k<w.hz+4->¬Ak (.slice dl L.length dm) k:=fun k z e=>by have:=(ae.o.owns.lt k e).1;omega
      have be:=(p.kept.block _ Yo (T w.hz Yo)).trans d1.o;have bj:=(p.kept.block _ Yo (T (w.hz+1) Yo)).trans d4.o;have bl:=(p.kept.block _ Yo (T (w.hz+1+1) Yo)).trans d5.o;have bn:=(p.kept.block _ Yo (T (w.hz+1+1+1) Yo)).trans d6.o;have U:∀{a b c:Value}{t:Ly},CH (A9 X w.hz 4) cd a b c t->CH (A9 X w.hz 4) w5 a b c t:=fun et=>et.on (fun k z bz e0=>by
       obtain⟨gv,ep⟩:=e0;exact⟨p.kept.block k z (Ai ae.o.owns Yd ep),bz⟩)
      have c2:=ae.o.step ec.o p;have br:=U ea.o;have bs:=U eb.o;have cw:Below w.hz w w5:=(G.o.trans a7.o.low).trans (p.kept.below Yo (fun k e=>by have:=(ae.o.owns.lt k e).1;omega));have cz:=U ((dq.o.ext G.o (fun k z h=>ES h z)).stay a7.o);have c0:=U ((dr.o.ext G.o (fun k z h=>ES h z)).stay a7.o);obtain⟨a8,a9,ba,bb⟩:=BB be;obtain⟨al,am,an,ao⟩:=BB bj;obtain⟨c6,c7,c8,c9⟩:=BB bl;obtain⟨da,db,dc,dd⟩:=BB bn;have a0:=p.kept.size;have bm:=ac.o.step (v:=d) (y:=x) (Or.inr P.o) rfl;rw[<-K3]at bm;have gy:=E6 (v:=d) (t:=x) (l:=la) Yo cu;have gz:=E6 (v:=d) (t:=x) (l:=lb) Yo dp;have du:=hd (GJ (ap (Bv d x) la).length w5 (A9 X w.hz 4) _ _ _ (ap (Bv d x) la) (Qe _) Yo br);have dv:=hd (fun g (f:Ao w5 g)=>GJ (ap (Bv d x) lb).length g (A9 X w.hz 4) _ _ _ (ap (Bv d x) lb) (Qe _) Yo (bs.ext f (fun _ _ h=>h)));have d0:=hd be;have b4:=hd bj;have a4:=hd bl;have a5:=hd bn;have ee:=hd c2;have d7:=hd br;have d8:=hd bs;have O:=hd cw;have b7:=hd cz;have b8:=hd c0;have ad:=hd bm;have b6:Hd (Cj d lb):=P.o.occ.1 (Ez.2 rfl);have cc:Hd (∀k,Cj k x->Cj k la):=fun k=>P.o.occ.2;have ej:Hd (Wf 1 x/\x.length<=30):=⟨P.o.wy,Yo⟩;clear be bj bl bn U c2 br bs cw cz c0 bm T p;go_wp2_with fail;apply du.o.mono;rintro e hj ⟨rfl,M⟩;have N:=hd M;have Z:=M.size;obtain⟨al,am,an,ao⟩:=BB ((M.block _ Yo).trans b4.o);obtain⟨c6,c7,c8,c9⟩:=BB ((M.block _ Yo).trans a4.o);obtain⟨da,db,dc,dd⟩:=BB ((M.block _ Yo).trans a5.o);clear M
      by_cases ai:30<(ap (Bv d x) la).length
      ·have en:(30:Int)<((ap (Bv d x) la).length:Nat):=Yo
       have a2:=hd (fun g (f:Ao w5 g)=>H7 g (A9 X w.hz 4) _ _ _ _ _ _ l m (b7.o.ext f (fun _ _ h=>h)) (b8.o.ext f (fun _ _ h=>h)) Yo);go_wp2_with fail;apply(a2.o _ N.o).mono;rintro e e6 ⟨e5,rfl,u,⟨rfl,n⟩|⟨rfl,n⟩⟩
       ·have C:=hd u;have D:=hd (ad.o.vast (Or.inl ai) n);clear u n;go_wp2;refine bodyPost_ret (v:= .tuple #[Nl,Vi 3]) (by simp[results,results181,go_sem]) rfl ?_;exact⟨_,rfl,O.o.trans ((Below.trans N.o (C.o.mono Yo)).mono Yo),Or.inr (Or.inl ⟨rfl,D.o⟩)⟩
       ·have C:=hd u;have D:=hd n;clear u n;go_wp2;refine bodyPost_ret (v:= .tuple #[Nl,Vi 0]) (by simp[results,results181,go_sem]) rfl ?_;exact⟨_,rfl,O.o.trans ((Below.trans N.o (C.o.mono Yo)).mono Yo),Or.inl ⟨rfl,D.o⟩⟩
      ·have en:¬(30:Int)<((ap (Bv d x) la).length:Nat):=Yo
       have cv:(ap (Bv d x) la).length<=30:=Yo
       clear ai;go_wp2_with fail;apply(dv.o _ N.o).mono;rintro e w7 ⟨rfl,bo⟩;have i:=hd (Below.trans N.o (bo.mono Z));have g5:=bo.size;obtain⟨c6,c7,c8,c9⟩:=BB ((i.o.block _ Yo).trans a4.o);obtain⟨da,db,dc,dd⟩:=BB ((i.o.block _ Yo).trans a5.o);clear bo
       by_cases ai:30<(ap (Bv d x) lb).length
       ·have eo:(30:Int)<((ap (Bv d x) lb).length:Nat):=Yo
        have a2:=hd (fun g (f:Ao w5 g)=>H7 g (A9 X w.hz 4) _ _ _ _ _ _ l m (b7.o.ext f (fun _ _ h=>h)) (b8.o.ext f (fun _ _ h=>h)) Yo);go_wp2_with fail;apply(a2.o _ i.o).mono;rintro e e6 ⟨e5,rfl,u,⟨rfl,n⟩|⟨rfl,n⟩⟩
        ·have C:=hd u;have D:=hd (ad.o.vast (Or.inr ai) n);clear u n;go_wp2;refine bodyPost_ret (v:= .tuple #[Nl,Vi 3]) (by simp[results,results181,go_sem]) rfl ?_;exact⟨_,rfl,O.o.trans ((Below.trans i.o (C.o.mono Yo)).mono Yo),Or.inr (Or.inl ⟨rfl,D.o⟩)⟩
        ·have C:=hd u;have D:=hd n;clear u n;go_wp2;refine bodyPost_ret (v:= .tuple #[Nl,Vi 0]) (by simp[results,results181,go_sem]) rfl ?_;exact⟨_,rfl,O.o.trans ((Below.trans i.o (C.o.mono Yo)).mono Yo),Or.inl ⟨rfl,D.o⟩⟩
       ·have eo:¬(30:Int)<((ap (Bv d x) lb).length:Nat):=Yo
        have bp:¬Cj d x:=fun h=>by have:=b5.o.2 h;simp at this
        have c5:EU V (ap (Bv d x) la++ap (Bv d x) lb)<EU V (la++lb):=by
         refine MO (v:=d) (dy.o.2 d (ac.o.occs (Or.inr b6.o))) (Ca.2 (Or.inr b6.o)) (fun h=> ?_) (fun k h=> ?_)
         ·rw[Ca]at h;rcases h with h|h
          ·rcases E4 h with⟨h,_⟩|⟨_,h⟩
           ·exact h rfl
           ·exact bp h
          ·rcases E4 h with⟨h,_⟩|⟨_,h⟩
           ·exact h rfl
           ·exact bp h
         ·rw[Ca]at h⊢;rcases h with h|h
          ·rcases E4 h with⟨_,h⟩|⟨_,h⟩
           ·exact Or.inl h
           ·exact Or.inl (cc.o k h)
          ·rcases E4 h with⟨_,h⟩|⟨_,h⟩
           ·exact Or.inr h
           ·exact Or.inl (cc.o k h)
        have cb:=hd c5;clear c5 bp;go_wp2
        go_roundg (EU V (la++lb))
        case measure=>exact fb.o
        case rel=>
         refine⟨L++[(d,x)],xs++[Vi d,.string aa,Vi n5,.slice au aw av],ap (Bv d x) la,ap (Bv d x) lb,dk,dh,ck,cm,cl,ar,aq,af,ah,ag,O.o.trans (i.o.mono Yo),?_,ad.o,cv,Yo,?_,cb.o,?_,
          (i.o.block _ Yo).trans d0.o,(i.o.block _ Yo).trans b4.o,(i.o.block _ Yo).trans a4.o,(i.o.block _ Yo).trans a5.o,d7.o.ext i.o (fun _ _ h=>h),d8.o.ext i.o (fun _ _ h=>h)⟩
         ·have:=ee.o.ext i.o (Y:=A9 X w.hz 4) (B':=w.hz+4) (fun _ h=>h) (Qe _);simpa using this
         ·exact dw.o.snoc ej.o ad.o cv Yo
         ·have:=cb.o;have:=b0.o;simp;omega
     ·go_wp2;refine bodyPost_ret (v:= .tuple #[Nl,Vi 0]) (by simp[results,results181,go_sem]) rfl ?_;refine⟨_,rfl,(G.o.trans (H.o.mono G.o.size)).trans (B.o.mono Yo),Or.inl ⟨rfl,ac.o.none (Or.inr (Ke P.o rfl (b5.o.1 trivial)))⟩⟩
    ·have f6:ab.toList.isEmpty=false:=by
      simp only[Value.string.injEq]at Z;subst Z;rw[DA];simpa using f0
     have h1:¬ab.toList=[]:=by
      intro e;rw[e]at f6;simp at f6
     have gf:Hd (Dg l m):=ac.o.none (Or.inl (Sp bq gi.o f5 fz f0));clear Z es f5 bq bw bx;go_wp2;refine bodyPost_ret (v:= .tuple #[Nl,Vi 0]) (by simp[results,results181,go_sem]) rfl ?_;exact⟨_,rfl,(G.o.trans (H.o.mono G.o.size)).trans ((Mxt:Ao w1 _).mono Yo),Or.inl ⟨rfl,gf.o⟩⟩
theorem P1(w:World)(X:Np)(W:Nat)(ac:Value)(L:List (Nat×Ly))(xs:Lv)(a b c:Value)(l:Ly)(h:CH X w a b c l)(Q:GN X w W ac L.length L xs)(ad:∀k,X k->k<w.hz)(hb:∀k,(ap (Fj (L.take k)) l).length<=4000)(bs:L.length<=4000):
  Calls prog 183 #[.agg #[a,b,c],ac] w fun e w'=>∃C D E,e= .returned (.agg #[C,D,E])/\Ao w w'/\CH X w' C D E (ap (Fj L) l):=by
 have ai:=h.wf _ (Qe _);obtain⟨bh,bc,az,a1,a0,rfl,rfl,rfl⟩:=h.shape;obtain⟨bz,bj,rfl⟩:=Ac Q.owns;have an:=hd h;have aa:=hd Q;have ar:=hd ad;have au:=hd hb;have ax:=hd ai;clear h Q ad hb ai;go_enter func183,bx;go_wp2
 go_loopg [5] (L.length+1) (fun gk i wr=>∃(k:Nat)(s2:ByteArray)(y:Nat)(m:Oa)(x q:Nat),i=Vi k/\k<=L.length/\L.length-k<gk/\Ao w wr/\
   wr.heap[w.hz]?=some (.cells #[.string s2,Vi y,.slice m x q] 183 (0,0))/\wr.heap[w.hz+1]?=some (.cells #[.string ⟨#[]⟩,Vi 0,Nl] 183 (0,0))/\
   CH (A9 X w.hz 2) wr (.string s2) (Vi y) (.slice m x q) (ap (Fj (L.take k)) l))
 case atStart=>
  refine⟨0,bh,bc,az,a1,a0,Yg,Qm _,Yo,Mxt,Ah (QL w _) _,by simpa using QL (w.alloc _) _,?_⟩;have e:ap (Fj (L.take 0)) l=l:=by rw[List.take_zero];exact Tu ax.o
  rw[e];exact an.o.ext Mxt (fun k J h=>ES h J)
 case round=>
  obtain⟨k,s2,y,m,x,q,rfl,J,bu,ae,h0,I,ah⟩:=hrel;obtain⟨ay,b1,b2,bo⟩:=BB h0;obtain⟨a5,a6,a7,a8⟩:=BB I;have bw:=Ab I;have A:=hd ae;have Z:=hd h0;have ao:=hd I;have ab:=hd ah;clear ae h0 I ah
  by_cases ag:k<L.length
  ·obtain⟨p,T⟩:∃p,L[k]?=some p:=⟨_,Qb ag⟩;obtain⟨v,t⟩:=p;obtain⟨C,D,E,aj,ak,al,am,U⟩:=aa.o.all k _ T;obtain⟨N,M,F,H,G,rfl,rfl,rfl⟩:=U.shape;have z:=aa.o.ext (Y:=X) (B':=W) A.o (fun _ h=>h) (Qe _);obtain⟨g,bp,bq,af,br,ba,bt⟩:=An z.owns Yo;simp only[QH]at af;obtain⟨rfl,_,rfl⟩:=af;have bk:wr.cell? ⟨g,k*4,none⟩=some (Vi v):=Ag z.owns _ _ aj;have bl:wr.cell? ⟨g,k*4+1,none⟩=some (.string N):=Ag z.owns _ _ ak;have bm:wr.cell? ⟨g,k*4+2,none⟩=some (Vi M):=Ag z.owns _ _ al;have bn:wr.cell? ⟨g,k*4+3,none⟩=some (.slice F H G):=Ag z.owns _ _ am;have V:ap (Fj (L.take (k+1))) l=ap (Bv v t) (ap (Fj (L.take k)) l):=by
    rw[List.take_add_one,T,Option.toList_some,K3,MU]
   have R:=au.o (k+1);rw[V]at R;have aq:=hd (Jm (ap (Fj (L.take k)) l).length wr.drew (A9 X w.hz 2) (.string s2) (Vi y) (.slice m x q) (ap (Fj (L.take k)) l) v (.string N) (Vi M) (.slice F H G) t (Qe _) (ab.o.on (fun k _ hn _=>⟨rfl,hn⟩)) (U.ext (A.o.trans ⟨rfl,rfl,rfl,Qe _,fun _ _=>rfl⟩) (fun k J h=>ES h J)) (fun k h=>by have:=Dd ar.o k h;show k<wr.hz;omega) R);have aw:=hd V;clear ba z U aj ak al am T V R;go_wp2_with fail;refine Fp Yk [.pur (.agg #[.string s2,Vi y,.slice m x q]),.pur (.slice (some ⟨g,0,none⟩) L.length bj),.pur (Vi k),.pur (.pointer (some ⟨g,k*4,none⟩)),.pur (.agg #[Vi v,.string N,Vi M,.slice F H G]),.cal,.sto 0] 5 6 Yk
    (fun r u=>∃(s:ByteArray)(n:Nat)(ca:Oa)(cl cc:Nat),r= .agg #[.string s,Vi n,.slice ca cl cc]/\Ao wr u/\CH (A9 X w.hz 2) u (.string s) (Vi n) (.slice ca cl cc) (ap (Bv v t) (ap (Fj (L.take k)) l)))
    (fun r u=>∃(s:ByteArray)(n:Nat)(ca:Oa)(cl cc:Nat)(O:World),Ao wr O/\CH (A9 X w.hz 2) O (.string s) (Vi n) (.slice ca cl cc) (ap (Bv v t) (ap (Fj (L.take k)) l))/\
     u=((O.setCell ⟨w.hz,0,none⟩ (.string s)).setCell ⟨w.hz,1,none⟩ (Vi n)).setCell ⟨w.hz,2,none⟩ (.slice ca cl cc)) 204
    #[.agg #[.string s2,Vi y,.slice m x q],.agg #[Vi v,.string N,Vi M,.slice F H G]] ?_ ?_ rfl Yd (Or.inl ⟨0,rfl⟩) ?_
   ·apply aq.o.mono;rintro e u ⟨C,D,E,rfl,f,d⟩;obtain⟨bi,bd,a2,a4,a3,rfl,rfl,rfl⟩:=d.shape;exact⟨_,rfl,bi,bd,a2,a4,a3,rfl,f.undrew,d⟩
   ·refine⟨fun vc=> ?_,fun vc=> ?_,fun vc=> ?_,fun vc=> ?_,fun vc=> ?_,fun vc=> ?_,?_,trivial⟩
    all_goals try(simp[pa,Kd.val,go_sem,ay,b1,b2,bk,bl,bm,bn,ag];done)
    rintro vc u ⟨s,n,ca,cl,cc,rfl,f,d⟩;obtain⟨q0,be,bf,bg⟩:=BB ((f.block _ Yo).trans Z.o);refine⟨_,?_,s,n,ca,cl,cc,u,f,d,rfl⟩;simp[pa,Kd.val,go_sem,q0,be,bf,bg]
   rintro vc w1 ⟨s,n,ca,cl,cc,O,f,d,rfl⟩;simp only[B4,pa,Kd.val,if_true,Act.put];have P:=hd f;have av:=hd d;have bv:=f.size;clear f d;go_wp2
   go_roundg (L.length-k)
   case measure=>omega
   case rel=>
    have K:=GP ((P.o.block _ Yo).trans Z.o) (.string s) (Vi n) (.slice ca cl cc);refine⟨k+1,s,n,ca,cl,cc,Yg,Yo,Yo,?_,K.1,(K.2.block _ Yo Yo).trans ((P.o.block _ Yo).trans ao.o),?_⟩
    ·exact(A.o.trans (P.o.mono A.o.size)).trans (K.2.below Yo (fun j e=>by have e:j=w.hz:=e;omega))
    ·rw[aw.o];exact av.o.on (fun j bb hn _=>⟨K.2.block j bb (fun e=>hn (Or.inr Yo)),hn⟩)
  ·have a9:k=L.length:=Yo
   subst a9;go_wp2;refine bodyPost_ret (v:= .agg #[.string s2,Vi y,.slice m x q]) (by simp[results,results183,go_sem,a5,a6,a7,a8]) rfl ?_;have d:=ab.o;rw[List.take_length]at d;refine⟨_,_,_,rfl,A.o.trans (Ad.below (S:=fun k=>w.hz<=k/\k<w.hz+2) Mst Yo (fun j h=>h.1)),?_⟩;refine(d.stay (B:=w.hz) (Du.of (S:=fun k=>w.hz<=k/\k<w.hz+2) Mst Yo (fun j h=>Or.inr h) (fun j h=>h.1))).ext (Below.refl _ _) (fun k _ h=>Or.inl h)
theorem infoGoal:(prog.info? 200).map (fun i=>(i.zero,i.size,i.bytes))=some (some (.agg #[.string ⟨#[]⟩,Vi 0,Nl,Vi 0]),4,56):=by kernel_rfl
structure Dq(X:Nat->Prop)(w:World)(B:Nat)(cv:Value)(n:Nat)(gs:List (List BL×Nat))(xs:List Value):Prop where
 owns:w.ownsRow B 200 4 cv n xs
 len:gs.length=n
 all:∀(i:Nat)(g:List BL×Nat),gs[i]?=some g->∃a b c,xs[i*4]?=some a/\xs[i*4+1]?=some b/\xs[i*4+2]?=some c/\xs[i*4+3]?=some (.int .i64 g.2)/\CH X w a b c g.1
theorem Dq.nil(X:Np)(w:World)(B:Nat):Dq X w B Nl 0 [] []:=⟨Q2 _ _ _ _,rfl,fun i a h=>by simp at h⟩
theorem Dq.on{gs:List (Ly×Nat)}(h:Dq X w B cv n gs xs)(e:∀k,cv.ownBlock=some k->w'.heap[k]?=w.heap[k]?)(d:∀k,k<w.hz->¬X k->CG w k->w'.heap[k]?=w.heap[k]?/\¬Y k):Dq Y w' B cv n gs xs:=
 ⟨Aj h.owns e,h.len,fun i s f=>by
  obtain⟨a,b,c,j,l,m,o,g⟩:=h.all i s f;exact⟨a,b,c,j,l,m,o,g.on d⟩⟩
theorem Dq.ext{B':Nat}{gs:List (Ly×Nat)}(h:Dq X w B cv n gs xs)(e:Ao w w')(c:∀k,k<w.hz->Y k->X k)(b:B'<=B):Dq Y w' B' cv n gs xs:=by
 have:=h.on (Y:=Y) (w':=w') (fun k a=>e.block k (h.owns.lt k a).2) (fun k a hn _=>⟨e.block k a,fun h=>hn (c k a h)⟩);exact⟨AI this.owns b,this.len,this.all⟩
theorem Dq.step{d:Nat}{cv':Value}{gs:List (Ly×Nat)}{a b c:Value}{t:Ly}(h:Dq X w B cv n gs xs)(m:CH X w a b c t)(ha:Ar w B 200 4 cv (n+1) (xs++[a,b,c,Vi d]) cv' w'):
  Dq X w' B cv' (n+1) (gs++[(t,d)]) (xs++[a,b,c,Vi d]):=by
 have p:∀{a b c:Value}{l:Ly},CH X w a b c l->CH X w' a b c l:=fun m=>m.on (fun k x z y=>by
  obtain⟨F,v⟩:=y;exact⟨ha.kept.block k x (Ai h.owns Yd v),z⟩)
 have j:=h.owns.1;have o:=h.len;refine⟨ha.owns,by simp[o],fun i s f=> ?_⟩;rcases QB i gs.length with hi|hi
 ·rw[Qc hi]at f;obtain⟨q,r,u,A,C,D,E,g⟩:=h.all i s f;refine⟨q,r,u,?_,?_,?_,?_,p g⟩
  ·rw[Qc Yo];exact A
  ·rw[Qc Yo];exact C
  ·rw[Qc Yo];exact D
  ·rw[Qc Yo];exact E
 ·have:=(Qa.1 f).1;simp at this;have e:i=gs.length:=Yo
  subst e;simp at f;subst f;rw[o];refine⟨a,b,c,?_,?_,?_,?_,p m⟩
  ·rw[Qd Yo,j];simp
  ·rw[Qd Yo,j];simp
  ·rw[Qd Yo,j];simp
  ·rw[Qd Yo,j];simp
theorem Jj{n m:Int}{ca:Oa}{cl cc:Nat}:∀u∈(#[Value.string s,Vi n,.slice ca cl cc,Vi m]:Av).toList,u.oneCell'=true:=LB
theorem JX(w:World)(X:Np)(C D:Nat)(I H:Value)(gs:List (Ly×Nat))(L:List (Nat×Ly))(a6 xs:Lv)(u:Dq X w C I gs.length gs a6)(v:GN X w D H L.length L xs)(K:∀k,X k->k<w.hz)(hb:∀k,∀g∈gs,(ap (Fj (L.take k)) g.1).length<=4000)(ao:L.length<=4000)(be:gs.length<=4000):
  Calls prog 182 #[I,H] w fun e w'=>∃J zs,e= .returned J/\Ao w w'/\Dq X w' w.hz J gs.length (Fo (Fj L) gs) zs:=by
 obtain⟨bj,bk,rfl⟩:=Ac v.owns;obtain⟨ba,bb,rfl⟩:=Ac u.owns;have E:=hd u;have Z:=hd v;have aa:=hd K;have ab:=hd hb;clear u v K hb;go_enter func182,bi;go_wp2
 go_loopg [5,6] (gs.length+1) (fun gk a1 i wr=>∃(k:Nat)(zs:Lv),i=Vi k/\k<=gs.length/\gs.length-k<gk/\Ao w wr/\Dq X wr w.hz a1 k (Fo (Fj L) (gs.take k)) zs)
 case atStart=>exact⟨0,[],Yg,Qm _,Yo,Below.refl _ _,Dq.nil _ _ _⟩
 case round=>
  obtain⟨k,zs,rfl,bh,bg,y,A⟩:=hrel;obtain⟨az,a0,rfl⟩:=Ac A.owns;have b:=hd y;have G:=hd A;have ax:=y.size;clear y A
  by_cases au:k<gs.length
  ·obtain⟨p,r⟩:∃p,gs[k]?=some p:=⟨_,Qb au⟩;obtain⟨t,d⟩:=p;obtain⟨ag,ah,ai,R,S,T,U,B⟩:=E.o.all k _ r;obtain⟨a2,ay,aj,al,ak,rfl,rfl,rfl⟩:=B.shape;have a:=E.o.ext (Y:=X) (B':=C) b.o (fun _ _ h=>h) (Qe _);obtain⟨g,a8,a9,N,bc,M,bd⟩:=An a.owns Yo;simp only[QH]at N;obtain⟨rfl,_,rfl⟩:=N;have a3:wr.cell? ⟨g,k*4,none⟩=some (.string a2):=Ag a.owns _ _ R;have a4:wr.cell? ⟨g,k*4+1,none⟩=some (Vi ay):=Ag a.owns _ _ S;have a5:wr.cell? ⟨g,k*4+2,none⟩=some (.slice aj al ak):=Ag a.owns _ _ T;have V:wr.cell? ⟨g,k*4+3,none⟩=some (Vi d):=Ag a.owns _ _ U;have W:=hd (P1 wr X D _ L xs _ _ _ t (B.ext b.o (fun _ _ h=>h)) (Z.o.ext b.o (fun _ h=>h) (Qe _)) (fun k h=>by have:=aa.o k h;omega) (fun j=>ab.o j _ (Qh r)) ao);have ad:=hd r;have ar:=Ab M;clear M a B R S T U r;go_wp2_with fail;apply W.o.mono;rintro e w1 ⟨ag,ah,ai,rfl,m,z⟩;obtain⟨q,n,c,l,f,rfl,rfl,rfl⟩:=z.shape;have a7:w1.cell? ⟨g,k*4+3,none⟩=some (Vi d):=(m.cell (p:=⟨g,k*4+3,none⟩) ar).trans V;have aw:=m.size;have bf:g<w1.hz:=Yo
   have P:=G.o.ext (Y:=X) (B':=w.hz) (w':=(w1.alloc (.cells #[.string q,Vi n,.slice c l f] 183)).drewN 1) (m.trans (Ao.of ((((Ad.refl A4 w1).alloc _).drewN 1))|>.mono aw)) (fun _ _ h=>h) (Qe _);have s:=hd P;have ac:=hd m;have ae:=hd z;clear P m z a3 a4 a5 V;go_wp2_with fail
   go_region_law (refine BC ((w1.alloc (.cells #[.string q,Vi n,.slice c l f] 183)).drewN 1) rfl (.tmp 21) (.tmp 29) 150 rfl w.hz 200 infoGoal underlying150 rfl Yd (.slice az k a0) k zs rfl s.o.owns #[.string q,Vi n,.slice c l f,Vi d] rfl Ys rfl Jj Yo Yp rfl ?_;intro bl w2 x;obtain⟨bm,bn,rfl⟩:=Ac x.owns;have F:=hd x;clear x)
   all_goals
    have Q:Fo (Fj L) (gs.take (k+1))=Fo (Fj L) (gs.take k)++[(ap (Fj L) t,d)]:=by
     rw[List.take_add_one,ad.o];simp[Fo]
    have af:=hd Q;clear Q a7;go_wp2
    go_roundg (gs.length-k)
    case measure=>omega
    case rel=>
     have av:=ae.o.ext (Y:=X) (w':=(w1.alloc (.cells #[.string q,Vi n,.slice c l f] 183)).drewN 1) (Ao.of ((((Ad.refl A4 w1).alloc _).drewN 1))) (fun _ _ h=>h);have:=s.o.step av F.o;rw[<-af.o]at this;refine⟨k+1,_,Yg,Yo,Yo,?_,this⟩;have am:Below w.hz w w1:=b.o.trans (ac.o.mono ax);have an:Below w.hz w1 ((w1.alloc (.cells #[.string q,Vi n,.slice c l f] 183)).drewN 1):=(Ao.of ((((Ad.refl A4 w1).alloc _).drewN 1))).mono Yo;exact(am.trans an).trans (F.o.kept.below (by show w.hz<=(w1.alloc _).hz;simp;omega) (fun j e=>(s.o.owns.lt j e).1))
  ·have aq:k=gs.length:=Yo
   subst aq;go_wp2;go_ret;have O:=G.o;rw[List.take_length]at O;exact⟨_,zs,rfl,b.o,O⟩
structure IR(X:Nat->Prop)(w:World)(gv vv dv uv:Value)(n:ND):Prop where
 goals:∃xs,Dq X w 0 gv n.goals.length n.goals xs
 vals:∃xs,Eh X w vv n.vals xs
 done:∃xs,Dq X w 0 dv n.done.length n.done xs
 used:w.ownsRow 0 3 1 uv n.used.length (AM n.used)
theorem IR.ext{b c:Value}{n:ND}(h:IR X w gv vv b c n)(e:Ao w w')(a:∀k,k<w.hz->Y k->X k):IR Y w' gv vv b c n:=by
 obtain⟨xs,d⟩:=h.goals;obtain⟨j,f⟩:=h.vals;obtain⟨zs,g⟩:=h.done;exact⟨⟨xs,d.ext e a (Qe _)⟩,⟨j,f.ext e a⟩,⟨zs,g.ext e a (Qe _)⟩,Aj h.used (fun k i=>e.block k (h.used.lt k i).2)⟩
theorem C5{a c d e f:Value}(h:w.heap[b]?=some (.cells #[a,c,d,e,f] t (0,0))):
  w.cell? ⟨b,0,none⟩=some a/\w.cell? ⟨b,1,none⟩=some c/\w.cell? ⟨b,2,none⟩=some d/\w.cell? ⟨b,3,none⟩=some e/\w.cell? ⟨b,4,none⟩=some f/\∀i,w.frozen? ⟨b,i,none⟩=false:=
 ⟨Aa h 0 _ rfl,Aa h 1 _ rfl,Aa h 2 _ rfl,Aa h 3 _ rfl,Aa h 4 _ rfl,fun i=>Ae h i⟩
theorem OO{a:Type}{l:List a}{x:a}{p:a->Bool}(h:l[k]?=some x):(l.take (k+1)).any p=((l.take k).any p||p x):=by
 rw[List.take_add_one,h];simp
theorem VB(w:World)(X:Np)(am ay aj aw:Value)(n:ND)(h:IR X w am ay aj aw n)(bg:n.goals.length<=4000)(hd:n.done.length<=4000)(bh:n.used.length<=4000)(aq:∀g∈n.goals,g.1.length<=4000)(ar:∀g∈n.done,g.1.length<=4000):
  Calls prog 184 #[.agg #[am,ay,aj,aw,Vi n.vars]] w fun e w'=>e= .returned (Vi (Cy n))/\Ao w w':=by
 obtain⟨xs,M⟩:=h.goals;obtain⟨bj,an⟩:=h.vals;obtain⟨zs,N⟩:=h.done;have ao:=h.used;obtain⟨ak,al,rfl⟩:=Ac M.owns;obtain⟨va,ax,rfl⟩:=Ac an.1;obtain⟨da,ai,rfl⟩:=Ac N.owns;obtain⟨au,av,rfl⟩:=Ac ao;have ac:=hd M;have ad:=hd N;have a1:=hd aq;have a2:=hd ar;obtain⟨q0,ap⟩:∃q:Bool,q=(decide (40<n.goals.length)||decide (100<n.used.length)):=⟨_,rfl⟩;have E:=hd ap;clear h M an N ao aq ar;clear ap
 by_cases a6:40<n.goals.length
 all_goals
  first
   |have a7:(40:Int)<n.goals.length:=Yo
   |have a7:¬(40:Int)<n.goals.length:=Yo
  go_enter func184,bi;go_wp2
  go_loopg [3,4] (n.goals.length+1) (fun gk U i wr=>∃(k:Nat)(o:Bool),i=Vi k/\U= .bool o/\k<=n.goals.length/\n.goals.length-k<gk/\Ao w wr/\o=(q0||(n.goals.take k).any FL)/\
    wr.heap[w.hz]?=some (.cells #[.slice ak n.goals.length al,.slice va n.vals.length ax,.slice da n.done.length ai,.slice au n.used.length av,Vi n.vars] 152 (0,0)))
  case atStart=>exact⟨0,q0,Yg,(by rw[E.o];simp[a6]<;>omega),Qm _,Yo,Mxt,Ys,QL w _⟩
  case round=>
   obtain⟨k,o,rfl,rfl,j,be,v,z,hb⟩:=hrel;obtain⟨ae,b1,b2,af,ag,ah⟩:=C5 hb;have a:=hd v;have s:=hd hb;have f:=hd z;have R:=Ab hb;clear v hb z
   by_cases Q:k<n.goals.length
   ·obtain⟨p,c⟩:∃p,n.goals[k]?=some p:=⟨_,Qb Q⟩;obtain⟨t,d⟩:=p;obtain⟨a3,a4,a5,B,C,D,W,l⟩:=ac.o.all k _ c;obtain⟨V,T,J,L,K,rfl,rfl,rfl⟩:=l.shape;have b:=ac.o.ext (Y:=X) (B':=0) a.o (fun _ _ h=>h) (Qe _);obtain⟨g,a8,a9,y,ba,P,bb⟩:=An b.owns Yo;simp only[QH]at y;obtain⟨rfl,_,rfl⟩:=y;have Z:wr.cell? ⟨g,k*4,none⟩=some (.string V):=Ag b.owns _ _ B;have aa:wr.cell? ⟨g,k*4+1,none⟩=some (Vi T):=Ag b.owns _ _ C;have ab:wr.cell? ⟨g,k*4+2,none⟩=some (.slice J L K):=Ag b.owns _ _ D;have S:t.length<=4000:=a1.o _ (Qh c);have F:=hd (GJ t.length wr X _ _ _ t (Qe _) S (l.ext a.o (fun _ _ h=>h)));have H:Hd ((n.goals.take (k+1)).any FL=((n.goals.take k).any FL||decide (30<t.length))):=OO c;clear P b l B C D W c;go_wp2_with fail;apply F.o.mono;rintro e w1 ⟨rfl,x⟩;have u:=hd x;clear x Z aa ab
    cases o
    all_goals
     go_wp2
     go_roundg (n.goals.length-k)
     case measure=>omega
     case rel=>exact⟨k+1,_,Yg,(by rw[H.o,<-Bool.or_assoc,<-f.o];simp<;>omega),Yo,Yo,a.o.trans (u.o.mono a.o.size),rfl,(u.o.block _ R).trans s.o⟩
   ·have O:k=n.goals.length:=Yo
    subst O;have m:Hd (o=(q0||n.goals.any FL)):=by have:=f.o;rw[List.take_length]at this;exact this
    clear f;go_wp2;have a0:=hd a.o;have az:=hd s.o;have I:=hd m.o;obtain⟨A,bf⟩:∃A:Bool,A=o:=⟨_,rfl⟩;subst bf;clear m a s ae b1 b2 af ag ah
    go_loopg [3,6] (n.done.length+1) (fun gk U i wr=>∃(k:Nat)(o:Bool),i=Vi k/\U= .bool o/\k<=n.done.length/\n.done.length-k<gk/\Ao w wr/\o=(A||(n.done.take k).any FL)/\
      wr.heap[w.hz]?=some (.cells #[.slice ak n.goals.length al,.slice va n.vals.length ax,.slice da n.done.length ai,.slice au n.used.length av,Vi n.vars] 152 (0,0)))
    case atStart=>exact⟨0,A,Yg,rfl,Qm _,Yo,a0.o,Ys,az.o⟩
    case round=>
     obtain⟨k,o,rfl,rfl,j,be,v,z,hb⟩:=hrel;obtain⟨ae,b1,b2,af,ag,ah⟩:=C5 hb;have a:=hd v;have s:=hd hb;have f:=hd z;have R:=Ab hb;clear v hb z
     by_cases Q:k<n.done.length
     ·obtain⟨p,c⟩:∃p,n.done[k]?=some p:=⟨_,Qb Q⟩;obtain⟨t,d⟩:=p;obtain⟨a3,a4,a5,B,C,D,W,l⟩:=ad.o.all k _ c;obtain⟨V,T,J,L,K,rfl,rfl,rfl⟩:=l.shape;have b:=ad.o.ext (Y:=X) (B':=0) a.o (fun _ _ h=>h) (Qe _);obtain⟨g,a8,a9,y,ba,P,bb⟩:=An b.owns Yo;simp only[QH]at y;obtain⟨rfl,_,rfl⟩:=y;have Z:wr.cell? ⟨g,k*4,none⟩=some (.string V):=Ag b.owns _ _ B;have aa:wr.cell? ⟨g,k*4+1,none⟩=some (Vi T):=Ag b.owns _ _ C;have ab:wr.cell? ⟨g,k*4+2,none⟩=some (.slice J L K):=Ag b.owns _ _ D;have S:t.length<=4000:=a2.o _ (Qh c);have F:=hd (GJ t.length wr X _ _ _ t (Qe _) S (l.ext a.o (fun _ _ h=>h)));have H:Hd ((n.done.take (k+1)).any FL=((n.done.take k).any FL||decide (30<t.length))):=OO c;clear P b l B C D W c;go_wp2_with fail;apply F.o.mono;rintro e w1 ⟨rfl,x⟩;have u:=hd x;clear x Z aa ab
      cases o
      all_goals
       go_wp2
       go_roundg (n.done.length-k)
       case measure=>omega
       case rel=>exact⟨k+1,_,Yg,(by rw[H.o,<-Bool.or_assoc,<-f.o];simp<;>omega),Yo,Yo,a.o.trans (u.o.mono a.o.size),rfl,(u.o.block _ R).trans s.o⟩
     ·have O:k=n.done.length:=Yo
      subst O;have m:Hd (o=(A||n.done.any FL)):=by have:=f.o;rw[List.take_length]at this;exact this
      clear f
      cases o
      ·by_cases r:n.goals=[]
       ·have bc:((n.goals.length:Int)==0)=true:=by rw[r];rfl
        have G:=hd r;clear r;go_wp2;go_ret;refine⟨?_,a.o⟩;have j:Cy n=2:=by unfold Cy Hh;rw[<-E.o,<-I.o,<-m.o,if_neg Ys,if_pos G.o]
        rw[j];rfl
       ·have bc:((n.goals.length:Int)==0)=false:=by
         rw[Qu]
         cases bd:n.goals with
         |nil=>exact absurd bd r
         |cons _ _=>simp;omega
        have G:=hd r;clear r;go_wp2;go_ret;refine⟨?_,a.o⟩;have j:Cy n=1:=by unfold Cy Hh;rw[<-E.o,<-I.o,<-m.o,if_neg Ys,if_neg G.o]
        rw[j];rfl
      ·go_wp2;go_ret;refine⟨?_,a.o⟩;have j:Cy n=3:=by unfold Cy Hh;rw[<-E.o,<-I.o,<-m.o];rfl
       rw[j];rfl
theorem DO.repX:∀(f:Nat){w:World}{lo hi:Nat}{a b c:Value}{l:Ly},DO f w lo hi a b c l->Je (fun _=>False) f w a b c l:=by
 intro f
 induction f with
 |zero=>intro w lo hi a b c l h;exact h.elim
 |succ f u=>
  intro w lo hi a b c l h;rcases h with h|⟨nm,ls,xs,o,p,q,r,s,x,t⟩
  ·exact Or.inl h
  ·refine Or.inr ⟨nm,ls,xs,o,p,q,r,AI s (Qm _),fun _ _ h=>h,fun i v hl=> ?_⟩;obtain⟨d,e,g,j,k,m,n⟩:=t i v hl;exact⟨d,e,g,j,k,m,u n⟩
theorem DO.rep{f:Nat}{lo hi:Nat}{a b c:Value}(h:DO f w lo hi a b c l):CH (fun _=>False) w a b c l:=⟨f,h.repX⟩
theorem Je.repT:∀(f:Nat){w:World}{a b c:Value}{l:Ly},Je X f w a b c l->DO f w 0 w.hz a b c l:=by
 intro f
 induction f with
 |zero=>intro w a b c l h;exact h.elim
 |succ f x=>
  intro w a b c l h;rcases h with h|⟨nm,ls,xs,q,r,s,t,d,z,u⟩
  ·exact Or.inl h
  ·refine Or.inr ⟨nm,ls,xs,q,r,s,t,d,fun k v=>(d.lt k v).2,fun i y hl=> ?_⟩;obtain⟨e,g,j,m,n,o,p⟩:=u i y hl;exact⟨e,g,j,m,n,o,x p⟩
theorem CH.repT{a b c:Value}(h:CH X w a b c l){f:Nat}(d:l.length<=f):DO f w 0 w.hz a b c l:=by
 obtain⟨g,h⟩:=h;exact(h.len.mono d).repT f
theorem Fg.rowT{f:Nat}{lo:Nat}{d:Ll}(h:Fg f w lo cv d xs):Eh (fun _=>False) w cv d xs:=
 ⟨AI h.owns (Qm _),fun _ _ h=>h,fun i e hl=>by
  obtain⟨a,b,c,_,_,j,k,l,_,_,_,g⟩:=h.all i e hl;exact⟨a,b,c,j,k,l,g.rep⟩⟩
structure Gg(X:Nat->Prop)(w:World)(lv:Value)(cs:List Dt)(xs:List Value):Prop where
 owns:w.ownsRow 0 185 5 lv cs.length xs
 all:∀(i:Nat)(c:Dt),cs[i]?=some c->∃a b d bv ys,xs[i*5]?=some a/\xs[i*5+1]?=some b/\xs[i*5+2]?=some d/\xs[i*5+3]?=some bv/\xs[i*5+4]?=some (.int .i64 c.n)/\CH X w a b d c.head/\Eh X w bv c.body ys
theorem Gg.ext(h:Gg X w lv cs xs)(e:Ao w w')(f:∀k,k<w.hz->Y k->X k):Gg Y w' lv cs xs:=
 ⟨Aj h.owns (fun k n=>e.block k (h.owns.lt k n).2),fun i c m=>by
  obtain⟨a,b,d,g,t,o,p,q,r,s,j,l⟩:=h.all i c m;exact⟨a,b,d,g,t,o,p,q,r,s,j.ext e f,l.ext e f⟩⟩
theorem IP{xs:List (Lv)}(b:∀x∈xs,x.length=5){x:Lv}(a:xs[i]?=some x)(j:Nat)(g:j<5):xs.flatten[i*5+j]?=x[j]?:=by
 induction xs generalizing i with
 |nil=>simp at a
 |cons y h d=>
  have c:=b y Ys
  cases i with
  |zero=>
   simp at a;subst a;rw[Q4,Qc Yo];simp
  |succ i=>
   rw[Q4,Qd Yo,c];have e:(i+1)*5+j-5=i*5+j:=Yo
   rw[e];exact d (fun f hz=>b f (by simp[hz])) (by simpa using a)
theorem Eg.rowC{lo:Nat}{xs:List (Lv)}(h:Eg w lo lv cs xs):Gg (fun _=>False) w lv cs xs.flatten:=
 ⟨AI h.owns (Qm _),fun i c f=>by
  obtain⟨x,a,s,n,ca,cl,cc,b,k,j,l,g,rfl,d,e⟩:=h.all i c f;refine⟨_,_,_,b,g,?_,?_,?_,?_,?_,d.rep,e.rowT⟩
  ·have:=IP h.five a 0 Yo;simpa using this
  ·have:=IP h.five a 1 Yo;simpa using this
  ·have:=IP h.five a 2 Yo;simpa using this
  ·have:=IP h.five a 3 Yo;simpa using this
  ·have:=IP h.five a 4 Yo;simpa using this⟩
theorem Ia{cs:Av}(b:w.heap[M]?=some (.cells cs t fr))(d:t≠183)(c:CG w k):k≠M:=by
 rintro rfl;obtain⟨e,a⟩:=c;rw[b]at a;simp at a;exact d a.2.1
theorem CH.box{cs:Av}{a b c:Value}(h:CH X w a b c l)(d:w.heap[M]?=some (.cells cs t fr))(g:t≠183)(e:Ad (fun k=>k=M) w w'):CH X w' a b c l:=
 h.on (fun k f j i=>⟨e.block k f (Ia d g i),j⟩)
theorem Eh.box{cs:Av}(h:Eh X w cv ls xs)(a:w.heap[M]?=some (.cells cs t fr))(d:t≠183)(b:Ad (fun k=>k=M) w w'):Eh X w' cv ls xs:=
 h.on (fun k c f e=>⟨b.block k c (Ia a d e),f⟩)
theorem By{cs:Av}(h:w.ownsRow B e size v n xs)(a:w.heap[M]?=some (.cells cs t fr))(d:e≠t)(b:Ad (fun k=>k=M) w w'):w'.ownsRow B e size v n xs:=
 b.owns h (fun k c e'=>by subst e';exact Ai h d a c)
theorem Dq.box{cs:Av}{gs:List (Ly×Nat)}(h:Dq X w B cv n gs xs)(d:w.heap[M]?=some (.cells cs t fr))(j:t≠183)(l:200≠t)(e:Ad (fun k=>k=M) w w'):Dq X w' B cv n gs xs:=
 ⟨By h.owns d l e,h.len,fun i s f=>by
  obtain⟨a,b,c,m,o,p,q,g⟩:=h.all i s f;exact⟨a,b,c,m,o,p,q,g.box d j e⟩⟩
theorem IR.box{cs:Av}{d f:Value}{n:ND}(h:IR X w gv vv d f n)(a:w.heap[M]?=some (.cells cs t fr))(c:t≠183)(e:200≠t)(l:3≠t)(b:Ad (fun k=>k=M) w w'):IR X w' gv vv d f n:=by
 obtain⟨xs,g⟩:=h.goals;obtain⟨m,i⟩:=h.vals;obtain⟨zs,j⟩:=h.done;exact⟨⟨xs,g.box a c e b⟩,⟨m,i.box a c b⟩,⟨zs,j.box a c e b⟩,By h.used a l b⟩
theorem R7(h:w.ownsRow B e size v n xs)(b:v.ownBlock=some k):∃a,w.heap[k]?=some (.cells a e (0,0)):=by
 rcases h.2 with⟨rfl,rfl⟩|⟨g,d,a,rfl,hb,c,rest⟩
 ·simp[Value.ownBlock]at b
 ·have:g=k:=by simpa[Value.ownBlock]using b
  subst this;exact⟨a,c⟩
theorem Eh.aside{m:Nat}(h:Eh X w cv ls xs)(f:w.ownsRow B e size v m ys)(b:e≠183)(c:Ad (Ak v) w w'):Eh X w' cv ls xs:=
 h.on (fun k d i g=>by
  obtain⟨j,a⟩:=g;exact⟨c.block k d (Ai f b a),i⟩)
theorem Dq.aside{B':Nat}{m:Nat}{gs:List (Ly×Nat)}(h:Dq X w B' cv n gs xs)(d:w.ownsRow B e size v m ys)(g:e≠183)(i:e≠200)(c:Ad (Ak v) w w'):Dq X w' B' cv n gs xs:=
 h.on (fun k a=>by
  obtain⟨f,b⟩:=R7 h.owns a;exact c.block k (h.owns.lt k a).2 (Ai d i b)) (fun k a l j=>by
  obtain⟨f,b⟩:=j;exact⟨c.block k a (Ai d g b),l⟩)
theorem infoGC:(prog.info? 292).map (fun i=>(i.zero,i.size,i.bytes))=some (some (.agg #[.string ⟨#[]⟩,Vi 0,Vi 0,Vi 0,Vi 0,Vi 0]),6,56):=by kernel_rfl
def GQ(gs:List GC)(s:BL):Nat:=gs.findIdx (fun c=>Dl c.sym s)
theorem Ri{gs:List GC}{s:BL}{c:GC}(a:gs[k]?=some c)(h:Dl c.sym s=true)(hb:∀i d,i<k->gs[i]?=some d->Dl d.sym s=false):GQ gs s=k:=by
 unfold GQ;obtain⟨e,rfl⟩:=Qa.1 a;rw[List.findIdx_eq e];exact⟨h,fun j b=>hb j _ b (Qb Yo)⟩
theorem PL{gs:List GC}{s:BL}(hb:∀i d,i<gs.length->gs[i]?=some d->Dl d.sym s=false):GQ gs s=gs.length:=by
 unfold GQ;rw[List.findIdx_eq_length];intro c a;obtain⟨i,hi,rfl⟩:=Q8 a;exact hb i _ hi (Qb hi)
theorem Vc{a b c d e:Int}:∀u∈(#[Value.string s,Vi a,Vi b,Vi c,Vi d,Vi e]:Av).toList,u.oneCell'=true:=by
 intro u f;simp at f;rcases f with rfl|rfl|rfl|rfl|rfl|rfl<;>rfl
def WS:Value->Value
 | .bool b=> .bool (!b)
 |v=>v
theorem GT{b:World}{a:Act}{o:Oper}{d c:Value}(s x:Operand)(t:TypeId)(e:o.op= .call {callee:= .builtin .append,args:=#[s,x],argTypes:=#[t,t]})(g:a.eval s=v)(h:a.eval x=d)(f:(Builtin.append_ #[t,t] o.type #[v,d]).run P b= .ok c w'):(execOp a.eval o).run P b= .ok (.value c) w':=by
 unfold execOp;simp only[e,resolve,invoke,builtin,Sem.run_bind,Sem.run_pure,Result.andThen_ok,List.map_toArray,Qx,List.map_nil,g,h,f]
def Rp(gb:Nat)(v:Value)(gs:List GC)(s:BL)(w w':World):Prop:=∃v',F8 w' gb v' (gs++[⟨s,0,GQ gs s,0⟩])/\Ad (fun k=>k=gb\/Ak v k) w w'/\∀k,Ak v' k->Ak v k\/w.heap.size<=k
theorem J1(w:World)(a:Nat)(v:Value)(gs:List GC)(s:BL)(h:F8 w a v gs)(hl:gs.length<=4000):
  Calls prog 187 #[Pt a,.agg #[.string ⟨s.name.toArray⟩,Vi s.num,Vi s.args]] w fun e w'=>e=Rq #[]/\Rp a v gs s w w':=by
 obtain⟨va,b,rfl⟩:=Ac h.owns;have a4:=Ab h.box;have ag:=hd h;clear h;go_enter func187,a7;go_wp2
 go_loopg [4] (gs.length+1) (fun gk au wr=>∃(k:Nat),au=Vi k/\k<=gs.length/\gs.length-k<gk/\Ao w wr/\wr.heap[w.hz]?=some (.cells #[.string ⟨s.name.toArray⟩,Vi s.num,Vi s.args] 133 (0,0))/\∀i d,i<k->gs[i]?=some d->Dl d.sym s=false)
 case atStart=>exact⟨0,Yg,Qm _,Yo,Mxt,QL w _,fun i d h=>by omega⟩
 case round=>
  obtain⟨k,rfl,a6,a5,F,D,Z⟩:=hrel;have ad:=F.size;have z:=ag.o.ext F;have B:wr.cell? ⟨a,0,none⟩=some (.slice va gs.length b):=Aa z.box 0 _ rfl;have ap:=Ab z.box;obtain⟨I,J,s2,aw⟩:=BB D;have ae:=Ab D;have a0:=fun i=>Ae z.box i;have x:=hd z;have U:=hd F;have ai:=hd D;have K:=hd Z;clear z F D Z;have T:Hd (∀(u:World)(t:Value)(w2:World),Ao wr u->GQ gs s=k->Ar u 0 292 6 (.slice va gs.length b) (gs.length+1) (NA gs++[.string ⟨s.name.toArray⟩,Vi s.num,Vi s.args,Vi 0,Vi k,Vi 0]) t w2->Rp a (.slice va gs.length b) gs s w (w2.setCell ⟨a,0,none⟩ t)):=fun u t w2 p aq f=>by
   have C:=x.o.ext p;have ar:=p.size;have aa:=(f.kept.block a (Ab C.box) (Ai C.owns Yd C.box)).trans C.box;have Y:Ad (fun j=>j=a) w2 (w2.setCell ⟨a,0,none⟩ t):=(Ad.refl (only a) w2).put 0 _;refine⟨t,⟨Af aa 0 _,?_⟩,?_,fun j ab=> ?_⟩
   ·have:=By f.owns aa Yd Y;rw[V9,aq];simpa[QV]using this
   ·have av:Ad (fun k=>k=a\/Ak (.slice va gs.length b) k) w u:=(Ad.of_below (U.o.trans (p.mono ad))).mono (fun i hi h=>by omega);exact(av.then f.kept (fun i _ h=>Or.inr h)).then Y (fun i _ h=>Or.inl h)
   ·rcases f.where_ with R|⟨g,R,a3⟩
    ·exact Or.inl (R.symm.trans ab)
    ·have:some g=some j:=R.symm.trans ab;simp at this;exact Or.inr Yo
  by_cases ac:k<gs.length
  ·obtain⟨c,P⟩:∃c,gs[k]?=some c:=⟨_,Qb ac⟩;obtain⟨cb,az,E,a2,a1,_,_⟩:=x.o.shape Yo;simp only[QH]at E;obtain⟨rfl,_,rfl⟩:=E;obtain⟨V,W,X,_,_,_⟩:=x.o.cell P;have ah:=hd (Sl wr.drew c.sym s);have S:=hd P;clear P;go_wp2_with fail;refine Fp Yk [.pur (Vi k),.pur (Pt a),.pur (Pt a),.pur (Pt a),.pur (.slice (some ⟨cb,0,none⟩) gs.length b),.pur (Vi gs.length),.pur (.bool true),.pur (.bool true),
    .pur (Pt a),.pur (Pt a),.pur (Pt a),.pur (.slice (some ⟨cb,0,none⟩) gs.length b),.pur (Vi k),.pur (.pointer (some ⟨cb,k*6,none⟩)),.pur (.pointer (some ⟨cb,k*6,none⟩)),.pur (.agg #[.string ⟨c.sym.name.toArray⟩,Vi c.sym.num,Vi c.sym.args]),.pur (.agg #[.string ⟨s.name.toArray⟩,Vi s.num,Vi s.args]),
    .cal,.post WS,.post WS] 17 20 Yk
    (fun r u=>r= .bool (Dl c.sym s)/\Ao wr u) (fun r u=>r= .bool (Dl c.sym s)/\Ao wr u) 207
    #[.agg #[.string ⟨c.sym.name.toArray⟩,Vi c.sym.num,Vi c.sym.args],.agg #[.string ⟨s.name.toArray⟩,Vi s.num,Vi s.args]] ?_ ?_ rfl Yd (Or.inr ⟨Yd,fun _ _ h=>h⟩) ?_
   ·apply ah.o.mono;rintro e u ⟨rfl,E⟩;exact⟨_,rfl,rfl,E.undrew⟩
   ·refine⟨fun vc=> ?_,fun vc=> ?_,fun vc=> ?_,fun vc=> ?_,fun vc=> ?_,fun vc=> ?_,fun vc=> ?_,fun vc=> ?_,fun vc=> ?_,fun vc=> ?_,fun vc=> ?_,fun vc=> ?_,fun vc=> ?_,fun vc=> ?_,fun vc=> ?_,fun vc=> ?_,fun vc=> ?_,fun vc=> ?_,?_,?_,trivial⟩
    all_goals try(simp[pa,Kd.val,go_sem,B,I,J,s2,V,W,X,ac];done)
    all_goals
     rintro vc u (⟨rfl,_⟩|⟨rfl,_⟩)<;>simp[pa,Kd.val,go_sem,WS]
   rintro vc u ⟨rfl,p⟩;simp only[B4,pa,Kd.val,if_true,Act.put,WS];have ar:=p.size;have G:=x.o.ext p;have O:=(p.block _ ae).trans ai.o;obtain⟨I,J,s2,aw⟩:=BB O;have B:u.cell? ⟨a,0,none⟩=some (.slice (some ⟨cb,0,none⟩) gs.length b):=Aa G.box 0 _ rfl;have Q:a<u.hz:=Ab G.box;have m:Hd (F8 (u.drewN 1) a (.slice (some ⟨cb,0,none⟩) gs.length b) gs):=G.on (fun _ _=>rfl);have y:Hd ((u.drewN 1).ownsRow 0 292 6 (.slice (some ⟨cb,0,none⟩) gs.length b) gs.length (NA gs)):=m.o.owns;have A:=hd p;have aj:=hd O;clear p G O V W X
   cases H:Dl c.sym s with
   |false=>
    have ak:=hd H;clear H;simp only[List.setIfInBounds_toArray,Bool.not_false,Bool.not_true,List.set_cons_succ,List.set_cons_zero];go_wp2
    go_roundg (gs.length-k)
    case measure=>omega
    case rel=>
     refine⟨k+1,Yg,Yo,Yo,U.o.trans (A.o.mono ad),aj.o,fun i d hi hd=> ?_⟩
     by_cases e:i=k
     ·subst e;rw[S.o]at hd;simp at hd;subst hd;exact ak.o
     ·exact K.o i d Yo hd
   |true=>
    have M:=hd (Ri S.o H K.o);clear H;simp only[List.setIfInBounds_toArray,Bool.not_false,Bool.not_true,List.set_cons_succ,List.set_cons_zero];go_wp2_with fail;have N:Hd (Ao wr u.drew):=A.o.trans ⟨rfl,rfl,rfl,Qe _,fun _ _=>rfl⟩;have af:w.hz<u.hz:=Yo
    go_region_law (refine BC (u.drewN 1) rfl (.tmp 31) (.tmp 35) 264 rfl 0 292 infoGC underlying264 rfl Yd (.slice (some ⟨cb,0,none⟩) gs.length b) gs.length (NA gs) rfl y.o #[.string ⟨s.name.toArray⟩,Vi s.num,Vi s.args,Vi 0,Vi k,Vi 0] rfl Ys rfl Vc Yo (Qm _) rfl ?_;intro t w2 f;obtain⟨ax,ay,rfl⟩:=Ac f.owns;have q:=(f.kept.block a Q (Ai y.o Yd m.o.box)).trans m.o.box;have al:=Aa q 0 _ rfl;have am:=fun i=>Ae q i;have L:=hd (T.o (u.drewN 1) _ w2 N.o M.o (by simpa using f));clear f q)
    all_goals
     go_wp2;go_end0;exact⟨rfl,L.o⟩
  ·have ao:k=gs.length:=Yo
   subst ao;have hd:decide (((gs.length:Nat):Int)<((gs.length:Nat):Int))=false:=Ys
   have M:=hd (PL (fun i d hi an=>K.o i d hi an));have m:Hd (∀n,F8 (wr.drewN n) a (.slice va gs.length b) gs):=fun n=>x.o.on (fun _ _=>rfl);go_wp2_with fail;go_quiet (fail);obtain⟨u,l⟩:=Ex (wr.drewN nq);rw[<-l];have B:u.cell? ⟨a,0,none⟩=some (.slice va gs.length b):=by rw[l];exact B
   have I:u.cell? ⟨w.hz,0,none⟩=some (.string ⟨s.name.toArray⟩):=by rw[l];exact I
   have J:u.cell? ⟨w.hz,1,none⟩=some (Vi s.num):=by rw[l];exact J
   have s2:u.cell? ⟨w.hz,2,none⟩=some (Vi s.args):=by rw[l];exact s2
   have Q:a<u.hz:=by rw[l];exact ap
   have af:w.hz<u.hz:=by rw[l];exact ae
   have m:Hd (F8 u.drew a (.slice va gs.length b) gs):=by rw[l];exact m.o (nq+1)
   have y:Hd (u.drew.ownsRow 0 292 6 (.slice va gs.length b) gs.length (NA gs)):=m.o.owns;have A:Hd (Ao wr u):=by rw[l];exact⟨rfl,rfl,rfl,Qe _,fun _ _=>rfl⟩
   clear l;go_wp2_with fail;have N:Hd (Ao wr u.drew):=A.o.trans ⟨rfl,rfl,rfl,Qe _,fun _ _=>rfl⟩;have af:w.hz<u.hz:=Yo
   go_region_law (refine BC u.drew rfl (.tmp 31) (.tmp 35) 264 rfl 0 292 infoGC underlying264 rfl Yd (.slice va gs.length b) gs.length (NA gs) rfl y.o #[.string ⟨s.name.toArray⟩,Vi s.num,Vi s.args,Vi 0,Vi gs.length,Vi 0] rfl Ys rfl Vc Yo (Qm _) rfl ?_;intro t w2 f;obtain⟨ax,ay,rfl⟩:=Ac f.owns;have q:=(f.kept.block a Q (Ai y.o Yd m.o.box)).trans m.o.box;have al:=Aa q 0 _ rfl;have am:=fun i=>Ae q i;have L:=hd (T.o u.drew _ w2 N.o M.o (by simpa using f));clear f q)
   all_goals
    go_wp2;go_end0;exact⟨rfl,L.o⟩
def Cx(l:Ly):List GC:=(List.range l.length).map (fun i=>⟨AB l i,0,A1 l i,0⟩)
theorem Bu(l:Ly):(Cx l).length=l.length:=by simp[Cx]
theorem E3(h:i<l.length):(Cx l)[i]?=some ⟨AB l i,0,A1 l i,0⟩:=by
 simp[Cx,h]
theorem SU(l:Ly):(Cx l).map GC.sym=l:=by
 apply List.ext_getElem?;intro i;rw[Qj]
 by_cases h:i<l.length
 ·rw[E3 h];simp[AB,h]
 ·rw[List.getElem?_eq_none (by rw[Bu];omega),List.getElem?_eq_none Yo];rfl
theorem L3(r:Ly)(h:i<l.length):AB (l++r) i=AB l i:=by
 simp[AB,List.getD_eq_getElem?_getD,Qc h]
theorem Nk(s:BL)(h:i<l.length):A1 (l++[s]) i=A1 l i:=by
 unfold A1;rw[L3 _ h];split
 ·rename_i hn;rw[List.findIdx_append,if_pos];rw[List.findIdx_lt_length];refine⟨AB l i,?_,by simp[hn]⟩;simp only[AB,List.getD_eq_getElem?_getD,Qb h,Option.getD_some];exact List.getElem_mem h
 ·rfl
theorem NW(l:Ly)(s:BL):A1 (l++[s]) l.length=GQ (Cx l) s:=by
 have a:GQ (Cx l) s=l.findIdx (fun t=>Dl t s):=by
  have:=List.findIdx_map (Cx l) GC.sym (fun t=>Dl t s);rw[SU]at this;exact this.symm
 have b:AB (l++[s]) l.length=s:=by simp[AB]
 rw[a];unfold A1;rw[b];split
 ·rename_i hn;have c:(fun t:BL=>Dl t s)=(fun t=>t.name.isEmpty&&t.num==s.num):=by
   funext t;simp[Dl,hn]
  rw[c,List.findIdx_append];split
  ·rfl
  ·rename_i d;have:=List.findIdx_le_length (p:=fun t:BL=>t.name.isEmpty&&t.num==s.num) (xs:=l);have h0:[s].findIdx (fun t:BL=>t.name.isEmpty&&t.num==s.num)=0:=by simp[List.findIdx_cons,hn]
   omega
 ·rename_i hn;refine(List.findIdx_eq_length.2 ?_).symm;intro t _;have:s.name.isEmpty=false:=by
   cases h:s.name with
   |nil=>exact absurd h hn
   |cons _ _=>rfl
  simp[Dl,this]
theorem Rr(l:Ly)(s:BL):Cx (l++[s])=Cx l++[⟨s,0,GQ (Cx l) s,0⟩]:=by
 apply List.ext_getElem?;intro i
 by_cases h:i<l.length
 ·rw[Qc (by rw[Bu];exact h),E3 h,E3 Yp,L3 _ h,Nk _ h]
 ·by_cases e:i=l.length
  ·subst e;rw[E3 Ys,Qd (by rw[Bu];omega),Bu,NW];simp[AB]
  ·rw[List.getElem?_eq_none (by rw[Bu];simp;omega),List.getElem?_eq_none (by simp[Bu];omega)]
def LW(w:World)(l:Ly)(wr:World):Prop:=∃v,F8 wr (w.heap.size+1) v (Cx l)/\Ao w wr/\(∀j,Ak v j->w.heap.size<=j)/\wr.heap[w.heap.size]?=some (.cells #[.slice none 0 0] 266 (0,0))
theorem LW.add{s:BL}(i:F8 wr (w.hz+1) v (Cx l))(d:Ao w wr)(e:∀j,Ak v j->w.hz<=j)(a:wr.heap[w.hz]?=some (.cells #[Nl] 266 (0,0)))(ha:Rp (w.hz+1) v (Cx l) s wr w1):LW w (l++[s]) w1:=by
 obtain⟨o,f,c,g⟩:=ha;have n:=d.size;refine⟨o,by rw[Rr];exact f,d.trans (c.below n (fun k b=> ?_)),fun j m=> ?_,(c.block _ (Ab a) ?_).trans a⟩
 ·rcases b with rfl|b
  ·omega
  ·exact e k b
 ·rcases g j m with h|h
  ·exact e j h
  ·omega
 ·rintro(h|h)
  ·omega
  ·exact Ai i.owns Yd a h
def XJ(w:World)(l:Ly)(e:Ending)(w':World):Prop:=∃v,e= .returned (.agg #[v])/\w'.ownsRow 0 292 6 v l.length (NA (DS l (Cx l) 0))/\Ao w w'/\∀j,Ak v j->w.heap.size<=j
theorem SY(w:World)(Y Z:Value)(a b:Ly)(J:w.ownsRow 0 133 3 Y a.length (Aq a))(K:w.ownsRow 0 133 3 Z b.length (Aq b))(ha:Wf 1 a)(hb:Wf 1 b)(au:a.length<=1000)(aw:b.length<=1000):
  Calls prog 157 #[Y,Z] w (XJ w (a++b)):=by
 have av:=BN ha;have ax:=BN hb;obtain⟨B,ao,aq,rfl,_,U,ay⟩:=An J Yo;obtain⟨C,ap,ar,rfl,_,V,az⟩:=An K Yo;have a3:=Ab U;have a4:=Ab V;have Q:=hd J;have R:=hd K;have ad:=hd ha;have ae:=hd hb;clear J K ha hb U V;go_enter func157,a7;go_wp2
 go_loopg [12] (a.length+1) (fun gk P wr=>∃(k:Nat),P=Vi k/\k<=a.length/\a.length-k<gk/\LW w (a.take k) wr)
 case atStart=>exact⟨0,Yg,Qm _,Yo,Nl,⟨by have:=QL (w.alloc (.cells #[Nl] 266)) (.cells #[Nl] 266);simpa using this,Q2 _ _ _ _⟩,Mxt,fun j x=>by simp[Ak,Value.ownBlock]at x,(Below.heap_alloc _ _ _ Ys).trans (QL w _)⟩
 case round=>
  obtain⟨k,rfl,W,ak,M⟩:=hrel;obtain⟨v,p,q,A,u⟩:=M;have G:=q.size;have aj:=Ab p.box;have d:=hd p;have m:=hd q;have n:=hd A;have h:=hd u;clear p q A u
  by_cases O:k<a.length
  ·obtain⟨s,g⟩:∃s,a[k]?=some s:=⟨_,Qb O⟩;have l:=Aj Q.o (fun j x=>m.o.block j (Q.o.lt j x).2);have al:B<wr.hz:=Yo
   have ag:wr.cell? ⟨B,k*3,none⟩=some (.string ⟨s.name.toArray⟩):=Ag l _ _ (by have:=AV a k s g 0 Yo;rw[Nat.add_zero]at this;rw[this];rfl);have ah:wr.cell? ⟨B,k*3+1,none⟩=some (Vi s.num):=Ag l _ _ (by rw[AV a k s g 1 Yo];rfl);have ai:wr.cell? ⟨B,k*3+2,none⟩=some (Vi s.args):=Ag l _ _ (by rw[AV a k s g 2 Yo];rfl);have y:a.take (k+1)=a.take k++[s]:=by rw[List.take_add_one,g];rfl
   have I:=hd y;clear g l y;go_wp2_with fail;have f:Ao wr (wr.alloc (.cells #[.string ⟨s.name.toArray⟩,Vi s.num,Vi s.args] 133)):=Mxt;refine(J1 _ (w.hz+1) v (Cx (a.take k)) s (d.o.ext f) (by rw[Bu];simp;omega)).mono ?_;rintro e w1 ⟨rfl,z⟩;have t:=LW.add (d.o.ext f) (m.o.trans (f.mono G)) n.o ((f.block _ (Ab h.o)).trans h.o) z;have H:=hd t;clear z t f;go_wp2
   go_roundg (a.length-k)
   case measure=>omega
   case rel=>exact⟨k+1,Yg,Yo,Yo,by rw[I.o];exact H.o⟩
  ·have N:k=a.length:=Yo
   subst N;rw[List.take_length]at d;have ac:Hd (LW w a wr):=⟨v,d.o,m.o,n.o,h.o⟩;clear d m n h;go_wp2
   go_loopg [21] (b.length+1) (fun gk P wr=>∃(k:Nat),P=Vi k/\k<=b.length/\b.length-k<gk/\LW w ((a++b.take k)) wr)
   case atStart=>exact⟨0,Yg,Qm _,Yo,by have:=ac.o;simpa using this⟩
   case round=>
    obtain⟨k,rfl,W,ak,M⟩:=hrel;obtain⟨v,p,q,A,u⟩:=M;have G:=q.size;have aj:=Ab p.box;have d:=hd p;have m:=hd q;have n:=hd A;have h:=hd u;clear p q A u
    by_cases O:k<b.length
    ·obtain⟨s,g⟩:∃s,b[k]?=some s:=⟨_,Qb O⟩;have l:=Aj R.o (fun j x=>m.o.block j (R.o.lt j x).2);have al:C<wr.hz:=Yo
     have ag:wr.cell? ⟨C,k*3,none⟩=some (.string ⟨s.name.toArray⟩):=Ag l _ _ (by have:=AV b k s g 0 Yo;rw[Nat.add_zero]at this;rw[this];rfl);have ah:wr.cell? ⟨C,k*3+1,none⟩=some (Vi s.num):=Ag l _ _ (by rw[AV b k s g 1 Yo];rfl);have ai:wr.cell? ⟨C,k*3+2,none⟩=some (Vi s.args):=Ag l _ _ (by rw[AV b k s g 2 Yo];rfl);have y:b.take (k+1)=b.take k++[s]:=by rw[List.take_add_one,g];rfl
     have I:=hd y;clear g l y;go_wp2_with fail;have f:Ao wr (wr.alloc (.cells #[.string ⟨s.name.toArray⟩,Vi s.num,Vi s.args] 133)):=Mxt;refine(J1 _ (w.hz+1) v (Cx ((a++b.take k))) s (d.o.ext f) (by rw[Bu];simp;omega)).mono ?_;rintro e w1 ⟨rfl,z⟩;have t:=LW.add (d.o.ext f) (m.o.trans (f.mono G)) n.o ((f.block _ (Ab h.o)).trans h.o) z;have H:=hd t;clear z t f;go_wp2
     go_roundg (b.length-k)
     case measure=>omega
     case rel=>exact⟨k+1,Yg,Yo,Yo,by rw[I.o,<-Qi];exact H.o⟩
    ·have N:k=b.length:=Yo
     subst N;rw[List.take_length]at d;obtain⟨cb,r,rfl,a1,a0,a5,a2⟩:=d.o.shape (by rw[Bu];simp;omega);have ab:=hd d.o;have X:(Cx (a++b)).length=a.length+b.length:=by rw[Bu];simp
     have am:=hd X;clear X;go_wp2_with fail;refine(NL wr (w.hz+1) _ (Cx (a++b)) (a++b) d.o (Bu _) (fun i c E=> ?_) (EJ ad.o ae.o) (by rw[Bu];simp;omega)).mono ?_
     ·have hi:=(Qa.1 E).1;rw[Bu]at hi;rw[E3 hi]at E;simp at E;rw[<-E]
     rintro e w1 ⟨rfl,L,F⟩;have D:=(F.block _ (Ab h.o) (Ai ab.o.owns Yd h.o)).trans h.o;have b1:w1.cell? ⟨w.hz+1,0,none⟩=some (.slice (some ⟨cb,0,none⟩) (Cx (a++b)).length r):=Aa L.box 0 _ rfl;have b2:w1.cell? ⟨w.hz,0,none⟩=some Nl:=Aa D 0 _ rfl;have an:=fun i=>Ae D i;have a6:=F.size;have aa:=hd L;have af:=hd F;have S:=hd D;clear L F D;go_wp2;have T:Ad (fun j=>j=w.hz) w1 (w1.setCell ⟨w.hz,0,none⟩ (.slice (some ⟨cb,0,none⟩) (Cx (a++b)).length r)):=(Ad.refl (only w.hz) w1).put 0 _;have h0:(w1.setCell ⟨w.hz,0,none⟩ (.slice (some ⟨cb,0,none⟩) (Cx (a++b)).length r)).cell? ⟨w.hz,0,none⟩=some (.slice (some ⟨cb,0,none⟩) (Cx (a++b)).length r):=Aa (Af S.o 0 _) 0 _ rfl;refine bodyPost_ret (v:= .agg #[.slice (some ⟨cb,0,none⟩) (Cx (a++b)).length r]) (by simp[results,results157,go_sem,h0]) rfl ⟨_,rfl,?_,?_,n.o⟩
     ·have:=By aa.o.owns S.o Yd T;rw[EN,Bu]at this;rw[Bu];exact this
     ·exact(m.o.trans (af.o.below G n.o)).trans (T.below Yo (fun k W=>by omega))
def sz(gs:List GC)(f:Nat->Int):List GC:=gs.mapIdx (fun i c=>{c with size:=f i})
def upd(f:Nat->Int)(x:Nat)(u:Int):Nat->Int:=fun j=>if j=x then u else f j
theorem Dm(gs:List GC)(f:Nat->Int):(sz gs f).length=gs.length:=by simp[sz]
theorem Kc{gs:List GC}{f:Nat->Int}{c:GC}(h:gs[i]?=some c):(sz gs f)[i]?=some {c with size:=f i}:=by
 unfold sz;rw[List.getElem?_mapIdx,h];rfl
theorem Xm(gs:List GC)(f:Nat->Int):(sz gs f).map GC.up=gs.map GC.up:=by
 apply List.ext_getElem?;intro i;rw[Qj,Qj]
 cases h:gs[i]? with
 |none=>rw[List.getElem?_eq_none (by rw[Dm];exact List.getElem?_eq_none_iff.1 h)]
 |some c=>rw[Kc h];rfl
theorem Wd(gs:List GC)(f:Nat->Int)(x:Nat)(u:Int):(sz gs f).modify x (fun c=>{c with size:=u})=sz gs (upd f x u):=by
 apply List.ext_getElem?;intro i;rw[List.getElem?_modify]
 cases h:gs[i]? with
 |none=>
  rw[List.getElem?_eq_none (by rw[Dm];exact List.getElem?_eq_none_iff.1 h),List.getElem?_eq_none (by rw[Dm];exact List.getElem?_eq_none_iff.1 h)];rfl
 |some c=>
  rw[Kc h,Kc h]
  by_cases e:x=i
  ·subst e;simp[upd]
  ·have e':¬i=x:=fun h=>e h.symm;simp[e,upd,e']
def EL:Nat->(Nat->Int)->Nat
 |0,_=>0
 |n+1,f=>EL n f+if f n=0 then 1 else 0
theorem Lh(f:Nat->Int)(x:Nat){u:Int}(b:u≠0):∀n,EL n (upd f x u)<=EL n f/\(x<n->f x=0->EL n (upd f x u)<EL n f):=by
 intro n
 induction n with
 |zero=>exact⟨Qe _,fun h=>by omega⟩
 |succ n c=>
  obtain⟨d,a⟩:=c
  by_cases e:n=x
  ·subst e;have:upd f n u n=u:=by simp[upd]
   simp only[EL,this,if_neg b];refine⟨Yo,fun _ h=> ?_⟩;rw[if_pos h];omega
  ·have:upd f x u n=f n:=by simp[upd,e]
   simp only[EL,this];exact⟨Yo,fun h h0=>by have:=a Yo h0;omega⟩
def Mh(n:Nat)(f:Nat->Int)(j:Nat):Prop:=j<n/\0<f j
def Si(n:Nat)(f:Nat->Int)(T:Nat->Ly):Prop:=∀j,j<n->f j=0\/f j= -1\/(0<f j/\f j=((min 31 (T j).length:Nat):Int))
def Ik(T:Nat->Ly)(ρ:Nat->Nat)(ks:List Nat):Nat:=(ks.map (fun k=>min 31 (T (ρ k)).length)).sum
theorem W3(T:Nat->Ly)(b:Nat->Nat)(ks:List Nat):Ik T b ks<=31*ks.length:=by
 induction ks with
 |nil=>simp[Ik]
 |cons k ks a=>simp only[Ik,Qx,List.sum_cons,Qf]at a⊢;omega
theorem TD(T:Nat->Ly)(a:Nat->Nat)(ks:List Nat)(k:Nat):Ik T a (ks++[k])=Ik T a ks+min 31 (T (a k)).length:=by simp[Ik]
theorem R5{T a:Nat->Ly}{ks:List Nat}(h:∀k∈ks,a (ρ k)=T (ρ k)):Ik a ρ ks=Ik T ρ ks:=by
 unfold Ik;congr 1;exact List.map_congr_left (fun k b=>by rw[h k b])
theorem VJ(T:Nat->Ly)(a:Nat->Nat)(ks:List Nat):min 31 (1+Ik T a ks)=min 31 (1+((ks.map (fun k=>T (a k))).flatten).length):=by
 induction ks with
 |nil=>rfl
 |cons k ks b=>simp only[Ik,Qx,List.sum_cons,Q4,Qg]at b⊢;omega
theorem Oc(a:Wf n l)(hi:i<l.length):(AB l i).args<=l.length:=by
 obtain⟨_,d,_⟩:=Ft a hi;obtain⟨_,_,_,_,_,hb,_⟩:=DV a hi;have c:∀k,k<(AB l i).args->i<AJ l (i+1) k/\AJ l (i+1) k<l.length:=fun k b=>by
  have:=d _ (Qh (BQ l (i+1) _ k b));omega
 have mono:∀k,k<=(AB l i).args->i+1+k<=AJ l (i+1) k:=by
  intro k
  induction k with
  |zero=>intro _;simp[AJ]
  |succ k e=>
   intro b;have:=e Yo;rw[BX];have:=c k Yo;obtain⟨_,_,_,_,f,_⟩:=DV a (i:=AJ l (i+1) k) Yo;omega
 rcases QB l.length (AB l i).args with h|h
 ·exfalso;have:=mono l.length Yo;have:=c l.length h;omega
 ·exact h
def S5(gb:Nat)(v:Value)(gs:List GC)(l:Ly)(ρ:Nat->Nat)(f:Nat->Int)(T:Nat->Ly)(i:Nat)(w:World)(e:Ending)(w':World):Prop:=∃f',F8 w' gb v (sz gs f')/\Ad (Ak v) w w'/\
 ((∃T',e= .returned (.int .i64 ((min 31 (T' (ρ i)).length:Nat):Int))/\Si gs.length f' T'/\EL gs.length f'<=EL gs.length f/\CP (Cc l) ρ (Mh gs.length f') T'/\Mh gs.length f' (ρ i)/\(∀j,f' j= -1↔f j= -1)/\(∀j,Mh gs.length f j->Mh gs.length f' j/\T' j=T j))\/
  (e= .returned (.int .i64 (-1))/\FW (Cc l) ρ (fun r=>f r= -1) i))
def LI(m:Nat):Prop:=∀(w:World)(gb:Nat)(v:Value)(gs:List GC)(l:Ly)(ρ rk:Nat->Nat)(f:Nat->Int)(T:Nat->Ly)(i:Nat),F8 w gb v (sz gs f)->DU gs l->Wf 2 l->Fa (gs.map GC.up) ρ rk->Si gs.length f T->EL gs.length f<=m->i<gs.length->gs.length<=4000->CP (Cc l) ρ (Mh gs.length f) T->
 Calls prog 159 #[.pointer (some ⟨gb,0,none⟩),.int .i64 i] w (S5 gb v gs l ρ f T i w)
theorem T1(m:Nat)(bg:∀k,k<m->LI k):LI m:=by
 intro w y v gs l g b3 f T i h K a5 ah au bv hi hl bk;have a3:=ah.rt;have A:=a3.lt i (by simpa using hi);have a6:=a3.idem i (by simpa using hi);rw[Ql]at A;obtain⟨x,ai⟩:=Ex (g i);rw[<-ai]at A a6;obtain⟨cb,s,rfl,dj,cv,ds,dl⟩:=h.shape (by rw[Dm];omega);have bz:(sz gs f).length=gs.length:=Dm gs f;rw[bz]at h cv⊢;obtain⟨d,ac⟩:∃c,gs[x]?=some c:=⟨_,Qb A⟩;obtain⟨a4,cu⟩:=K.all x d ac;have X:=hd (Fq w y (.slice (some ⟨cb,0,none⟩) gs.length s) (sz gs f) g b3 i h (by rw[Xm];exact ah) (by rw[Dm];exact hi) (by rw[Dm];exact hl));rw[<-ai]at X;have ay:∀a w',F8 w' y (.slice (some ⟨cb,0,none⟩) gs.length s) (sz gs a)->∀j c,gs[j]?=some c->w'.cell? ⟨cb,j*6+2,none⟩=some (Vi c.sym.args)/\w'.cell? ⟨cb,j*6+3,none⟩=some (Vi c.behind)/\w'.cell? ⟨cb,j*6+5,none⟩=some (Vi (a j)):=fun a w' cz j c b=>by
  have U:F8 w' y (.slice (some ⟨cb,0,none⟩) (sz gs a).length s) (sz gs a):=by rw[Dm];exact cz
  obtain⟨_,_,cp,cq,_,cr⟩:=U.cell (Kc (f:=a) b);exact⟨cp,cq,cr⟩
 have bd:=hd ay;have bi:w.cell? ⟨y,0,none⟩=some (.slice (some ⟨cb,0,none⟩) gs.length s):=Aa h.box 0 _ rfl;have dn:=Ab h.box;obtain⟨c9,da,aj⟩:=ay f w h x d ac;have cw:=au x A;have dh:d.sym.args<=4000:=by
  have:=Oc a5 (i:=x) (by rw[<-K.len];exact A);rw[<-a4,<-K.len]at this;omega
 have ak:=hd h;have cm:=hd ah;have F:=hd K;have Y:=hd a5;have ba:=hd au;have cg:=hd bv;have a8:=hd bk;have cd:=hd bg;have G:=hd ai;have cl:=hd a6;have al:=hd ac;have bf:=hd a4;clear h ah K a5 au bv bk bg ai a6 ac a4 a3 ay cu bz;rcases cw with h0|h0|⟨h0,bj⟩
 ·have E:=hd h0;rw[h0]at aj;clear h0;go_enter func159,b2;go_wp2_with fail;apply X.o.mono;rintro e w1 ⟨rfl,rfl⟩;go_wp2;obtain⟨t,R⟩:∃co,co=AW l (x+1) d.sym.args:=⟨_,rfl⟩;have db:=hd R;have bl:t.length=d.sym.args:=by rw[R,CO]
  have a9:=hd bl;have ao:Hd ((Cc l).kids x=t):=by show AW l (x+1) (AB l x).args=t;rw[R,<-bf.o]
  have br:∀k,k<d.sym.args->t[k]?=some (AJ l (x+1) k):=fun k ad=>by rw[R];exact BQ l (x+1) _ k ad
  have bt:∀k,k<d.sym.args->AJ l (x+1) k<gs.length:=fun k ad=>by
   have b1:x<l.length:=by rw[<-F.o.len];exact A
   obtain⟨_,cs,_⟩:=Ft Y.o b1;obtain⟨_,_,_,_,_,di,_⟩:=DV Y.o b1;have:=cs _ (Qh (by rw[<-bf.o];exact BQ l (x+1) _ k ad));have:=F.o.len;omega
  have ce:=hd br;have cf:=hd bt;clear R bl br bt
  go_loopg [6,7,8] (d.sym.args+1) (fun gk tv av nv wr=>∃(k:Nat)(a:Nat->Int)(B:Nat->Ly),tv=Vi ((1+Ik B g (t.take k):Nat):Int)/\av=Vi (AJ l (x+1) k:Nat)/\nv=Vi k/\k<=d.sym.args/\d.sym.args-k<gk/\F8 wr y (.slice (some ⟨cb,0,none⟩) gs.length s) (sz gs a)/\Ad (Ak (.slice (some ⟨cb,0,none⟩) gs.length s)) w1 wr/\
    Si gs.length a B/\EL gs.length a<EL gs.length f/\CP (Cc l) g (Mh gs.length a) B/\(∀j∈t.take k,Mh gs.length a (g j))/\(∀j,a j= -1↔f j= -1\/j=x)/\(∀j,Mh gs.length f j->Mh gs.length a j/\B j=T j))
  case atStart=>
   have ag:∀j,upd f x (-1) j= -1↔f j= -1\/j=x:=fun j=>by
    unfold upd
    by_cases e:j=x
    ·simp[e]
    ·simp[e]
   have P:∀j,Mh gs.length (upd f x (-1)) j↔Mh gs.length f j:=fun j=>by
    unfold Mh upd
    by_cases e:j=x
    ·subst e;simp[E.o]
    ·simp[e]
   refine⟨0,upd f x (-1),T,by simp[Ik],by simp[AJ],Yg,Qm _,Yo,?_,(Ad.refl _ w1).setCell (p:=⟨cb,x*6+5,none⟩) (fun _=>(rfl:some cb=some cb)) _,?_,(Lh f x Yo gs.length).2 A E.o,a8.o.congr P (fun _ _=>rfl),Ys,ag,fun j b=>⟨(P j).2 b,rfl⟩⟩
   ·have U:F8 w1 y (.slice (some ⟨cb,0,none⟩) (sz gs f).length s) (sz gs f):=by rw[Dm];exact ak.o
    have:=U.put (Kc (f:=f) al.o) (f:=fun c=>{c with size:= -1}) (j:=5) (u:=Vi (-1)) Yo rfl;rw[Wd,Dm]at this;exact this
   ·intro j b;unfold upd
    by_cases e:j=x
    ·simp[e]
    ·simp only[if_neg e];exact ba.o j b
  case round=>
   obtain⟨k,a,B,rfl,rfl,rfl,ad,dr,N,az,bo,bq,bs,ae,ag,bw⟩:=hrel;have dv:=az.size;have bi:wr.cell? ⟨y,0,none⟩=some (.slice (some ⟨cb,0,none⟩) gs.length s):=Aa N.box 0 _ rfl;have dp:=Ab N.box;have dk:cb<wr.hz:=Yo
   have dm:∀j,wr.frozen? ⟨cb,j,none⟩=false:=by
    obtain⟨dd,dc,e,_,_,_,cy⟩:=N.shape (by rw[Dm];omega);simp at e;obtain⟨rfl,_⟩:=e;exact cy
   obtain⟨b4,b5,b6⟩:=bd.o a wr N x d al.o;have c6:Ik B g (t.take k)<=31*4000:=Qq (W3 _ _ _) Yp;obtain⟨S,aw⟩:=Ex (Ik B g (t.take k));rw[<-aw]at c6⊢;have V:=hd aw;have a7:=hd N;have ap:=hd az;have bb:=hd bo;have am:=hd bq;have be:=hd bs;have an:=hd ae;have W:=hd ag;have Q:=hd bw;clear aw N az bo bq bs ae ag bw c9 da aj
   by_cases bu:k<d.sym.args
   ·obtain⟨L,a0⟩:∃n,n=AJ l (x+1) k:=⟨_,rfl⟩;have a1:=cf.o k bu;have af:=ce.o k bu;rw[<-a0]at a1 af⊢;obtain⟨cn,ax⟩:∃c,gs[L]?=some c:=⟨_,Qb a1⟩;have H:=(F.o.all L cn ax).2;have ch:Hd (L∈(Cc l).kids (g i)):=by show _∈_;rw[<-G.o,ao.o];exact Qh af
    have b9:=hd (cd.o (EL gs.length a) (by have:=cg.o;have:=am.o;omega) wr y (.slice (some ⟨cb,0,none⟩) gs.length s) gs l g b3 a B L a7.o F.o Y.o cm.o bb.o (Qe _) a1 hl be.o);have ci:=hd a0;have cj:=hd af;have cc:=hd ax;have ca:=hd H;clear a0 af ax H;go_wp2_with fail;apply b9.o.mono;rintro e w2 ⟨aq,z,C,⟨bh,rfl,D,ar,Z,aa,ab,I⟩|⟨rfl,D⟩⟩
    ·have du:=C.size;obtain⟨_,b7,_⟩:=bd.o aq w2 z L cn cc.o;rw[ca.o]at b7;have bi:w2.cell? ⟨y,0,none⟩=some (.slice (some ⟨cb,0,none⟩) gs.length s):=Aa z.box 0 _ rfl;have dq:=Ab z.box;obtain⟨M,O⟩:=Ex (min 31 (bh (g L)).length);rw[<-O];have df:M<=31:=by rw[O];omega
     have dg:¬((M:Int)= -1):=Yo
     obtain⟨bn,H⟩:∃q,q=A6 l L:=⟨_,rfl⟩;rw[<-H]at b7;have J:=hd (And.intro z (And.intro C (And.intro D (And.intro ar (And.intro Z (And.intro aa (And.intro ab (And.intro I (And.intro O H)))))))));clear z C D ar Z aa ab I b4 b5 b6 O H;go_wp2
     go_roundg (d.sym.args-k)
     case measure=>omega
     case rel=>
      obtain⟨z,C,D,ar,Z,aa,ab,I,O,H⟩:=J.o;have b0:=GE cj.o;refine⟨k+1,aq,bh,?_,?_,Yg,Yo,Yo,z,ap.o.trans C,D,by have:=am.o;omega,Z,?_,fun j=>(ab j).trans (W.o j),fun j b=>⟨(I j (Q.o j b).1).1,(I j (Q.o j b).1).2.trans (Q.o j b).2⟩⟩
      ·rw[b0,TD,R5 (fun j b=>(I _ (an.o j b)).2),<-V.o,<-O]
       congr 1
       omega
      ·rw[BX,<-ci.o,<-H]
      ·intro j b;rw[b0]at b;rcases Qk.1 b with b|b
       ·exact(I _ (an.o j b)).1
       ·simp at b;subst b;exact aa
    ·have J:=hd (And.intro z (And.intro C D));clear z C D b4 b5 b6;go_wp2;go_ret;obtain⟨z,C,D⟩:=J.o;have c5:FW (Cc l) g (fun r=>f r= -1) i:=FW.up (S2 Y.o) (by show _<l.length;rw[<-F.o.len];exact hi) (by rw[<-G.o];show _<l.length;rw[<-F.o.len];exact A) ch.o (fun val c7 K=>by
      obtain⟨r,c4,c1⟩:=D val c7 K;exact⟨r,by rw[<-G.o];exact(W.o r).1 c4,c1⟩)
     exact⟨aq,z,ap.o.trans C,Or.inr ⟨rfl,c5⟩⟩
   ·have cx:k=d.sym.args:=Yo
    subst cx;have c3:Hd (¬Mh gs.length a x):=fun hd=>by
     have:=(W.o x).2 (Or.inr rfl);have:=hd.2;omega
    have ae:Hd (∀j∈t,Mh gs.length a (g j)):=by
     have:=an.o;rw[<-a9.o,List.take_length]at this;exact this
    have V:Hd (S=Ik B g t):=by
     have:=V.o;rw[<-a9.o,List.take_length]at this;exact this
    have bc:Hd (∀(w3:World)(n:Nat),n=min 31 (1+S)->w3=wr.setCell ⟨cb,x*6+5,none⟩ (Vi n)->S5 y (.slice (some ⟨cb,0,none⟩) gs.length s) gs l g f T i w1 (.returned (Vi n)) w3):=fun w3 n hn c8=>by
     subst c8;have bm:=be.o.more (r:=x) (by show _<l.length;rw[<-F.o.len];exact A) cl.o c3.o (by rw[ao.o];exact ae.o);rw[ao.o]at bm;have bp:n=min 31 ((Cc l).hd x::(t.map (fun k=>B (g k))).flatten).length:=by
      rw[hn,V.o,VJ,Qf,Nat.add_comm]
     have c2:(n:Int)≠0:=Yo
     have P:∀j,Mh gs.length (upd a x n) j↔Mh gs.length a j\/j=x:=fun j=>by
      unfold Mh upd
      by_cases e:j=x
      ·subst e;simp only[if_true,or_true,iff_true];exact⟨A,Yo⟩
      ·simp[e]
     refine⟨upd a x n,?_,ap.o.trans ((Ad.refl _ wr).setCell (p:=⟨cb,x*6+5,none⟩) (fun _=>(rfl:some cb=some cb)) _),Or.inl ⟨_,?_,?_,Qq (Lh a x c2 gs.length).1 (Nat.le_of_lt am.o),bm.congr P (fun _ _=>rfl),by rw[<-G.o];exact(P x).2 (Or.inr rfl),?_,?_⟩⟩
     ·have U:F8 wr y (.slice (some ⟨cb,0,none⟩) (sz gs a).length s) (sz gs a):=by rw[Dm];exact a7.o
      have:=U.put (Kc (f:=a) al.o) (f:=fun c=>{c with size:=n}) (j:=5) (u:=Vi n) Yo rfl;rw[Wd,Dm]at this;exact this
     ·rw[<-G.o];simp only[if_true];rw[<-bp]
     ·intro j b;unfold upd
      by_cases e:j=x
      ·subst e;simp only[if_true];exact Or.inr (Or.inr ⟨Yo,by rw[<-bp]⟩)
      ·simp only[if_neg e];exact bb.o j b
     ·intro j;unfold upd
      by_cases e:j=x
      ·subst e;simp only[if_true];rw[E.o];constructor<;>intro h<;>omega
      ·simp only[if_neg e];rw[W.o];simp[e]
     ·intro j b;refine⟨(P j).2 (Or.inl (Q.o j b).1),?_⟩;have c0:j≠x:=fun e=>by
       subst e;have:=b.2;rw[E.o]at this;omega
      rw[if_neg c0];exact(Q.o j b).2
    obtain⟨dw,bx⟩:∃q,q=AJ l (x+1) d.sym.args:=⟨_,rfl⟩;rw[<-bx];clear bx
    by_cases de:1+S<=30
    ·have ct:¬((30:Int)<((1+S:Nat):Int)):=Yo
     go_wp2;go_ret;exact bc.o _ (1+S) Yo rfl
    ·have ct:(30:Int)<((1+S:Nat):Int):=Yo
     go_wp2;go_ret;exact bc.o _ 31 Yo rfl
 ·go_enter func159,b2;rw[h0]at aj;have E:=hd h0;clear h0;go_wp2_with fail;apply X.o.mono;rintro e w1 ⟨rfl,rfl⟩;go_wp2;go_ret;exact⟨f,ak.o,Ad.refl _ _,Or.inr ⟨rfl,FW.here (by show _<l.length;rw[<-F.o.len];exact hi) (by rw[<-G.o];exact E.o)⟩⟩
 ·obtain⟨q,a2⟩:=Ex (f x);rw[<-a2]at aj;have dt:q≠0:=Yo
  have ck:=hd a2;have b8:=hd bj;have E:=hd h0;clear a2 h0 bj;go_enter func159,b2;go_wp2_with fail;apply X.o.mono;rintro e w1 ⟨rfl,rfl⟩;go_wp2;go_ret;refine⟨f,ak.o,Ad.refl _ _,Or.inl ⟨T,?_,ba.o,Qe _,a8.o,by rw[<-G.o];exact⟨A,E.o⟩,fun _=>Iff.rfl,fun j b=>⟨b,rfl⟩⟩⟩;show Ending.returned (Vi q)=_;rw[ck.o,b8.o,G.o]
theorem VK(m:Nat):LI m:=by
 induction m using Nat.strongRecOn with
 |_ m a=>exact T1 m a
def Jn(w:World)(size:Nat)(xv:Value)(m:Nat)(news:Lv):Prop:=
 news.length=m*size/\(∀u∈news,u.oneCell'=true)/\((m=0/\xv= .slice none 0 0)\/∃a c,xv= .slice (some a) m c/\∀j u,news[j]?=some u->w.cell? (a.add j)=some u)
theorem PC(w:World)(t ty:TypeId)(base:Nat)(e:TypeId){q:Value}{d:Nat}
  (K:(P.info? e).map (fun i=>(i.zero,i.size,i.bytes))=some (some q,size,d)) (p:P.underlying t=some (.slice e)) (R:q.cells.size=size) (O:0<size)
  (v:Value) (n:Nat) (xs:Lv) (f:w.ownsRow base e size v n xs) (B:Value) (m:Nat) (b:Lv) (Q:Jn w size B m b)
  (z:(n+m)*(d+1)<=140737488355328) (G:base<=w.hz):
  ∃j w',(Builtin.append_ #[t,t] ty #[v,B]).run P w= .ok j w'/\Ar w base e size v (n+m) (xs++b) j w':=by
 obtain⟨i,hi,hz,o,A⟩:=info_parts K;have S:n+m<=140737488355328:=Qq (Nat.le_mul_of_pos_right (n+m) (Nat.succ_pos d)) z;have y:(n+m)*d<=140737488355328:=Qq (Nat.mul_le_mul_left _ (Nat.le_succ _)) z;have x:n+m<=maxLen:=by simp only[maxLen];omega
 obtain⟨hl,r,⟨rfl,rfl⟩|⟨a,c,rfl,s⟩⟩:=Q
 ·have hn:b=[]:=List.eq_nil_of_length_eq_zero (by simpa using hl);subst hn;exact⟨v,w,run_append_owned_none w base t ty e i size p hi v n xs f,by simpa using f,Ad.refl _ _,Or.inl rfl⟩
 ·obtain⟨j,w',l,D,E,F⟩:=run_append_own (P:=P) w base t ty e i q size d p hi hz o A R O v n xs f a m c b hl s r x y G;refine⟨j,w',l,D,Ad.of_grown E|>.mono (fun k _ h=>h),?_⟩;rcases Nat.eq_zero_or_pos m with rfl|L
  ·rcases f.2 with⟨rfl,rfl⟩|⟨g,C,u,rfl,T,J,M,U,H,V⟩
   ·have:=F.2 ⟨rfl,rfl⟩;rw[this];exact Or.inl rfl
   ·have I:n*i.size+b.length<=u.size:=by rw[hl,H,o];simp;exact Nat.mul_le_mul_right _ M
    have N:=run_append_room (P:=P) w t ty e i p hi g n C u J a 0 c b (by rw[o];exact hl) s r Yo I;rw[N]at l;injection l with h2 h3;subst h2;exact Or.inl rfl
  ·subst o A;rcases Gt (P:=P) w base t ty e i q p hi hz v n xs f a m c b hl L s r x y j w' l with h|h
   ·exact .inl h
   ·exact .inr ⟨_,h,Qe _⟩
theorem Sq{o:Oper}{a:Act}{f:Act->World->Prop}{k:Exit->Act->World->Prop}(w:World)(s x:Operand)(t:TypeId)
  (u:o.op= .call {callee:= .builtin .append,args:=#[s,x],argTypes:=#[t,t]})
  (base:Nat) (e:TypeId) {j:Value} {g:Nat}
  (r:(P.info? e).map (fun i=>(i.zero,i.size,i.bytes))=some (some j,size,g)) (D:P.underlying t=some (.slice e)) (F:j.cells.size=size) (C:0<size)
  (v:Value) (n:Nat) (xs:Lv) (B:a.eval s=v) (y:w.ownsRow base e size v n xs) (d:Value) (m:Nat) (c:Lv) (E:a.eval x=d) (z:Jn w size d m c)
  (q:(n+m)*(g+1)<=140737488355328) (p:base<=w.hz)
  (h:∀b w',Ar w base e size v (n+m) (xs++c) b w'->f (a.put o.dst b) w'):o.wp P a w f k:=by
 obtain⟨b,w',A,l⟩:=PC (P:=P) w t o.type base e r D F C v n xs y d m c z q p;unfold Oper.wp;simp[execOp,u,resolve,invoke,builtin,B,E,A,Result.andThen];exact h b w' l
theorem BT{ops:Array Oper}{rest:List Oper}{o:Oper}{a:Act}{f:Exit->Act->World->Prop}(w:World)(r:o.guard=none)(s x:Operand)(t:TypeId)
  (y:o.op= .call {callee:= .builtin .append,args:=#[s,x],argTypes:=#[t,t]})
  (base:Nat) (e:TypeId) {j:Value} {g:Nat}
  (u:(P.info? e).map (fun i=>(i.zero,i.size,i.bytes))=some (some j,size,g)) (D:P.underlying t=some (.slice e)) (F:j.cells.size=size) (C:0<size)
  (v:Value) (n:Nat) (xs:Lv) (B:a.eval s=v) (z:w.ownsRow base e size v n xs) (d:Value) (m:Nat) (c:Lv) (E:a.eval x=d) (A:Jn w size d m c)
  (q:(n+m)*(g+1)<=140737488355328) (p:base<=w.hz)
  (h:∀b w',Ar w base e size v (n+m) (xs++c) b w'->wpList P ops f rest (a.put o.dst b) w'):wpList P ops f (o::rest) a w:=
 wpList_plain r fun _ l=>Sq w s x t y base e u D F C v n xs B z d m c E A q p fun b w' k=>l _ _ (h b w' k)
theorem Gf(h:w.ownsRow B e size v n xs)(b:∀u∈xs,u.oneCell'=true):Jn w size v n xs:=by
 refine⟨h.1,b,?_⟩;rcases h.2 with⟨rfl,rfl⟩|⟨g,a,d,rfl,_⟩
 ·exact Or.inl ⟨rfl,rfl⟩
 ·exact Or.inr ⟨⟨g,0,none⟩,a,rfl,fun j u c=>h.cells (g:=g) rfl j u c⟩
theorem Db(a b:Ly):Aq (a++b)=Aq a++Aq b:=by simp[Aq]
theorem MD(l:Ly):∀u∈Aq l,u.oneCell'=true:=by
 intro u b;simp only[Aq,List.mem_flatMap,Bz]at b;obtain⟨s,_,a⟩:=b;simp at a;rcases a with rfl|rfl|rfl<;>rfl
def G1(t:Ly)(w:World)(e:Ending)(w':World):Prop:=∃v B,e= .returned v/\w.heap.size<=B/\w'.ownsRow B 133 3 v t.length (Aq t)/\Ao w w'
def Lf(m:Nat):Prop:=∀(w:World)(gb:Nat)(v:Value)(gs:List GC)(l:Ly)(ρ rk:Nat->Nat)(D:Np)(T:Nat->Ly)(i:Nat),F8 w gb v gs->DU gs l->Wf 2 l->Fa (gs.map GC.up) ρ rk->CP (Cc l) ρ D T->D (ρ i)->i<gs.length->gs.length<=4000->(T (ρ i)).length<=m->(T (ρ i)).length<=4000->
 Calls prog 192 #[.pointer (some ⟨gb,0,none⟩),.int .i64 i] w (G1 (T (ρ i)) w)
theorem Ue(m:Nat)(aq:∀k,k<m->Lf k):Lf m:=by
 intro w s v gs l b a2 D T i h t E R K G hi hl ad P;have az:=R.rt;have F:=az.lt i (by simpa using hi);rw[Ql]at F;obtain⟨x,S⟩:=Ex (b i);rw[<-S]at F G ad P⊢;obtain⟨cb,r,rfl,cj,ci,ct,cl⟩:=h.shape Yo;obtain⟨a,O⟩:∃c,gs[x]?=some c:=⟨_,Qb F⟩;obtain⟨C,bx⟩:=t.all x a O;have ap:=hd (Fq w s (.slice (some ⟨cb,0,none⟩) gs.length r) gs b a2 i h R hi hl);rw[<-S]at ap;have W:w.cell? ⟨s,0,none⟩=some (.slice (some ⟨cb,0,none⟩) gs.length r):=Aa h.box 0 _ rfl;have cm:=Ab h.box;obtain⟨b5,b6,b7,_,_,_⟩:=h.cell O;have cg:a.sym.args<=4000:=by
  have:=Oc E (i:=x) (by rw[<-t.len];exact F);rw[<-C,<-t.len]at this;omega
 obtain⟨d,M⟩:∃bt,bt=AW l (x+1) a.sym.args:=⟨_,rfl⟩;have a7:Hd (d.length=a.sym.args):=by show _=_;rw[M,CO]
 have ac:(Cc l).kids x=d:=by show AW l (x+1) (AB l x).args=d;rw[M,<-C]
 have bg:Hd (∀k,k<a.sym.args->d[k]?=some (AJ l (x+1) k)):=fun k p=>by rw[M];exact BQ l (x+1) _ k p
 have bh:Hd (∀k,k<a.sym.args->AJ l (x+1) k<gs.length):=fun k p=>by
  have a1:x<l.length:=by rw[<-t.len];exact F
  obtain⟨_,bw,_⟩:=Ft E a1;obtain⟨_,_,_,_,_,ch,_⟩:=DV E a1;have:=bw _ (Qh (by rw[<-C];exact BQ l (x+1) _ k p));have:=t.len;omega
 have Z:T x=a.sym::((d.map (fun k=>T (b k))).flatten):=by
  have:=K.tm x G;rw[ac]at this;rw[this,C];rfl
 have bq:Hd (∀k n,d[k]?=some n->D (b n)/\1+(((d.take k).map (fun k=>T (b k))).flatten).length+(T (b n)).length<=(T x).length):=fun k n hn=>by
  refine⟨K.kid x G n (by rw[ac];exact Qh hn),?_⟩;obtain⟨cs,b1⟩:=Qa.1 hn;have e:d=d.take k++n::d.drop (k+1):=by
   rw[<-b1,List.getElem_cons_drop,List.take_append_drop]
  rw[Z]
  conv=>rhs;rw[e]
  simp only[Qr,Qx,List.flatten_append,Q4,Qf,Qg];omega
 have a9:=hd Z;have ai:=hd h;have br:=hd R;have ao:=hd t;have bs:=hd E;have bi:=hd ad;have a6:=hd K;have bf:=hd aq;have cc:=hd S;have ca:=hd O;have bj:=hd P;clear Z h R t E ad K aq S O az bx ac M C G P;go_enter func192,ntmps192;go_wp2_with fail;apply ap.o.mono;rintro e w1 ⟨rfl,rfl⟩;have bk:Hd (World.ownsRow (w1.alloc (.cells #[.string ⟨a.sym.name.toArray⟩,Vi a.sym.num,Vi a.sym.args] 133)) (w1.hz+1) 133 3 Nl 0 []):=Q2 _ _ _ _
 go_wp2_with (at_builtin;refine Am (w1.alloc (.cells #[.string ⟨a.sym.name.toArray⟩,Vi a.sym.num,Vi a.sym.args] 133)) rfl (.tmp 22) (.tmp 24) 105 rfl (w1.hz+1) 133 infoSym underlying105 rfl Yd Nl 0 [] rfl bk.o #[.string ⟨a.sym.name.toArray⟩,Vi a.sym.num,Vi a.sym.args] (N:=w1.hz+1) rfl Ys rfl (Fu _ _ _) ?_ ?_ ?_)
 ·omega
 ·simp
 intro b4 w2 g;have ay:w2.ownsRow (w1.hz+1) 133 3 b4 1 (Aq [a.sym]):=by simpa[Aq,Bz]using g.owns
 have au:Below (w1.hz+1) (w1.alloc (.cells #[.string ⟨a.sym.name.toArray⟩,Vi a.sym.num,Vi a.sym.args] 133)) w2:=g.kept.below Ys (fun k p=>by simp[Ak,Value.ownBlock]at p);have bp:=hd ay;have ba:=hd au;clear g ay au;go_wp2
 go_loopg [7,8,9] (a.sym.args+1) (fun gk tv av nv wr=>∃(k:Nat),av=Vi (AJ l (x+1) k:Nat)/\nv=Vi k/\k<=a.sym.args/\a.sym.args-k<gk/\Below (w1.hz+1) (w1.alloc (.cells #[.string ⟨a.sym.name.toArray⟩,Vi a.sym.num,Vi a.sym.args] 133)) wr/\
   wr.ownsRow (w1.hz+1) 133 3 tv (1+(((d.take k).map (fun k=>T (b k))).flatten).length) (Aq (a.sym::((d.take k).map (fun k=>T (b k))).flatten)))
 case atStart=>exact⟨0,by simp[AJ],Yg,Qm _,Yo,ba.o,by simpa using bp.o⟩
 case round=>
  obtain⟨k,rfl,rfl,p,cr,z,ag⟩:=hrel;obtain⟨ta,a3,rfl⟩:=Ac ag;have a0:=z.size;have a0:w1.hz+1<=wr.hz:=by simpa using a0
  have X:Ao w1 wr:=by
   have h0:Ao w1 (w1.alloc (.cells #[.string ⟨a.sym.name.toArray⟩,Vi a.sym.num,Vi a.sym.args] 133)):=Mxt;exact h0.trans (z.mono Yo)
  have H:=ai.o.ext X;have W:wr.cell? ⟨s,0,none⟩=some (.slice (some ⟨cb,0,none⟩) gs.length r):=Aa H.box 0 _ rfl;have co:=Ab H.box;have ck:cb<wr.hz:=Yo
  have aa:wr.heap[w1.hz]?=some (.cells #[.string ⟨a.sym.name.toArray⟩,Vi a.sym.num,Vi a.sym.args] 133 (0,0)):=(z.block _ Yo).trans (QL w1 _);have cz:wr.cell? ⟨w1.hz,2,none⟩=some (Vi a.sym.args):=Aa aa 2 _ rfl;have cv:=Ab aa;have bd:=hd z;have U:=hd ag;have al:=hd H;have aj:=hd X;clear z ag H X aa b5 b6 b7
  by_cases aw:k<a.sym.args
  ·obtain⟨f,ae⟩:∃n,n=AJ l (x+1) k:=⟨_,rfl⟩;have af:=bh.o k aw;have Q:=bg.o k aw;rw[<-ae]at af Q⊢;obtain⟨cn,ab⟩:∃c,gs[f]?=some c:=⟨_,Qb af⟩;have u:=(ao.o.all f cn ab).2;obtain⟨ar,b2⟩:=bq.o k f Q;have P:=bj.o;have a5:=hd (bf.o (T (b f)).length (by have:=bi.o;omega) wr s (.slice (some ⟨cb,0,none⟩) gs.length r) gs l b a2 D T f al.o ao.o bs.o br.o a6.o ar af hl (Qe _) Yo);have bl:=hd ae;have bm:=hd Q;have bb:=hd u;have be:=hd ab;obtain⟨L,Y⟩:=Ex ((((d.take k).map (fun k=>T (b k))).flatten));rw[<-Y]at b2⊢;have am:=hd Y;clear ae Q u ab Y ar;go_wp2_with fail;apply a5.o.mono;rintro e w3 ⟨cx,b8,rfl,cf,ah,y⟩;obtain⟨bu,bv,rfl⟩:=Ac ah;have cu:=y.size;have I:=al.o.ext y;have W:w3.cell? ⟨s,0,none⟩=some (.slice (some ⟨cb,0,none⟩) gs.length r):=Aa I.box 0 _ rfl;have cp:=Ab I.box;have a8:Hd (Jn w3 3 (.slice bu (T (b f)).length bv) (T (b f)).length (Aq (T (b f)))):=Gf ah (MD _);have V:Hd (w3.ownsRow (w1.hz+1) 133 3 (.slice ta (1+L.length) a3) (1+L.length) (Aq (a.sym::L))):=by
    have:=Aj U.o (fun j A=>y.block j (U.o.lt j A).2);rw[<-am.o]at this;exact this
   have ak:=hd y;have b9:=hd I;clear ah y I
   go_wp2_with (at_builtin;refine BT _ rfl (.tmp 46) (.tmp 47) 105 rfl (w1.hz+1) 133 infoSym underlying105 rfl Yd _ (1+L.length) (Aq (a.sym::L)) rfl V.o _ (T (b f)).length (Aq (T (b f))) rfl a8.o ?_ ?_ ?_)
   ·omega
   ·omega
   intro cy w4 g;obtain⟨cd,ce,rfl⟩:=Ac g.owns;have J:F8 w4 s (.slice (some ⟨cb,0,none⟩) gs.length r) gs:=by
    have p:=g.kept.below (B:=w1.hz+1) Yo (fun j A=>(V.o.lt j A).1);have bz:Ao w1 w4:=aj.o.trans ((ak.o.mono Yo).trans (p.mono Yo));exact ai.o.ext bz
   obtain⟨_,_,_,a4,_,_⟩:=J.cell be.o;rw[bb.o]at a4;have W:w4.cell? ⟨s,0,none⟩=some (.slice (some ⟨cb,0,none⟩) gs.length r):=Aa J.box 0 _ rfl;have cq:=Ab J.box;obtain⟨bn,u⟩:∃q,q=A6 l f:=⟨_,rfl⟩;rw[<-u]at a4;have bc:=hd u;have an:=hd g;clear g J u;go_wp2
   go_roundg (a.sym.args-k)
   case measure=>omega
   case rel=>
    have b3:=GE bm.o;refine⟨k+1,by rw[BX,<-bl.o,<-bc.o],Yg,Yo,Yo,?_,?_⟩
    ·exact bd.o.trans ((ak.o.mono Yo).trans (an.o.kept.below (B:=w1.hz+1) Yo (fun j A=>(V.o.lt j A).1)))
    ·have:=an.o.owns;rw[b3,Qr,List.flatten_append,<-am.o];simp only[Qx,List.map_nil,Q4,List.flatten_nil,Qs,Qg];rw[<-Db,Qy]at this;rw[<-Nat.add_assoc];exact this
  ·have b0:k=a.sym.args:=Yo
   subst b0;obtain⟨cw,ax⟩:∃q,q=AJ l (x+1) a.sym.args:=⟨_,rfl⟩;rw[<-ax];clear ax;have bo:Hd (G1 (T x) w1 (.returned (.slice ta (1+(((d.take a.sym.args).map (fun k=>T (b k))).flatten).length) a3)) wr):=by
    refine⟨_,w1.hz+1,rfl,Yo,?_,aj.o⟩;have:=U.o;rw[<-a7.o,List.take_length]at this⊢;rw[a9.o,Qf,Nat.add_comm (((d.map (fun k=>T (b k))).flatten).length) 1];exact this
   go_wp2;go_ret;exact bo.o
theorem Vr(m:Nat):Lf m:=by
 induction m using Nat.strongRecOn with
 |_ m a=>exact Ue m a
theorem Xw{j:Nat}:∀m,p<=j->j<AJ l p m->∃k,k<m/\AJ l p k<=j/\j<A6 l (AJ l p k):=by
 intro m
 induction m with
 |zero=>intro b a;simp only[AJ]at a;omega
 |succ m e=>
  intro b a
  by_cases h:j<AJ l p m
  ·obtain⟨k,f,c,d⟩:=e b h;exact⟨k,Yo,c,d⟩
  ·rw[BX]at a;exact⟨m,Yo,Yo,a⟩
theorem PX(c:Wf 2 l)(v:∀i,i<l.length->Cg (Cc l) ρ i){D:Np}{T:Nat->Ly}(u:CP (Cc l) ρ D T):
  ∀(n p:Nat),p<l.length->A6 l p-p<=n->D (ρ p)->∀j,p<=j->j<A6 l p->D (ρ j):=by
 intro n
 induction n with
 |zero=>intro p a hn _ j q d;omega
 |succ n A=>
  intro p a hn hd j q d
  by_cases e:j=p
  ·subst e;exact hd
  ·obtain⟨_,f,g⟩:=Ft c a;obtain⟨_,_,_,_,H,I,_⟩:=DV c a;rw[<-g]at d;obtain⟨k,x,r,s⟩:=Xw _ (by omega:p+1<=j) d;have b:AJ l (p+1) k∈(Cc l).kids p:=Qh (BQ l (p+1) _ k x);have K:=f _ b;have z:((Cc l).hd p).name≠[]:=fun h=>by
    have:=(S2 c).vn p a h;rw[this]at b;simp at b
   obtain⟨_,t⟩:=v p a z;have w:D (ρ (AJ l (p+1) k)):=by
    have:ρ (AJ l (p+1) k)∈((Cc l).kids (ρ p)).map ρ:=by rw[t];exact Q0.2 ⟨_,b,rfl⟩
    obtain⟨C,y,e'⟩:=Q0.1 this;rw[<-e'];exact u.kid _ hd C y
   have J:A6 l (AJ l (p+1) k)<=A6 l p:=by
    have mono:∀m,k+1<=m->m<=(AB l p).args->A6 l (AJ l (p+1) k)<=AJ l (p+1) m:=by
     intro m
     induction m with
     |zero=>intro h;omega
     |succ m B=>
      intro E F
      by_cases o:m=k
      ·subst o;rw[BX];exact Qe _
      ·have:=B Yo Yo;rw[BX l (p+1) m];have L:=f _ (Qh (BQ l (p+1) _ m Yo));obtain⟨_,_,_,_,G,_⟩:=DV c (i:=AJ l (p+1) m) Yo;omega
    rw[<-g];exact mono _ Yo (Qe _)
   exact A _ Yo Yo w j r s
theorem TV{a b:Ly}(ha:Wf 1 a)(hb:Wf 1 b)(d:∀i,i<(a++b).length->Cg (Cc (a++b)) ρ i){D:Np}{T:Nat->Ly}(c:CP (Cc (a++b)) ρ D T)(h0:D (ρ 0))(f:D (ρ a.length)):∀j,j<(a++b).length->D (ρ j):=by
 have e:Wf 2 (a++b):=EJ ha hb;have m:=BN ha;have n:=BN hb;have g:A6 (a++b) 0=a.length:=by unfold A6;simp[H9 b ha]
 have k:A6 (a++b) a.length=(a++b).length:=by
  have:=H9 [] hb;rw[Qs]at this;unfold A6;simp[this]
 intro j l;have hl:(a++b).length=a.length+b.length:=Ys
 by_cases h:j<a.length
 ·exact PX e d c _ 0 Yo (Qe _) h0 j Yo Yo
 ·exact PX e d c _ a.length Yo (Qe _) f j Yo Yo
theorem RM(l:Ly):DU (DS l (Cx l) 0) l:=by
 refine⟨by rw[EN,Bu],fun i c a=> ?_⟩;rw[E0]at a
 by_cases h:i<l.length
 ·rw[E3 h]at a;simp at a;subst a;exact⟨rfl,rfl⟩
 ·rw[List.getElem?_eq_none (by rw[Bu];omega)]at a;simp at a
theorem Ww(g:Wf k l):Fa ((DS l (Cx l) 0).map GC.up) (A1 l) (fun j=>if A1 l j=j then 0 else 1):=by
 have d:=(Ih l g).rt;intro i c a;rw[Qj,E0]at a
 by_cases h:i<l.length
 ·rw[E3 h]at a;simp at a;subst a;have f:=d.lt i h;have b:=d.idem i h;refine⟨by simp[EN,Bu];exact f,b,fun e=>e,fun e=> ?_⟩;have e':A1 l i≠i:=e;show(if A1 l (A1 l i)=A1 l i then 0 else 1)<(if A1 l i=i then 0 else 1);rw[if_pos b,if_neg e'];omega
 ·rw[List.getElem?_eq_none (by rw[Bu];omega)]at a;simp at a
theorem WZ(l:Ly):sz (DS l (Cx l) 0) (fun _=>0)=DS l (Cx l) 0:=by
 apply List.ext_getElem?;intro i
 cases a:(DS l (Cx l) 0)[i]? with
 |none=>rw[List.getElem?_eq_none (by rw[Dm];exact List.getElem?_eq_none_iff.1 a)]
 |some c=>
  rw[Kc a];rw[E0]at a
  by_cases h:i<l.length
  ·rw[E3 h]at a;simp at a;subst a;rfl
  ·rw[List.getElem?_eq_none (by rw[Bu];omega)]at a;simp at a
structure AK(w:World)(B:Nat)(v:Value)(ls:List (List BL))(vs:List Value):Prop where
 owns:w.ownsRow B 105 1 v ls.length vs
 all:∀(i:Nat)(l:List BL),ls[i]?=some l->∃x,vs[i]?=some x/\w.ownsRow 0 133 3 x l.length (Aq l)
theorem AK.nil(w:World)(B:Nat):AK w B Nl [] []:=⟨Q2 _ _ _ _,fun i l h=>by simp at h⟩
theorem AK.ext(h:AK w B v ls vs)(e:Ao w w'):AK w' B v ls vs:=
 ⟨Aj h.owns (fun k a=>e.block k (h.owns.lt k a).2),fun i l hl=>by
  obtain⟨x,c,b⟩:=h.all i l hl;exact⟨x,c,Aj b (fun k a=>e.block k (b.lt k a).2)⟩⟩
theorem AK.box{cs:Av}(h:AK w B v ls vs)(a:w.heap[M]?=some (.cells cs t fr))(c:105≠t)(d:133≠t)(b:Ad (fun k=>k=M) w w'):AK w' B v ls vs:=
 ⟨By h.owns a c b,fun i l hl=>by
  obtain⟨x,e,f⟩:=h.all i l hl;exact⟨x,e,By f a d b⟩⟩
theorem AK.snoc{c x:Value}(h:AK w B v ls vs)(ha:Ar w B 105 1 v (ls.length+1) (vs++[x]) c w')(n:w.ownsRow 0 133 3 x l.length (Aq l)):AK w' B c (ls++[l]) (vs++[x]):=by
 have keep:∀{y:Value}{t:Ly},w.ownsRow 0 133 3 y t.length (Aq t)->w'.ownsRow 0 133 3 y t.length (Aq t):=fun{y t} b=>ha.kept.owns b (fun k j m=>by
  obtain⟨o,g⟩:=Ay h.owns k m;exact Ai b Yd g j)
 have hl:vs.length=ls.length:=by have:=h.owns.1;omega
 refine⟨by simpa using ha.owns,fun i t a=> ?_⟩
 by_cases hi:i<ls.length
 ·rw[Qc hi]at a;obtain⟨y,d,f⟩:=h.all i t a;exact⟨y,by rw[Qc Yo];exact d,keep f⟩
 ·rw[Qd Yo]at a
  by_cases e:i=ls.length
  ·subst e;simp at a;subst a;exact⟨x,by rw[Qd Yo];simp[hl],keep n⟩
  ·rw[List.getElem?_eq_none Yp]at a;simp at a
theorem AK.put{g:Nat}{x:Value}(h:AK w B (.slice (some ⟨g,0,none⟩) ls.length cap) ls vs)(hn:n<ls.length)(j:w.ownsRow 0 133 3 x l.length (Aq l)):
  AK (w.setCell ⟨g,n,none⟩ x) B (.slice (some ⟨g,0,none⟩) ls.length cap) (ls.set n l) (vs.set n x):=by
 have hl:vs.length=ls.length:=by have:=h.owns.1;omega
 obtain⟨o,d⟩:=Ay h.owns g rfl;have f:Ad (fun k=>k=g) w (w.setCell ⟨g,n,none⟩ x):=(Ad.refl (only g) w).put n x;have keep:∀{y:Value}{t:Ly},w.ownsRow 0 133 3 y t.length (Aq t)->(w.setCell ⟨g,n,none⟩ x).ownsRow 0 133 3 y t.length (Aq t):=fun{y t} m=>By m d Yd f;refine⟨by rw[List.length_set];exact Pn h.owns n x,fun i t a=> ?_⟩;rw[List.getElem?_set]at a⊢
 by_cases e:n=i
 ·subst e;rw[if_pos rfl,if_pos hn]at a;simp at a;subst a;exact⟨x,by rw[if_pos rfl,if_pos Yo],keep j⟩
 ·rw[if_neg e]at a;obtain⟨y,b,c⟩:=h.all i t a;exact⟨y,by rw[if_neg e];exact b,keep c⟩
structure Ey(l:List BL)(ρ:Nat->Nat)(T:Nat->List BL)(k:Nat)(ts:List (List BL)):Prop where
 has:∀i,i<k->(AB l i).name=[]->ts[(AB l i).num]?=some (T (ρ i))
 only:∀n t,ts[n]?=some t->t=[]\/∃i,i<k/\(AB l i).name=[]/\(AB l i).num=n/\t=T (ρ i)
theorem Ey.nil(l:Ly)(a:Nat->Nat)(T:Nat->Ly):Ey l a T 0 []:=⟨fun i h=>by omega,fun n t h=>by simp at h⟩
theorem Ey.pad{T:Nat->Ly}(h:Ey l ρ T k ts):Ey l ρ T k (ts++[[]]):=by
 refine⟨fun i hi hn=> ?_,fun n t a=> ?_⟩
 ·have:=h.has i hi hn;rw[Qc ((Qa.1 this).1)];exact this
 ·by_cases hl:n<ts.length
  ·rw[Qc hl]at a;exact h.only n t a
  ·rw[Qd Yo]at a;left;have:=Qh a;simpa using this
theorem Ey.skip{T:Nat->Ly}(h:Ey l ρ T k ts)(hn:(AB l k).name≠[]):Ey l ρ T (k+1) ts:=by
 refine⟨fun i hi b=> ?_,fun n t d=> ?_⟩
 ·by_cases e:i=k
  ·subst e;exact absurd b hn
  ·exact h.has i Yo b
 ·rcases h.only n t d with a|⟨i,a,c⟩
  ·exact Or.inl a
  ·exact Or.inr ⟨i,Yo,c⟩
theorem Ey.old{T:Nat->Ly}{t:Ly}(h:Ey l ρ T k ts)(p:NR (Cc l) ρ)(m:k<l.length)(hn:(AB l k).name=[])(b:ts[(AB l k).num]?=some t)(o:t≠[]):Ey l ρ T (k+1) ts:=by
 refine⟨fun i hi g=> ?_,fun n t b=> ?_⟩
 ·by_cases e:i=k
  ·subst e;rcases h.only _ t b with a|⟨j,a,c,d,f⟩
   ·exact absurd a o
   ·have:ρ j=ρ i:=p j i (by show _<l.length;omega) m c hn d;rw[b,f,this]
  ·exact h.has i Yo g
 ·rcases h.only n t b with a|⟨i,a,c⟩
  ·exact Or.inl a
  ·exact Or.inr ⟨i,Yo,c⟩
theorem Ey.new{T:Nat->Ly}(h:Ey l ρ T k ts)(j:∀i,i<k->(AB l i).name=[]->T (ρ i)≠[])(hn:(AB l k).name=[])(d:ts[(AB l k).num]?=some []):Ey l ρ T (k+1) (ts.set (AB l k).num (T (ρ k))):=by
 have hl:=(Qa.1 d).1;refine⟨fun i hi c=> ?_,fun n t b=> ?_⟩
 ·rw[List.getElem?_set]
  by_cases e:i=k
  ·subst e;rw[if_pos rfl,if_pos hl]
  ·have a:=h.has i Yo c;rw[if_neg]
   ·exact a
   ·intro f;rw[<-f,d]at a;simp only[Qo]at a;exact j i Yo c a.symm
 ·rw[List.getElem?_set]at b
  by_cases e:(AB l k).num=n
  ·rw[if_pos e,if_pos hl]at b;simp only[Qo]at b;exact Or.inr ⟨k,Yo,hn,e,b.symm⟩
  ·rw[if_neg e]at b;rcases h.only n t b with a|⟨i,a,g⟩
   ·exact Or.inl a
   ·exact Or.inr ⟨i,Yo,g⟩
end Go.Proofs.YtlmjilpjmgjjcaaGreatDoor
