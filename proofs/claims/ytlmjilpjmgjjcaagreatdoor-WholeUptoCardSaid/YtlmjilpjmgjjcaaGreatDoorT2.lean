/-
  PROVED HERE: a query, a program that the reference's 'over' lets by can be read; what the reference's 'Query' and 'Program' answer at every text (the one condition: a string is no longer than a string may be).
-/
import Derived.Test.YtlmjilpjmgjjcaaGreatDoorT1
import Derived.Deep.RegionLaw
import Derived.Deep.RegionLawGrows
set_option linter.unusedSimpArgs false
set_option linter.unusedVariables false
set_option maxRecDepth 10000
set_option maxHeartbeats 4000000
namespace Go.Proofs.YtlmjilpjmgjjcaaGreatDoor
open Go.RowKit
open _root_.Go.Proofs.Tryz
open Go.Value (int slice string agg pointer tuple)
open Go.IntKind (i64)
open Go.Ending (returned)
variable {w w' w1 w2 w0 wr:World}{k B b i p size cap M rb bW x:Nat}{v cv gv vv lv:Value}{xs ys vs:Lv}{X Y S:Np}{s:ByteArray}{t e:TypeId}{P:Program}{l:Ly}{ls ts:Ll}{ρ:Nat->Nat}{σ:Nat->Ly}{a:Ll×At}{L:Bj}{A:List Lu}
def Wf:Nat->Ly->Prop
 |k,[]=>k=0
 |k,s::r=>0<k/\(s.name=[]->s.args=0)/\(s.name≠[]->s.num=0)/\Wf (k-1+s.args) r
def vr(n:Nat):Ly:=[⟨[],n,0⟩]
def ED(σ:Nat->Ly)(s:BJ):Ly:=if s.name=[]then σ s.num else[s]
def ap(σ:Nat->Ly)(l:Ly):Ly:=l.flatMap (ED σ)
theorem NS(σ:Nat->Ly):ap σ []=[]:=rfl
theorem Bu(σ:Nat->Ly)(s:BJ)(l:Ly):ap σ (s::l)=ED σ s++ap σ l:=rfl
theorem EQ(σ:Nat->Ly)(l m:Ly):ap σ (l++m)=ap σ l++ap σ m:=by simp[ap]
theorem EH(σ:Nat->Ly)(ls:Ll):ap σ ls.flatten=(ls.map (ap σ)).flatten:=by
 induction ls with
 |nil=>rfl
 |cons l ls a=>simp[EQ,a]
theorem IJ(σ:Nat->Ly)(n:Nat):ap σ (vr n)=σ n:=by simp[ap,vr,ED]
theorem Nh(a σ:Nat->Ly)(l:Ly):ap a (ap σ l)=ap (fun n=>ap a (σ n)) l:=by
 induction l with
 |nil=>rfl
 |cons s l b=>
  rw[Bu,EQ,b,Bu]
  congr 1
  unfold ED;split
  ·rfl
  ·rename_i h;simp[ap,ED,h]
def Cf(v:Nat)(l:Ly):Prop:=∃s∈l,s.name=[]/\s.num=v
theorem Lj{σ a:Nat->Ly}{l:Ly}(h:∀n,Cf n l->σ n=a n):ap σ l=ap a l:=by
 induction l with
 |nil=>rfl
 |cons s l e=>
  rw[Bu,Bu,e (fun n hn=>h n (by obtain⟨t,b,c⟩:=hn;exact⟨t,QD _ b,c⟩))]
  congr 1
  unfold ED;split
  ·rename_i d;exact h _ ⟨s,List.mem_cons_self ..,d,rfl⟩
  ·rfl
theorem B7{v:Nat}{l m:Ly}:Cf v (l++m)↔Cf v l\/Cf v m:=by
 constructor
 ·rintro⟨s,h,a,b⟩;rcases Qk.1 h with h|h
  ·exact QG ⟨s,h,a,b⟩
  ·exact QO ⟨s,h,a,b⟩
 ·rintro(⟨s,h,a,b⟩|⟨s,h,a,b⟩)
  ·exact⟨s,Qk.2 (QG h),a,b⟩
  ·exact⟨s,Qk.2 (QO h),a,b⟩
theorem Er{v n:Nat}:Cf v (vr n)↔v=n:=by
 constructor
 ·rintro⟨s,h,b,a⟩;simp[vr]at h;subst h;exact a.symm
 ·rintro rfl;exact⟨_,by simp[vr];rfl,rfl,rfl⟩
theorem Jn{v:Nat}{σ:Nat->Ly}{l:Ly}:Cf v (ap σ l)↔∃n,Cf n l/\Cf v (σ n):=by
 constructor
 ·rintro⟨s,h,b,c⟩;obtain⟨t,d,a⟩:=List.mem_flatMap.1 h;unfold ED at a;split at a
  ·rename_i hn;exact⟨t.num,⟨t,d,hn,rfl⟩,s,a,b,c⟩
  ·simp at a;subst a;contradiction
 ·rintro⟨n,⟨t,d,b,c⟩,s,a,e,f⟩;refine⟨s,List.mem_flatMap.2 ⟨t,d,?_⟩,e,f⟩;unfold ED;rw[QQ b,c];exact a
theorem EM:∀{l:Ly}{j k:Nat}{m:Ly},Wf j l->Wf k m->Wf (j+k) (l++m):=by
 intro l
 induction l with
 |nil=>intro j k m a b;cases a;simpa using b
 |cons s l d=>
  intro j k m a b;obtain⟨h,ha,hb,c⟩:=a;refine⟨Yo,ha,hb,?_⟩;have:=d c b;have e:j+k-1+s.args=j-1+s.args+k:=Yo
  rw[e];exact this
theorem IG:∀{l:Ly}{j k:Nat},Wf (j+k) l->∃a b,l=a++b/\Wf j a/\Wf k b:=by
 intro l
 induction l with
 |nil=>
  intro j k h;have h:j+k=0:=h;exact⟨[],[],rfl,by show j=0;omega,by show k=0;omega⟩
 |cons s l i=>
  intro j k h;rcases Nat.eq_zero_or_pos j with rfl|g
  ·exact⟨[],s::l,rfl,rfl,by simpa using h⟩
  ·obtain⟨m,ha,hb,c⟩:=h;have e:j+k-1+s.args=j-1+s.args+k:=Yo
   rw[e]at c;obtain⟨a,b,rfl,d,f⟩:=i c;exact⟨s::a,b,rfl,⟨g,ha,hb,d⟩,f⟩
theorem M2:∀{a:Ly}{k:Nat}{b x y:Ly},Wf k a->Wf k b->a++x=b++y->a=b/\x=y:=by
 intro a
 induction a with
 |nil=>
  intro k b x y d c h
  cases d
  cases b with
  |nil=>exact⟨rfl,h⟩
  |cons s b=>exact absurd c.1 Yo
 |cons s a f=>
  intro k b x y d c h
  cases b with
  |nil=>
   have c:k=0:=c;exact absurd d.1 Yo
  |cons t b=>
   simp only[Qy,QI]at h;obtain⟨rfl,h⟩:=h;obtain⟨rfl,e⟩:=f d.2.2.2 c.2.2.2 h;exact⟨rfl,e⟩
theorem BR:∀{l:Ly}{k:Nat},Wf k l->k<=l.length:=by
 intro l
 induction l with
 |nil=>intro k h;have h:k=0:=h;omega
 |cons s l a=>intro k h;have:=a h.2.2.2;simp;omega
theorem LF(n:Nat):Wf 1 (vr n):=⟨Yo,fun _=>rfl,fun h=>absurd rfl h,rfl⟩
theorem Mh{l:Ly}(h:Wf 1 l):∃s r,l=s::r/\Wf s.args r/\(s.name=[]->l=vr s.num):=by
 cases l with
 |nil=>exact absurd (show 1=0 from h) Yo
 |cons s r=>
  have a:=h.2.2.2;simp only[Nat.sub_self,JJ]at a;refine⟨s,r,rfl,a,fun hn=> ?_⟩;have h0:=h.2.1 hn;rw[h0]at a
  cases r with
  |nil=>cases s;simp at hn h0;subst hn h0;rfl
  |cons t r=>exact absurd a.1 Yo
theorem CU{ls:Ll}(h:∀l∈ls,Wf 1 l):Wf ls.length ls.flatten:=by
 induction ls with
 |nil=>rfl
 |cons l ls a=>
  have:=EM (h l Ys) (a (fun b hl=>h b (by simp[hl])));simpa[Nat.add_comm]using this
theorem OL:∀(k:Nat){l:Ly},Wf k l->∃ls:Ll,ls.length=k/\l=ls.flatten/\∀c∈ls,Wf 1 c:=by
 intro k
 induction k with
 |zero=>
  intro l h
  cases l with
  |nil=>exact⟨[],rfl,rfl,Ys⟩
  |cons s l=>exact absurd h.1 Yo
 |succ k i=>
  intro l h;rw[Nat.add_comm]at h;obtain⟨a,b,rfl,d,e⟩:=IG h;obtain⟨ls,f,rfl,g⟩:=i e;refine⟨a::ls,by simp[f],Ys,?_⟩;intro c hl;rcases Qp.1 hl with rfl|hl
  ·exact d
  ·exact g _ hl
theorem Ht:∀{ls a:Ll},(∀l∈ls,Wf 1 l)->(∀l∈a,Wf 1 l)->ls.length=a.length->ls.flatten=a.flatten->ls=a:=by
 intro ls
 induction ls with
 |nil=>intro a _ _ h _;cases a with
  |nil=>rfl
  |cons m a=>simp at h
 |cons l ls f=>
  intro a c d hl h
  cases a with
  |nil=>simp at hl
  |cons m a=>
   simp only[Q4]at h;obtain⟨rfl,e⟩:=M2 (c l Ys) (d m Ys) h;rw[f (fun b hl=>c b (QD _ hl)) (fun b hl=>d b (QD _ hl)) (by simpa using hl) e]
def Ts(σ:Nat->Ly):Prop:=∀n,Wf 1 (σ n)
theorem XP:Ts vr:=LF
theorem Ie{σ:Nat->Ly}(g:Ts σ):∀{l:Ly}{k:Nat},Wf k l->Wf k (ap σ l):=by
 intro l
 induction l with
 |nil=>intro k h;exact h
 |cons s l c=>
  intro k h;obtain⟨d,b,f,a⟩:=h;rw[Bu];unfold ED;split
  ·rename_i hn;rw[b hn]at a;have:=EM (g s.num) (c a);have e:1+(k-1+0)=k:=Yo
   rwa [e]at this
  ·exact⟨d,b,f,c a⟩
theorem TF{σ a:Nat->Ly}(c:Ts σ)(b:Ts a):Ts (fun n=>ap a (σ n)):=fun n=>Ie b (c n)
theorem TL:∀{l:Ly}{k:Nat},Wf k l->ap vr l=l:=by
 intro l
 induction l with
 |nil=>intro k h;rfl
 |cons s l a=>
  intro k h;rw[Bu,a h.2.2.2];unfold ED;split
  ·rename_i hn;have:=h.2.1 hn
   cases s;simp at hn this;subst hn this;rfl
  ·rfl
theorem Fd{σ:Nat->Ly}(a:Ts σ)(l:Ly):l.length<=(ap σ l).length:=by
 induction l with
 |nil=>simp
 |cons s l b=>
  rw[Bu];have:1<=(ED σ s).length:=by
   unfold ED;split
   ·exact BR (a _)
   ·simp
  simp;omega
theorem Fw{σ:Nat->Ly}(d:Ts σ){v:Nat}{l:Ly}(h:Cf v l):(σ v).length+l.length<=(ap σ l).length+1:=by
 induction l with
 |nil=>obtain⟨s,h,_⟩:=h;simp at h
 |cons s l e=>
  rw[Bu];simp only[Qg,Qf];have hl:=Fd d l;have:1<=(ED σ s).length:=by
   unfold ED;split
   ·exact BR (d _)
   ·simp
  obtain⟨t,a,b,c⟩:=h;rcases Qp.1 a with rfl|a
  ·have:ED σ t=σ v:=by unfold ED;rw[QQ b,c]
   rw[this];omega
  ·have:=e ⟨t,a,b,c⟩;omega
def Br(v:Nat)(t:Ly):Nat->Ly:=fun n=>if n=v then t else vr n
theorem TB{v:Nat}{t:Ly}(h:Wf 1 t):Ts (Br v t):=fun n=>by
 unfold Br;split
 ·exact h
 ·exact LF n
theorem Pz{a:Nat->Ly}{v:Nat}{t:Ly}(h:a v=ap a t)(n:Nat):ap a (Br v t n)=a n:=by
 unfold Br;split
 ·rename_i e;subst e;exact h.symm
 ·exact IJ a n
theorem J1{a σ:Nat->Ly}(h:∀n,ap a (σ n)=a n)(l:Ly):ap a (ap σ l)=ap a l:=by
 rw[Nh];exact Lj (fun n _=>h n)
structure DW(a b x y:List BJ):Prop where
 ex:∃p ra rb,a=p++x++ra/\b=p++y++rb
 wx:Wf 1 x
 wy:Wf 1 y
 ne:x.head?≠y.head?
theorem DW.unif{a b x y:Ly}(h:DW a b x y){c:Nat->Ly}(e:Ts c)(d:ap c a=ap c b):ap c x=ap c y:=by
 obtain⟨p,f,g,rfl,rfl⟩:=h.ex;simp only[EQ,Qi]at d;exact(M2 (Ie e h.wx) (Ie e h.wy) (List.append_cancel_left d)).1
theorem DW.occ{a b x y:Ly}(h:DW a b x y){v:Nat}:(Cf v x->Cf v a)/\(Cf v y->Cf v b):=by
 obtain⟨p,c,d,rfl,rfl⟩:=h.ex;simp only[B7];exact⟨fun h=>QG (QO h),fun h=>QG (QO h)⟩
theorem DW.symm{a b x y:Ly}(h:DW a b x y):DW b a y x:=by
 obtain⟨p,e,f,c,d⟩:=h.ex;exact⟨⟨p,f,e,d,c⟩,h.wy,h.wx,h.ne.symm⟩
def De(a b:Ly):Prop:=∀θ,Ts θ->ap θ a≠ap θ b
def Hd(a b:Ly):Prop:=(∃θ,Ts θ/\ap θ a=ap θ b)/\∀θ,Ts θ->ap θ a=ap θ b->30<(ap θ a).length
structure ID(σ:Nat->List BJ)(a b:List BJ):Prop where
 ts:Ts σ
 unif:ap σ a=ap σ b
 wide:∀θ,Ts θ->ap θ a=ap θ b->∀n,ap θ (σ n)=θ n
 occ:∀n v,Cf v (σ n)->v=n\/Cf v a\/Cf v b
 own:∀n,¬Cf n a->¬Cf n b->σ n=vr n
theorem Tq{a b x y:Ly}(h:DW a b x y){s t:BJ}{r q:Ly}(d:x=s::r)(e:y=t::q)(f:s.name≠[])(g:t.name≠[]):De a b:=by
 intro k j i;have:=h.unif j i;rw[d,e,Bu,Bu]at this;simp only[ED,QP f,QP g,Qy,Qz,QI]at this;have c:=h.ne;rw[d,e]at c;simp at c;exact c this.1
theorem Ku{a b x y:Ly}(h:DW a b x y){v:Nat}(f:x=vr v)(c:Cf v y):De a b:=by
 intro n g k;have:=h.unif g k;rw[f,IJ]at this;obtain⟨t,q,rfl,m,l⟩:=Mh h.wy
 by_cases hn:t.name=[]
 ·have:=l hn;rw[this,Er]at c;have e:=h.ne;rw[f,this,c]at e;exact e rfl
 ·have hl:=Fw g c;rw[<-this]at hl;have j:q≠[]:=by
   rintro rfl;obtain⟨s,d,i,_⟩:=c;simp at d;subst d;exact hn i
  have:0<q.length:=List.length_pos_iff.2 j;simp only[Qf]at hl;omega
theorem O9{a b x y:Ly}(h:DW a b x y){v:Nat}(e:x=vr v){c:Nat->Ly}(f:Ts c)(d:ap c a=ap c b):∀n,ap c (Br v y n)=c n:=by
 have:=h.unif f d;rw[e,IJ]at this;exact Pz this
structure Hf(a0 b0:List BJ)(σ:Nat->List BJ)(a b:List BJ):Prop where
 ts:Ts σ
 ha:a=ap σ a0
 hb:b=ap σ b0
 wide:∀θ,Ts θ->ap θ a0=ap θ b0->∀n,ap θ (σ n)=θ n
 occ:∀n v,Cf v (σ n)->v=n\/Cf v a0\/Cf v b0
 own:∀n,¬Cf n a0->¬Cf n b0->σ n=vr n
theorem Hf.start{a b:Ly}{j k:Nat}(ha:Wf j a)(hb:Wf k b):Hf a b vr a b:=
 ⟨XP,(TL ha).symm,(TL hb).symm,fun c _ _ n=>IJ c n,fun n v h=>QG (Er.1 h),fun _ _ _=>rfl⟩
theorem Hf.unif{a0 d:Ly}{σ:Nat->Ly}{a b:Ly}(h:Hf a0 d σ a b){c:Nat->Ly}(i:Ts c)(e:ap c a0=ap c d):ap c a=ap c a0/\ap c b=ap c d/\ap c a=ap c b:=by
 have f:ap c a=ap c a0:=by rw[h.ha,J1 (h.wide c i e)]
 have g:ap c b=ap c d:=by rw[h.hb,J1 (h.wide c i e)]
 exact⟨f,g,by rw[f,g,e]⟩
theorem Hf.occs{a0 f:Ly}{σ:Nat->Ly}{a b:Ly}(h:Hf a0 f σ a b){v:Nat}(g:Cf v a\/Cf v b):Cf v a0\/Cf v f:=by
 rw[h.ha,h.hb,Jn,Jn]at g;rcases g with⟨n,c,d⟩|⟨n,c,d⟩
 ·rcases h.occ n v d with rfl|e
  ·exact QG c
  ·exact e
 ·rcases h.occ n v d with rfl|e
  ·exact QO c
  ·exact e
theorem Hf.step{a0 j:Ly}{σ:Nat->Ly}{a b:Ly}(h:Hf a0 j σ a b){x y:Ly}{v:Nat}(c:DW a b x y\/DW b a x y)(g:x=vr v):
  Hf a0 j (fun n=>ap (Br v y) (σ n)) (ap (Br v y) a) (ap (Br v y) b):=by
 have wy:Wf 1 y:=by rcases c with c|c<;>exact c.wy
 have s:Cf v a\/Cf v b:=by
  rcases c with c|c
  ·exact QG (c.occ.1 (by rw[g];exact Er.2 rfl))
  ·exact QO (c.occ.1 (by rw[g];exact Er.2 rfl))
 have t:∀m,Cf m y->Cf m a\/Cf m b:=fun m f=>by
  rcases c with c|c
  ·exact QO (c.occ.2 f)
  ·exact QG (c.occ.2 f)
 refine⟨TF h.ts (TB wy),?_,?_,?_,?_,?_⟩
 ·rw[h.ha,Nh]
 ·rw[h.hb,Nh]
 ·intro u i p n;have q:=(h.unif i p).2.2;rw[J1,h.wide u i p];rcases c with c|c
  ·exact O9 c g i q
  ·exact O9 c g i q.symm
 ·intro n m f;rw[Jn]at f;obtain⟨k,r,d⟩:=f;unfold Br at d;split at d
  ·exact QO (h.occs (t m d))
  ·rw[Er]at d;subst d;exact h.occ n m r
 ·intro n l o;rw[h.own n l o,IJ];unfold Br;split
  ·rename_i e;subst e;rcases h.occs s with h|h
   ·exact absurd h l
   ·exact absurd h o
  ·rfl
theorem Hf.done{a0 c:Ly}{σ:Nat->Ly}{a b:Ly}(h:Hf a0 c σ a b)(e:a=b):ID σ a0 c:=
 ⟨h.ts,by rw[<-h.ha,<-h.hb,e],h.wide,h.occ,h.own⟩
theorem Hf.none{a0 d:Ly}{σ:Nat->Ly}{a b:Ly}(h:Hf a0 d σ a b)(e:De a b\/De b a):De a0 d:=by
 intro g c f;rcases e with e|e
 ·exact e g c (h.unif c f).2.2
 ·exact e g c (h.unif c f).2.2.symm
theorem Hf.vast{a0 d:Ly}{σ:Nat->Ly}{a b:Ly}(h:Hf a0 d σ a b)(e:30<a.length\/30<b.length)(f:∃c,Ts c/\ap c a0=ap c d):Hd a0 d:=by
 refine⟨f,fun c g f=> ?_⟩;obtain⟨i,k,j⟩:=h.unif g f;rw[<-i];rcases e with e|e
 ·have:=Fd g a;omega
 ·have:=Fd g b;rw[j];omega
theorem ID.small{σ:Nat->Ly}{a b:Ly}(h:ID σ a b)(f:30<(ap σ a).length):Hd a b:=by
 refine⟨⟨σ,h.ts,h.unif⟩,fun e c d=> ?_⟩;have:=Fd c (ap σ a);rw[J1 (h.wide e c d)]at this;omega
structure Gr where
 n:Nat
 hd:Nat->BJ
 kids:Nat->List Nat
structure Gr.Ok(G:Gr):Prop where
 kl:∀i,i<G.n->∀k∈G.kids i,k<G.n
 ar:∀i,i<G.n->(G.hd i).args=(G.kids i).length
 vn:∀i,i<G.n->(G.hd i).name=[]->G.kids i=[]
 nv:∀i,i<G.n->(G.hd i).name≠[]->(G.hd i).num=0
structure Rt(n:Nat)(ρ:Nat->Nat):Prop where
 lt:∀i,i<n->ρ i<n
 idem:∀i,i<n->ρ (ρ i)=ρ i
def mg(ρ:Nat->Nat)(x y:Nat):Nat->Nat:=fun i=>if ρ i=x then y else ρ i
theorem Rt.mg{n:Nat}{a:Nat->Nat}(h:Rt n a){x y:Nat}(g:x<n)(f:y<n)(c:a y=y)(d:x≠y):Rt n (mg a x y):=by
 refine⟨fun i hi=> ?_,fun i hi=> ?_⟩
 ·unfold YtlmjilpjmgjjcaaGreatDoor.mg;split
  ·exact f
  ·exact h.lt i hi
 ·unfold YtlmjilpjmgjjcaaGreatDoor.mg
  by_cases b:a i=x
  ·rw[QQ b,QP (by rw[c];exact fun e=>d e.symm),c]
  ·rw[QP b,h.idem i hi,QP b]
structure MI(G:Gr)(val:Nat->List BJ):Prop where
 wf:∀i,i<G.n->Wf 1 (val i)
 nm:∀i,i<G.n->(G.hd i).name≠[]->val i=G.hd i::((G.kids i).map val).flatten
def Va(n:Nat)(ρ:Nat->Nat)(val:Nat->Ly):Prop:=∀i,i<n->val (ρ i)=val i
def Cg(G:Gr)(ρ:Nat->Nat)(i:Nat):Prop:=(G.hd i).name≠[]->(G.hd (ρ i)).name=(G.hd i).name/\(G.kids (ρ i)).map ρ=(G.kids i).map ρ
def GE(n:Nat)(ρ ρ':Nat->Nat):Prop:=∀i j,i<n->j<n->ρ i=ρ j->ρ' i=ρ' j
theorem GE.refl(n:Nat)(a:Nat->Nat):GE n a a:=fun _ _ _ _ h=>h
theorem GE.trans{n:Nat}{b c d:Nat->Nat}(h:GE n b c)(k:GE n c d):GE n b d:=fun i j hi a e=>k i j hi a (h i j hi a e)
theorem GE.mg{n:Nat}(a:Nat->Nat)(x y:Nat):GE n a (mg a x y):=fun i j _ _ e=>by unfold YtlmjilpjmgjjcaaGreatDoor.mg;rw[e]
theorem GE.map{n:Nat}{d f:Nat->Nat}(h:GE n d f):∀{l m:List Nat},(∀k∈l,k<n)->(∀k∈m,k<n)->l.map d=m.map d->l.map f=m.map f:=by
 intro l
 induction l with
 |nil=>intro m _ _ e;cases m with
  |nil=>rfl
  |cons _ _=>simp at e
 |cons a l i=>
  intro m hl g e
  cases m with
  |nil=>simp at e
  |cons b m=>
   simp only[Qx,QI]at e⊢;exact⟨h a b (hl a Ys) (g b Ys) e.1,i (fun k c=>hl k (by simp[c])) (fun k c=>g k (by simp[c])) e.2⟩
structure Bf(G:Gr)(ρ ρ':Nat->Nat)(ats bs:List Nat):Prop where
 rt:Rt G.n ρ'
 grow:GE G.n ρ ρ'
 eq:ats.map ρ'=bs.map ρ'
 cg:∀i,i<G.n->Cg G ρ i->Cg G ρ' i
 con:∀val,MI G val->Va G.n ρ val->ats.map val=bs.map val->Va G.n ρ' val
def EA(G:Gr)(ρ:Nat->Nat)(ats bs:List Nat):Prop:=∀val,MI G val->Va G.n ρ val->ats.map val≠bs.map val
theorem Bf.nil{G:Gr}{a:Nat->Nat}(h:Rt G.n a):Bf G a a [] []:=⟨h,GE.refl _ _,rfl,fun _ _ h=>h,fun _ _ h _=>h⟩
theorem Bf.same{G:Gr}{c:Nat->Nat}(h:Rt G.n c){a b:Nat}(e:c a=c b):Bf G c c [a] [b]:=⟨h,GE.refl _ _,by simp[e],fun _ _ h=>h,fun _ _ h _=>h⟩
theorem Bf.snoc{G:Gr}(o:G.Ok){j l m:Nat->Nat}{c d:List Nat}{a b:Nat}(h:Bf G j l c d)(k:Bf G l m [a] [b])(ha:∀k∈c,k<G.n)(hb:∀k∈d,k<G.n):
  Bf G j m (c++[a]) (d++[b]):=by
 refine⟨k.rt,h.grow.trans k.grow,?_,fun i hi f=>k.cg i hi (h.cg i hi f),fun val g f e=> ?_⟩
 ·rw[Qr,Qr,k.grow.map ha hb h.eq,k.eq]
 ·rw[Qr,Qr]at e;have hl:c.length=d.length:=by simpa using congrArg List.length h.eq
  have:=List.append_inj e (by simp[hl]);exact k.con val g (h.con val g f this.1) this.2
theorem EA.snoc{G:Gr}{i j:Nat->Nat}{c d:List Nat}{a b:Nat}(h:Bf G i j c d)(k:EA G j [a] [b])(m n:List Nat):EA G i (c++a::m) (d++b::n):=by
 intro val g l e;rw[Qr,Qr]at e;have hl:c.length=d.length:=by simpa using congrArg List.length h.eq
 have:=List.append_inj e (by simp[hl]);refine k val g (h.con val g l this.1) ?_;have f:=this.2;simp only[Qx,QI]at f;simp[f.1]
theorem SA{G:Gr}{c:Nat->Nat}(h:Rt G.n c){a b x y:Nat}(ha:a<G.n)(hb:b<G.n)(j:(x=c a/\y=c b)\/(x=c b/\y=c a)){val:Nat->Ly}(k:MI G val)(d:Va G.n c val)(e:val a=val b):Va G.n (mg c x y) val:=by
 have f:val x=val y:=by
  rcases j with⟨rfl,rfl⟩|⟨rfl,rfl⟩
  ·rw[d a ha,d b hb,e]
  ·rw[d a ha,d b hb,e]
 intro i hi;unfold mg;split
 ·rename_i g;rw[<-f,<-g,d i hi]
 ·exact d i hi
theorem XM{c:Nat->Nat}{a b x y:Nat}(d:(x=c a/\y=c b)\/(x=c b/\y=c a)):mg c x y a=mg c x y b:=by
 unfold mg;rcases d with⟨rfl,rfl⟩|⟨rfl,rfl⟩
 ·simp
 ·simp
theorem Bf.var{G:Gr}{c:Nat->Nat}(h:Rt G.n c){a b x y:Nat}(ha:a<G.n)(hb:b<G.n)(d:(x=c a/\y=c b)\/(x=c b/\y=c a))(q:x≠y)(r:(G.hd x).name=[]):
  Bf G c (mg c x y) [a] [b]:=by
 have t:x<G.n:=by rcases d with⟨rfl,rfl⟩|⟨rfl,rfl⟩<;>exact h.lt _ (by assumption)
 have u:y<G.n:=by rcases d with⟨rfl,rfl⟩|⟨rfl,rfl⟩<;>exact h.lt _ (by assumption)
 have v:c y=y:=by rcases d with⟨rfl,rfl⟩|⟨rfl,rfl⟩<;>exact h.idem _ (by assumption)
 refine⟨h.mg t u v q,GE.mg _ _ _,by simp[XM d],?_,fun val s g e=>SA h ha hb d s g (by simpa using e)⟩;intro i hi g hn;obtain⟨f,k⟩:=g hn;have o:c i≠x:=by
  intro e;rw[e,r]at f;exact hn f.symm
 have e:mg c x y i=c i:=by unfold mg;rw[QP o]
 rw[e];refine⟨f,?_⟩;have p:∀(l m:List Nat),l.map c=m.map c->l.map (mg c x y)=m.map (mg c x y):=by
  intro l m e;have:∀l:List Nat,l.map (mg c x y)=(l.map c).map (fun j=>if j=x then y else j):=by
   intro l;simp[mg]
  rw[this,this,e]
 exact p _ _ k
theorem GE.of_map{a:Nat->Nat}{x y:Nat}{l m:List Nat}(e:l.map a=m.map a):l.map (YtlmjilpjmgjjcaaGreatDoor.mg a x y)=m.map (YtlmjilpjmgjjcaaGreatDoor.mg a x y):=by
 have:∀l:List Nat,l.map (YtlmjilpjmgjjcaaGreatDoor.mg a x y)=(l.map a).map (fun j=>if j=x then y else j):=by
  intro l;simp[YtlmjilpjmgjjcaaGreatDoor.mg]
 rw[this,this,e]
theorem Bf.name{G:Gr}(o:G.Ok){c f:Nat->Nat}(h:Rt G.n c){a b x y:Nat}(ha:a<G.n)(hb:b<G.n)(g:(x=c a/\y=c b)\/(x=c b/\y=c a))(C:x≠y)
  (z:(G.hd x).name≠[]) (hn:(G.hd x).name=(G.hd y).name) (k:Bf G (mg c x y) f (G.kids x) (G.kids y)):Bf G c f [a] [b]:=by
 have q:x<G.n:=by rcases g with⟨rfl,rfl⟩|⟨rfl,rfl⟩<;>exact h.lt _ (by assumption)
 have m:y<G.n:=by rcases g with⟨rfl,rfl⟩|⟨rfl,rfl⟩<;>exact h.lt _ (by assumption)
 have L:c x=x:=by rcases g with⟨rfl,rfl⟩|⟨rfl,rfl⟩<;>exact h.idem _ (by assumption)
 have D:c y=y:=by rcases g with⟨rfl,rfl⟩|⟨rfl,rfl⟩<;>exact h.idem _ (by assumption)
 have M:=h.mg q m D C;have B:GE G.n c f:=(GE.mg _ _ _).trans k.grow;have A:mg c x y y=y:=by unfold mg;rw[D,QP (fun e=>C e.symm)]
 have K:mg c x y x=y:=by unfold mg;rw[L,QQ rfl]
 have F:Cg G f y:=k.cg y m (fun _=>by rw[A];exact⟨rfl,rfl⟩);have r:f x=f y:=k.grow x y q m (by rw[K,A]);refine⟨k.rt,B,?_,?_,?_⟩
 ·have:=k.grow a b ha hb (XM g);simp[this]
 ·intro i hi d
  by_cases v:c i=x
  ·intro u;obtain⟨s,t⟩:=d u;rw[v]at s t;have J:f i=f y:=k.grow i y hi m (by rw[A];unfold mg;rw[QQ v]);obtain⟨H,I⟩:=F (by rw[<-hn];exact z);rw[J];refine⟨by rw[H,<-hn,s],?_⟩;rw[I,<-k.eq];exact B.map (o.kl x q) (o.kl i hi) t
  ·refine k.cg i hi (fun u=> ?_);obtain⟨s,t⟩:=d u;have e:mg c x y i=c i:=by unfold mg;rw[QP v]
   rw[e];exact⟨s,GE.of_map t⟩
 ·intro val p d e;have e':val a=val b:=by simpa using e
  have E:=SA h ha hb g p d e';refine k.con val p E ?_;have r:val x=val y:=by
   rcases g with⟨rfl,rfl⟩|⟨rfl,rfl⟩
   ·rw[d a ha,d b hb,e']
   ·rw[d a ha,d b hb,e']
  rw[p.nm x q z,p.nm y m (by rw[<-hn];exact z)]at r;simp only[QI]at r;have hl:(G.kids x).length=(G.kids y).length:=by rw[<-o.ar x q,<-o.ar y m,r.1]
  refine Ht ?_ ?_ (by simp[hl]) r.2
  ·intro l hl;obtain⟨j,w,rfl⟩:=Q0.1 hl;exact p.wf j (o.kl x q j w)
  ·intro l hl;obtain⟨j,w,rfl⟩:=Q0.1 hl;exact p.wf j (o.kl y m j w)
theorem HG{G:Gr}(o:G.Ok){c:Nat->Nat}(h:Rt G.n c){a b x y:Nat}(ha:a<G.n)(hb:b<G.n)(g:(x=c a/\y=c b)\/(x=c b/\y=c a))
  (k:(G.hd x).name≠[]) (m:(G.hd y).name≠[]) (hn:(G.hd x).name≠(G.hd y).name\/(G.hd x).args≠(G.hd y).args):EA G c [a] [b]:=by
 intro val i d e;have e':val a=val b:=by simpa using e
 have j:x<G.n:=by rcases g with⟨rfl,rfl⟩|⟨rfl,rfl⟩<;>exact h.lt _ (by assumption)
 have l:y<G.n:=by rcases g with⟨rfl,rfl⟩|⟨rfl,rfl⟩<;>exact h.lt _ (by assumption)
 have f:val x=val y:=by
  rcases g with⟨rfl,rfl⟩|⟨rfl,rfl⟩
  ·rw[d a ha,d b hb,e']
  ·rw[d a ha,d b hb,e']
 rw[i.nm x j k,i.nm y l m]at f;simp only[QI]at f;rw[f.1]at hn;rcases hn with hn|hn<;>exact hn rfl
theorem LX{G:Gr}(i:G.Ok){c:Nat->Nat}(h:Rt G.n c){a b x y:Nat}(ha:a<G.n)(hb:b<G.n)(m:(x=c a/\y=c b)\/(x=c b/\y=c a))
  (r:(G.hd x).name≠[]) (hn:(G.hd x).name=(G.hd y).name) (k:EA G (mg c x y) (G.kids x) (G.kids y)):EA G c [a] [b]:=by
 intro val d f e;have p:x<G.n:=by rcases m with⟨rfl,rfl⟩|⟨rfl,rfl⟩<;>exact h.lt _ (by assumption)
 have q:y<G.n:=by rcases m with⟨rfl,rfl⟩|⟨rfl,rfl⟩<;>exact h.lt _ (by assumption)
 have e':val a=val b:=by simpa using e
 have s:=SA h ha hb m d f e';refine k val d s ?_;have g:val x=val y:=by
  rcases m with⟨rfl,rfl⟩|⟨rfl,rfl⟩
  ·rw[f a ha,f b hb,e']
  ·rw[f a ha,f b hb,e']
 rw[d.nm x p r,d.nm y q (by rw[<-hn];exact r)]at g;simp only[QI]at g;have hl:(G.kids x).length=(G.kids y).length:=by rw[<-i.ar x p,<-i.ar y q,g.1]
 refine Ht ?_ ?_ (by simp[hl]) g.2
 ·intro l hl;obtain⟨j,o,rfl⟩:=Q0.1 hl;exact d.wf j (i.kl x p j o)
 ·intro l hl;obtain⟨j,o,rfl⟩:=Q0.1 hl;exact d.wf j (i.kl y q j o)
structure CM(G:Gr)(ρ:Nat->Nat)(D:Nat->Prop)(T:Nat->List BJ):Prop where
 lt:∀r,D r->r<G.n/\ρ r=r
 tm:∀r,D r->T r=G.hd r::((G.kids r).map (fun k=>T (ρ k))).flatten
 kid:∀r,D r->∀k∈G.kids r,D (ρ k)
theorem CM.none(G:Gr)(a:Nat->Nat)(T:Nat->Ly):CM G a (fun _=>False) T:=⟨fun _ h=>h.elim,fun _ h=>h.elim,fun _ h=>h.elim⟩
theorem CM.more{G:Gr}{a:Nat->Nat}{D:Nat->Prop}{T:Nat->Ly}(h:CM G a D T){r:Nat}(g:r<G.n)(j:a r=r)(hd:¬D r)(b:∀k∈G.kids r,D (a k)):
  CM G a (fun i=>D i\/i=r) (fun i=>if i=r then G.hd r::((G.kids r).map (fun k=>T (a k))).flatten else T i):=by
 have c:∀i,D i->(fun i=>if i=r then G.hd r::((G.kids r).map (fun k=>T (a k))).flatten else T i) i=T i:=fun i hi=>by
  have:i≠r:=fun e=>hd (e▸hi);simp[this]
 have f:∀l:List Nat,(∀k∈l,D (a k))->l.map (fun k=>(fun i=>if i=r then G.hd r::((G.kids r).map (fun k=>T (a k))).flatten else T i) (a k))=l.map (fun k=>T (a k)):=fun l hl=>
  JE (fun k b=>c _ (hl k b))
 refine⟨?_,?_,?_⟩
 ·rintro i (hi|rfl)
  ·exact h.lt i hi
  ·exact⟨g,j⟩
 ·rintro i (hi|rfl)
  ·rw[f _ (h.kid i hi)];exact(c i hi).trans (h.tm i hi)
  ·rw[f _ b];simp
 ·rintro i (hi|rfl) k d
  ·exact QG (h.kid i hi k d)
  ·exact QG (b k d)
theorem Be{l:Ly}{ls:Ll}(h:l∈ls):l.length<=ls.flatten.length:=by
 induction ls with
 |nil=>simp at h
 |cons a ls b=>
  simp only[Q4,Qg];rcases Qp.1 h with rfl|h
  ·omega
  ·have:=b h;omega
theorem CM.wf{G:Gr}(b:G.Ok){d:Nat->Nat}{D:Nat->Prop}{T:Nat->Ly}(h:CM G d D T):∀(m r:Nat),(T r).length<=m->D r->Wf 1 (T r):=by
 intro m
 induction m with
 |zero=>intro r a hd;rw[h.tm r hd]at a;simp at a
 |succ m g=>
  intro r a hd;have c:=(h.lt r hd).1;have e:=h.tm r hd;rw[e]at a⊢;refine⟨Yo,fun hn=>by rw[b.ar r c,b.vn r c hn];rfl,b.nv r c,?_⟩;simp only[Nat.sub_self,JJ];rw[b.ar r c];have:=CU (ls:=(G.kids r).map (fun k=>T (d k))) (fun l hl=>by
   obtain⟨k,f,rfl⟩:=Q0.1 hl;refine g (d k) ?_ (h.kid r hd k f);have:=Be hl;simp only[Qf]at a;omega)
  simpa using this
theorem CM.val{G:Gr}(f:G.Ok){b:Nat->Nat}{D:Nat->Prop}{T:Nat->Ly}(h:CM G b D T){val:Nat->Ly}(o:MI G val)(j:Va G.n b val){g:Nat->Ly}(p:∀i,i<G.n->(G.hd i).name=[]->val i=g (G.hd i).num):
  ∀(m r:Nat),(T r).length<=m->D r->ap g (T r)=val r:=by
 intro m
 induction m with
 |zero=>intro r a hd;rw[h.tm r hd]at a;simp at a
 |succ m q=>
  intro r a hd;have c:=(h.lt r hd).1;have e:=h.tm r hd;rw[e]at a⊢;rw[Bu]
  by_cases hn:(G.hd r).name=[]
  ·rw[f.vn r c hn];simp only[QX,QY,NS,Qs,ED,QQ hn];exact(p r c hn).symm
  ·rw[o.nm r c hn];simp only[ED,QP hn,Qy,Qz,QI,true_and];rw[EH,QK]
   congr 1
   refine JE (fun k d=> ?_);have l:T (b k)∈(G.kids r).map (fun k=>T (b k)):=Q0.2 ⟨k,d,rfl⟩;have:=Be l;simp only[Qf]at a;have:=q (b k) Yo (h.kid r hd k d);simp only[Function.comp];rw[this,j k (f.kl r c k d)]
structure TW(G:Gr)(tm:Nat->List BJ)(a b:List BJ):Prop where
 ok:G.Ok
 tm:∀i,i<G.n->tm i=G.hd i::((G.kids i).map tm).flatten
 occ:∀i,i<G.n->(G.hd i).name=[]->Cf (G.hd i).num a\/Cf (G.hd i).num b
theorem TW.val{G:Gr}{tm:Nat->Ly}{a b:Ly}(h:TW G tm a b){c:Nat->Ly}(e:Ts c)(d:∀i,i<G.n->Wf 1 (tm i)):MI G (fun i=>ap c (tm i)):=by
 refine⟨fun i hi=>Ie e (d i hi),fun i hi hn=> ?_⟩;show ap c (tm i)=_;rw[h.tm i hi,Bu];simp only[ED,QP hn,Qy,Qz,QI,true_and];rw[EH,QK];rfl
theorem TW.wf{G:Gr}{tm:Nat->Ly}{a b:Ly}(h:TW G tm a b):∀(m i:Nat),(tm i).length<=m->i<G.n->Wf 1 (tm i):=by
 intro m
 induction m with
 |zero=>intro i c hi;rw[h.tm i hi]at c;simp at c
 |succ m e=>
  intro i c hi;rw[h.tm i hi]at c⊢;refine⟨Yo,fun hn=>by rw[h.ok.ar i hi,h.ok.vn i hi hn];rfl,h.ok.nv i hi,?_⟩;simp only[Nat.sub_self,JJ];rw[h.ok.ar i hi];have:=CU (ls:=(G.kids i).map tm) (fun l hl=>by
   have f:=Be hl;obtain⟨k,d,rfl⟩:=Q0.1 hl;refine e k ?_ (h.ok.kl i hi k d);simp only[Qf]at c;omega)
  simpa using this
open Classical in
noncomputable def Dk(G:Gr)(ρ:Nat->Nat)(D:Nat->Prop)(T:Nat->List BJ):Nat->List BJ:=fun v=>
 if h:∃i,i<G.n/\(G.hd i).name=[]/\(G.hd i).num=v/\D (ρ i)then T (ρ h.choose)else vr v
def OI(G:Gr)(ρ:Nat->Nat):Prop:=∀i j,i<G.n->j<G.n->(G.hd i).name=[]->(G.hd j).name=[]->(G.hd i).num=(G.hd j).num->ρ i=ρ j
theorem KV{G:Gr}{a:Nat->Nat}{D:Nat->Prop}{T:Nat->Ly}(d:OI G a){i:Nat}(hi:i<G.n)(hn:(G.hd i).name=[])(hd:D (a i)):Dk G a D T (G.hd i).num=T (a i):=by
 have c:∃j,j<G.n/\(G.hd j).name=[]/\(G.hd j).num=(G.hd i).num/\D (a j):=⟨i,hi,hn,rfl,hd⟩;unfold Dk;rw[dif_pos c];have b:=c.choose_spec;rw[d _ i b.1 hi b.2.1 hn b.2.2.1]
theorem Ju{G:Gr}{c:Nat->Nat}{D:Nat->Prop}{T tm:Nat->Ly}{a b:Ly}(h:TW G tm a b)(o:CM G c D T)(C:Rt G.n c)(w:∀i,i<G.n->Cg G c i)(E:OI G c):
  ∀(m i:Nat),(tm i).length<=m->i<G.n->D (c i)->ap (Dk G c D T) (tm i)=T (c i):=by
 intro m
 induction m with
 |zero=>intro i f hi;rw[h.tm i hi]at f;simp at f
 |succ m F=>
  intro i f hi hd;have e:=h.tm i hi;rw[e]at f⊢;rw[Bu]
  by_cases hn:(G.hd i).name=[]
  ·rw[h.ok.vn i hi hn];simp only[QX,QY,NS,Qs,ED,QQ hn];exact KV E hi hn hd
  ·obtain⟨g,d⟩:=w i hi hn;rw[o.tm _ hd];have p:=C.lt i hi;have A:(G.kids (c i)).length=(G.kids i).length:=by simpa using congrArg List.length d
   have y:G.hd (c i)=G.hd i:=by
    have q:=h.ok.ar _ p;have r:=h.ok.ar i hi;have I:=h.ok.nv _ p (by rw[g];exact hn);have J:=h.ok.nv i hi hn;have s:(G.hd (c i)).args=(G.hd i).args:=by rw[q,r,A]
    have t:(G.hd (c i)).num=(G.hd i).num:=by rw[I,J]
    revert g s t
    cases G.hd (c i);cases G.hd i
    simp;intro g d v;exact⟨g,v,d⟩
   rw[y];simp only[ED,QP hn,Qy,Qz,QI,true_and];rw[EH,QK]
   congr 1
   have u:(G.kids (c i)).map (fun k=>T (c k))=(G.kids i).map (fun k=>T (c k)):=by
    have:∀l:List Nat,l.map (fun k=>T (c k))=(l.map c).map T:=fun l=>by simp
    rw[this,this,d]
   rw[u];refine JE (fun k j=> ?_);have B:tm k∈(G.kids i).map tm:=Q0.2 ⟨k,j,rfl⟩;have:=Be B;simp only[Qf]at f;have x:D (c k):=by
    have:c k∈(G.kids (c i)).map c:=by rw[d];exact Q0.2 ⟨k,j,rfl⟩
    obtain⟨H,z,e'⟩:=Q0.1 this;rw[<-e'];exact o.kid _ hd H z
   exact F k Yo (h.ok.kl i hi k j) x
theorem Ue{G:Gr}{d:Nat->Nat}{D:Nat->Prop}{T tm:Nat->Ly}{a b:Ly}(h:TW G tm a b)(f:CM G d D T)(J:Rt G.n d)(H:∀i,i<G.n->Cg G d i)(M:OI G d)
  {x y:Nat} (Y:x<G.n) (Z:y<G.n) (ha:tm x=a) (hb:tm y=b) (O:d x=d y) (hd:D (d x)) (P:∀val,MI G val->Va G.n (fun i=>i) val->(∀i j,i<G.n->j<G.n->(G.hd i).name=[]->(G.hd j).name=[]->(G.hd i).num=(G.hd j).num->val i=val j)->val x=val y->Va G.n d val):
  ID (Dk G d D T) a b:=by
 have N:∀i,i<G.n->Wf 1 (tm i):=fun i hi=>h.wf _ i (Qe _) hi;have X:∀c,Ts c->ap c a=ap c b->Va G.n d (fun i=>ap c (tm i))/\MI G (fun i=>ap c (tm i))/\∀i,i<G.n->(G.hd i).name=[]->ap c (tm i)=c (G.hd i).num:=by
  intro c u A;have B:∀i,i<G.n->(G.hd i).name=[]->ap c (tm i)=c (G.hd i).num:=by
   intro i hi hn;rw[h.tm i hi,h.ok.vn i hi hn,Bu];simp[ED,hn,NS]
  refine⟨P _ (h.val u N) (fun _ _=>rfl) ?_ ?_,h.val u N,B⟩
  ·intro i j hi Q S U e;rw[B i hi S,B j Q U,e]
  ·show ap c (tm x)=ap c (tm y);rw[ha,hb,A]
 refine⟨?_,?_,?_,?_,?_⟩
 ·intro v;unfold Dk;split
  ·rename_i g;exact f.wf h.ok _ _ (Qe _) g.choose_spec.2.2.2
  ·exact LF v
 ·have C:=Ju h f J H M _ x (Qe _) Y hd;have E:=Ju h f J H M _ y (Qe _) Z (by rw[<-O];exact hd);rw[ha]at C;rw[hb]at E;rw[C,E,O]
 ·intro c u A v;obtain⟨q,w,F⟩:=X c u A;unfold Dk;split
  ·rename_i g;have o:=g.choose_spec;rw[f.val h.ok w q (fun i hi hn=>F i hi hn) _ _ (Qe _) o.2.2.2];have:ap c (tm (d g.choose))=ap c (tm g.choose):=q _ o.1;rw[this,F _ o.1 o.2.1,o.2.2.1]
  ·exact IJ c v
 ·intro n v t;unfold Dk at t;split at t
  ·rename_i g;have o:=g.choose_spec;right;have V:∀(m r:Nat),(T r).length<=m->D r->Cf v (T r)->Cf v a\/Cf v b:=by
    intro m
    induction m with
    |zero=>intro r p hd;rw[f.tm r hd]at p;simp at p
    |succ m aa=>
     intro r p hd I;rw[f.tm r hd]at p I;obtain⟨s,z,K,L⟩:=I;rcases Qp.1 z with rfl|z
     ·rw[<-L];exact h.occ r (f.lt r hd).1 K
     ·obtain⟨l,hl,W⟩:=List.mem_flatten.1 z;have ab:=Be hl;obtain⟨k,R,rfl⟩:=Q0.1 hl;simp only[Qf]at p;exact aa (d k) Yo (f.kid r hd k R) ⟨s,W,K,L⟩
   exact V _ _ (Qe _) o.2.2.2 t
  ·exact QG (Er.1 t)
 ·intro n q w;unfold Dk;rw[dif_neg];rintro⟨i,hi,hn,rfl,_⟩;rcases h.occ i hi hn with h|h
  ·exact q h
  ·exact w h
theorem Xr{G:Gr}(c:G.Ok){val:Nat->Ly}(d:MI G val){x k:Nat}(b:x<G.n)(a:k∈G.kids x):(val k).length<(val x).length:=by
 have hn:(G.hd x).name≠[]:=fun h=>by rw[c.vn x b h]at a;simp at a
 rw[d.nm x b hn];have:=Be (Q0.2 ⟨k,a,rfl⟩:val k∈(G.kids x).map val);simp only[Qf];omega
def FK(G:Gr)(ρ:Nat->Nat)(P:Nat->Prop)(i:Nat):Prop:=∀val,MI G val->Va G.n ρ val->∃r,P r/\(val r).length<=(val i).length
theorem FK.here{G:Gr}{a:Nat->Nat}{P:Nat->Prop}{i:Nat}(hi:i<G.n)(h:P (a i)):FK G a P i:=fun val _ b=>⟨a i,h,by rw[b i hi];exact Qe _⟩
theorem FK.up{G:Gr}(d:G.Ok){a:Nat->Nat}{P:Nat->Prop}{i k:Nat}(hi:i<G.n)(g:a i<G.n)(e:k∈G.kids (a i))(h:FK G a (fun r=>P r\/r=a i) k):FK G a P i:=by
 intro val c b;have hl:=Xr d c g e;obtain⟨r,f|rfl,j⟩:=h val c b
 ·exact⟨r,f,by rw[<-b i hi];omega⟩
 ·omega
theorem TN{G:Gr}{tm:Nat->Ly}{a b:Ly}(h:TW G tm a b){x y:Nat}(g:x<G.n)(j:y<G.n)(ha:tm x=a)(hb:tm y=b){c:Nat->Ly}(f:Ts c)(d:ap c a=ap c b):
  MI G (fun i=>ap c (tm i))/\ap c (tm x)=ap c (tm y)/\∀i,i<G.n->(G.hd i).name=[]->ap c (tm i)=c (G.hd i).num:=by
 have e:∀i,i<G.n->Wf 1 (tm i):=fun i hi=>h.wf _ i (Qe _) hi;refine⟨h.val f e,by rw[ha,hb,d],?_⟩;intro i hi hn;rw[h.tm i hi,h.ok.vn i hi hn,Bu];simp[ED,hn,NS]
structure Fy(G:Gr)(ρ:Nat->Nat):Prop where
 rt:Rt G.n ρ
 vars:OI G ρ
 nm:∀i,i<G.n->(G.hd i).name≠[]->ρ i=i
 vr:∀i,i<G.n->(G.hd i).name=[]->(G.hd (ρ i)).name=[]/\(G.hd (ρ i)).num=(G.hd i).num
theorem Fy.cg{G:Gr}{a:Nat->Nat}(h:Fy G a)(i:Nat)(hi:i<G.n):Cg G a i:=fun hn=>by rw[h.nm i hi hn];exact⟨rfl,rfl⟩
theorem Fy.con{G:Gr}{a:Nat->Nat}(h:Fy G a){val:Nat->Ly}(b:∀i j,i<G.n->j<G.n->(G.hd i).name=[]->(G.hd j).name=[]->(G.hd i).num=(G.hd j).num->val i=val j):Va G.n a val:=by
 intro i hi
 by_cases hn:(G.hd i).name=[]
 ·exact b _ _ (h.rt.lt i hi) hi (h.vr i hi hn).1 hn (h.vr i hi hn).2
 ·rw[h.nm i hi hn]
theorem Fy.vars'{G:Gr}{b c:Nat->Nat}(h:Fy G b)(g:GE G.n b c):OI G c:=fun i j hi a d f e=>g i j hi a (h.vars i j hi a d f e)
theorem Ra{G:Gr}{tm:Nat->Ly}{a b:Ly}(h:TW G tm a b){f:Nat->Nat}(h0:Fy G f){x y:Nat}(r:x<G.n)(s:y<G.n)(ha:tm x=a)(hb:tm y=b)(l:EA G f [x] [y]):De a b:=by
 intro d t q;obtain⟨g,k,c⟩:=TN h r s ha hb t q;refine l _ g (h0.con (fun i j hi m o p e=> ?_)) (by simp[k]);show ap d (tm i)=ap d (tm j);rw[c i hi o,c j m p,e]
theorem O3{G:Gr}{tm:Nat->Ly}{a b:Ly}(h:TW G tm a b){f l:Nat->Nat}(h0:Fy G f){x y:Nat}(v:x<G.n)(w:y<G.n)(ha:tm x=a)(hb:tm y=b)(c:Bf G f l [x] [y]){i:Nat}(t:FK G l (fun _=>False) i):De a b:=by
 intro d z u;obtain⟨g,m,k⟩:=TN h v w ha hb z u;have o:Va G.n f (fun i=>ap d (tm i)):=h0.con (fun i j hi c p q e=>by
  show ap d (tm i)=ap d (tm j);rw[k i hi p,k j c q,e])
 obtain⟨r,s,_⟩:=t _ g (c.con _ g o (by simp[m]));exact s
theorem PM{G:Gr}{tm:Nat->Ly}{a b:Ly}(h:TW G tm a b){k d:Nat->Nat}(h0:Fy G k){x y:Nat}(j:x<G.n)(o:y<G.n)(ha:tm x=a)(hb:tm y=b)(c:Bf G k d [x] [y])
  {D:Nat->Prop} {T:Nat->Ly} (g:CM G d D T) (hd:D (d x)):ID (Dk G d D T) a b/\ap (Dk G d D T) a=T (d x):=by
 have f:∀i,i<G.n->Cg G d i:=fun i hi=>c.cg i hi (h0.cg i hi);refine⟨Ue h g c.rt f (h0.vars' c.grow) j o ha hb (by simpa using c.eq) hd ?_,?_⟩
 ·intro val l _ m e;exact c.con val l (h0.con m) (by simp[e])
 ·rw[<-ha];exact Ju h g c.rt f (h0.vars' c.grow) _ x (Qe _) j hd
def HD(xs ys:Ll):Prop:=∃τ,Ts τ/\ys=xs.map (ap τ)
def DM(xs ys:Ll):Prop:=HD xs ys/\HD ys xs
theorem DM.symm{xs a:Ll}(h:DM xs a):DM a xs:=⟨h.2,h.1⟩
theorem DM.refl{xs:Ll}(h:∀x∈xs,∃k,Wf k x):DM xs xs:=by
 have:HD xs xs:=⟨vr,XP,by
  have:xs.map (ap vr)=xs.map id:=JE (fun x b=>by obtain⟨k,a⟩:=h x b;exact TL a);simpa using this.symm⟩
 exact⟨this,this⟩
theorem DM.len{xs a:Ll}(h:DM xs a):xs.map List.length=a.map List.length:=by
 obtain⟨⟨m,e,b⟩,⟨n,f,g⟩⟩:=h;have hl:xs.length=a.length:=by simpa using(congrArg List.length b).symm
 apply List.ext_getElem (by simp[hl]);intro i hi j;simp only[Ql]at hi j;simp only[List.getElem_map];have c:a[i]=ap m xs[i]:=by simp only[b,List.getElem_map]
 have d:xs[i]=ap n a[i]:=by
  have:=List.getElem_of_eq g hi;simpa using this
 have k:=Fd e xs[i];have l:=Fd f a[i];rw[<-c]at k;rw[<-d]at l;omega
def upto(V:Nat)(σ τ:Nat->Ly):Nat->Ly:=fun n=>if n<V then ap σ (τ n)else σ n
theorem Je{V:Nat}{σ a:Nat->Ly}(h:Ts σ)(k:Ts a):Ts (upto V σ a):=fun n=>by
 unfold upto;split
 ·exact Ie h (k n)
 ·exact h n
theorem PS{V:Nat}{σ a:Nat->Ly}{l:Ly}(h:∀v,Cf v l->v<V):ap (upto V σ a) l=ap σ (ap a l):=by
 rw[Nh];exact Lj (fun n hn=>by unfold upto;rw[QQ (h n hn)])
theorem M8{V:Nat}{σ a:Nat->Ly}{l:Ly}(h:∀v,Cf v l->V<=v):ap (upto V σ a) l=ap σ l:=
 Lj (fun n hn=>by unfold upto;rw[QP (by have:=h n hn;omega)])
section
variable {V:Nat} {a b h:List BJ} {xs ys:List (List BJ)}
theorem HU(ha:∀v,Cf v a->v<V)(f:∀v,Cf v h->V<=v){d c:Nat->Ly}(e:b=ap d a)(g:ap c b=ap c h):ap (upto V c d) a=ap (upto V c d) h/\ap (upto V c d) a=ap c b:=by
 rw[PS ha,M8 f,<-e];exact⟨g,rfl⟩
theorem De.alike(hi:HD (a::xs) (b::ys))(ha:∀v,Cf v a->v<V)(e:∀v,Cf v h->V<=v)(hn:De a h):De b h:=by
 obtain⟨j,d,c⟩:=hi;simp only[Qx,QI]at c;intro i g f;exact hn _ (Je g d) (HU ha e c.1 f).1
theorem Hd.alike(hi:DM (a::xs) (b::ys))(ha:∀v,Cf v a->v<V)(hb:∀v,Cf v b->v<V)(d:∀v,Cf v h->V<=v)(hn:Hd a h):Hd b h:=by
 obtain⟨⟨p,g,c⟩,q,i,e⟩:=hi;simp only[Qx,QI]at c e;obtain⟨⟨n,l,j⟩,k⟩:=hn;refine⟨⟨_,Je l i,(HU hb d e.1 j).1⟩,fun o m f=> ?_⟩;have:=HU ha d c.1 f;have:=k _ (Je m g) this.1;rw[(HU ha d c.1 f).2]at this;exact this
theorem HD.fit{σ j:Nat->Ly}{zs:Ll}(hi:HD (a::xs) (b::ys))(ha:∀x∈a::xs,∀v,Cf v x->v<V)(k:∀v,Cf v h->V<=v)(hz:∀d∈zs,∀v,Cf v d->V<=v)(m:ID σ a h)(c:ID j b h):
  HD ((zs++(a::xs)).map (ap σ)) ((zs++(b::ys)).map (ap j)):=by
 obtain⟨p,e,f⟩:=hi;have g:=f;simp only[Qx,QI]at g;have l:=HU (ha a Ys) k g.1 c.unif;have i:=m.wide _ (Je c.ts e) l.1;refine⟨_,Je (V:=V) c.ts e,?_⟩;rw[f,Qr,Qr,Qr,QK,QK,QK]
 congr 1
 ·refine JE (fun d o=> ?_);simp only[Function.comp];rw[J1 i,M8 (hz d o)]
 ·refine JE (fun x n=> ?_);simp only[Function.comp];rw[J1 i,PS (ha x n)]
end
def ren(f:Nat->Nat)(s:BJ):BJ:=if s.name=[]then⟨[],f s.num,0⟩else s
theorem YF:∀{a:Nat->Ly},Ts a->∀{l:Ly},(ap a l).length<=l.length->∀n,Cf n l->(a n).length=1:=by
 intro a e l
 induction l with
 |nil=>intro _ n h;obtain⟨s,h,_⟩:=h;simp at h
 |cons s l g=>
  intro hl n hn;rw[Bu]at hl;simp only[Qg,Qf]at hl;have i:=Fd e l;have f:1<=(ED a s).length:=by
   unfold ED;split
   ·exact BR (e _)
   ·simp
  obtain⟨t,b,c,d⟩:=hn;rcases Qp.1 b with rfl|b
  ·have:ED a t=a n:=by unfold ED;rw[QQ c,d]
   rw[this]at hl f;omega
  ·exact g Yo n ⟨t,b,c,d⟩
theorem Tr{a b:Nat->Ly}(d:Ts a)(f:Ts b):∀{l:Ly},ap b (ap a l)=l->∀v,Cf v l->ap b (a v)=vr v:=by
 intro l
 induction l with
 |nil=>intro _ v h;obtain⟨s,h,_⟩:=h;simp at h
 |cons s l q=>
  intro e v p;rw[Bu,EQ]at e;have w:1<=(ED a s).length:=by
   unfold ED;split
   ·exact BR (d _)
   ·simp
  have x:=Fd f (ED a s);have y:=Fd f (ap a l);have z:=Fd d l;have u:=congrArg List.length e;simp only[Qg,Qf]at u;have m:=List.append_inj (s₁:=ap b (ED a s)) (s₂:=[s]) (t₁:=ap b (ap a l)) (t₂:=l) (by simpa using e) Yp;obtain⟨t,j,g,i⟩:=p;rcases Qp.1 j with rfl|j
  ·have c:=m.1;unfold ED at c;rw[QQ g,i]at c;have n:=Ie f (d v);rw[c]at n⊢;obtain⟨A,r,k,_,o⟩:=Mh n;simp only[QI]at k;obtain⟨rfl,_⟩:=k;rw[o g,i]
  ·exact q m.2 v ⟨t,j,g,i⟩
theorem DM.ren{xs z:Ll}(h:DM xs z):∃f g:Nat->Nat,z=xs.map (List.map (ren f))/\(∀x∈xs,∀v,Cf v x->g (f v)=v):=by
 obtain⟨⟨p,w,j⟩,⟨q,B,k⟩⟩:=h
 have u:∀x∈xs,ap q (ap p x)=x:=fun x a=>by
  rw[j,QK]at k;obtain⟨i,hi,rfl⟩:=Q8 a;have:=List.getElem_of_eq k hi;simpa using this.symm
 have o:∀x∈xs,∀v,Cf v x->∃n,p v=vr n/\q n=vr v:=fun x a v c=>by
  have hb:=Tr w B (u x a) v c;obtain⟨t,r,e,E,hn⟩:=Mh (w v)
  by_cases b:t.name=[]
  ·refine⟨t.num,by rw[e,<-hn b,e],?_⟩;rw[hn b,IJ]at hb;exact hb
  ·rw[e,Bu]at hb;simp[ED,b,vr]at hb;rw[hb.1]at b;exact absurd rfl b
 refine⟨fun v=>((p v).head?.map BJ.num).getD 0,fun v=>((q v).head?.map BJ.num).getD 0,?_,?_⟩
 ·rw[j];refine JE (fun x a=> ?_);have y:=o x a;clear u o j k a
  induction x with
  |nil=>rfl
  |cons s l D=>
   rw[Bu,D (fun v c=>y v (by obtain⟨t,b,C⟩:=c;exact⟨t,QD _ b,C⟩)),Qx];unfold ED YtlmjilpjmgjjcaaGreatDoor.ren
   by_cases m:s.name=[]
   ·obtain⟨n,d,_⟩:=y s.num ⟨s,List.mem_cons_self ..,m,rfl⟩;simp[m,d,vr]
   ·simp[m]
 ·intro x a v c;obtain⟨n,d,A⟩:=o x a v c;simp[d,A,vr]
variable {G:Gr}
structure Db where
 head:List BJ
 body:List (List BJ)
 names:At
def Db.n(c:Db):Nat:=c.names.length
def A0(v:Nat):Nat->Ly:=fun n=>vr (n+v)
theorem Mo(v:Nat):Ts (A0 v):=fun n=>LF _
def Fl(σ:Nat->Ly)(gs:List (Ly×Nat)):List (Ly×Nat):=gs.map (fun g=>(ap σ g.1,g.2))
structure ND where
 goals:List (List BJ×Nat)
 vals:List (List BJ)
 done:List (List BJ×Nat)
 used:List Nat
 vars:Nat
def Fz(g:Ly×Nat):Bool:=decide (30<g.1.length)
def Ha(n:ND):Bool:=(decide (40<n.goals.length)||decide (100<n.used.length))||n.goals.any Fz||n.done.any Fz
def Ct(n:ND):Nat:=if Ha n then 3 else if n.goals=[]then 2 else 1
def Au(σ:Nat->Ly)(n:ND)(c:Db)(k:Nat)(g:Ly×Nat)(gs:List (Ly×Nat)):ND:=
 ⟨Fl σ (c.body.map (fun t=>(ap (A0 n.vars) t,g.2+1))++gs),n.vals.map (ap σ),Fl σ (n.done++[g]),n.used++[k],n.vars+c.n⟩
def ND.terms(n:ND):Ll:=n.goals.map (·.1)++(n.vals++n.done.map (·.1))
structure FM(n:ND):Prop where
 wf:∀t∈n.terms,Wf 1 t
 occ:∀t∈n.terms,∀v,Cf v t->v<n.vars
 gs:∀g∈n.goals,g.1.length<=30/\g.2<=n.used.length
 ds:∀g∈n.done,g.1.length<=30/\g.2<=n.used.length
 vs:∀t∈n.vals,∃x∈n.goals++n.done,∃a b,x.1=a++t++b
 gl:n.goals.length<=40
 dl:n.done.length=n.used.length
 ul:n.used.length<=100
 vl:n.vals.length<=1000
 vars:n.vars<=1000*(n.used.length+1)
theorem FM.vsize{n:ND}(h:FM n){t:Ly}(d:t∈n.vals):t.length<=30:=by
 obtain⟨x,c,a,b,e⟩:=h.vs t d;have hl:x.1.length<=30:=by
  rcases Qk.1 c with c|c
  ·exact(h.gs x c).1
  ·exact(h.ds x c).1
 rw[e]at hl;simp at hl;omega
structure KR(c:Db):Prop where
 wfh:Wf 1 c.head
 wfb:∀t∈c.body,Wf 1 t
 och:∀v,Cf v c.head->v<c.n
 ocb:∀t∈c.body,∀v,Cf v t->v<c.n
 n:c.n<=1000
 hl:c.head.length<=30
 bl:∀t∈c.body,t.length<=30
 bn:c.body.length<=6
structure Cl(n m:ND):Prop where
 used:n.used=m.used
 vars:n.vars=m.vars
 gd:n.goals.map (·.2)=m.goals.map (·.2)
 dd:n.done.map (·.2)=m.done.map (·.2)
 vl:n.vals.length=m.vals.length
 al:DM n.terms m.terms
theorem Cl.gl{n m:ND}(h:Cl n m):n.goals.length=m.goals.length:=by simpa using congrArg List.length h.gd
theorem Cl.dl{n m:ND}(h:Cl n m):n.done.length=m.done.length:=by simpa using congrArg List.length h.dd
theorem Cl.symm{n m:ND}(h:Cl n m):Cl m n:=⟨h.used.symm,h.vars.symm,h.gd.symm,h.dd.symm,h.vl.symm,h.al.symm⟩
theorem Cl.refl{n:ND}(h:FM n):Cl n n:=⟨rfl,rfl,rfl,rfl,rfl,DM.refl (fun x a=>⟨1,h.wf x a⟩)⟩
theorem Nz{e β:Type}{f:e->β}{a b:List e}{c d:List β}(h:c++d=(a++b).map f)(hl:c.length=a.length):c=a.map f/\d=b.map f:=by
 rw[Qr]at h;exact List.append_inj h (by simp[hl])
theorem HD.trans{xs a zs:Ll}(h:HD xs a)(k:HD a zs):HD xs zs:=by
 obtain⟨d,b,rfl⟩:=h;obtain⟨e,c,rfl⟩:=k;refine⟨_,TF b c,?_⟩;rw[QK];exact JE (fun x _=>Nh e d x)
theorem DM.trans{xs a zs:Ll}(h:DM xs a)(k:DM a zs):DM xs zs:=⟨h.1.trans k.1,k.2.trans h.2⟩
theorem Cl.trans{n m o:ND}(h:Cl n m)(k:Cl m o):Cl n o:=⟨h.used.trans k.used,h.vars.trans k.vars,h.gd.trans k.gd,h.dd.trans k.dd,h.vl.trans k.vl,h.al.trans k.al⟩
theorem LD(σ:Nat->Ly)(l:List (Ly×Nat)):(Fl σ l).map (·.1)=(l.map (·.1)).map (ap σ):=by simp[Fl]
theorem IR(σ:Nat->Ly)(l:List (Ly×Nat)):(Fl σ l).map (·.2)=l.map (·.2):=by simp[Fl]
theorem Fr{V:Nat}{l:Ly}{v:Nat}(h:Cf v (ap (A0 V) l)):∃u,Cf u l/\v=u+V:=by
 obtain⟨u,b,a⟩:=Jn.1 h;exact⟨u,b,Er.1 a⟩
theorem EW(σ:Nat->Ly)(n:ND)(c:Db)(k:Nat)(g:Ly×Nat)(gs:List (Ly×Nat)):
  (Au σ n c k g gs).terms=(c.body.map (ap (A0 n.vars))++gs.map (·.1)).map (ap σ)++(n.vals.map (ap σ)++(n.done.map (·.1)++[g.1]).map (ap σ)):=by
 simp[ND.terms,Au,LD,Function.comp_def]
theorem LT{n m:ND}(hn:FM n)(J:FM m)(a:Cl n m){c:Db}(I:KR c)(k:Nat){g b:Ly×Nat}{gs d:List (Ly×Nat)}(i:n.goals=g::gs)(p:m.goals=b::d)
  {σ r:Nat->Ly} (B:ID σ g.1 (ap (A0 n.vars) c.head)) (o:ID r b.1 (ap (A0 m.vars) c.head)):
  HD (Au σ n c k g gs).terms (Au r m c k b d).terms:=by
 have q:=a.vars;have D:=a.vl;have j:=a.gl;have f:=a.al.1;have l:=hn.occ;unfold ND.terms at f l;rw[i,p,Qx,Qx,Qy,Qy]at f;rw[i,Qx,Qy]at l;rw[<-q]at o;have F:=HD.fit (V:=n.vars) (zs:=c.body.map (ap (A0 n.vars))) f (fun x E=>l x E) (fun v h=>by obtain⟨u,_,e⟩:=Fr h;omega)
  (fun K hz v h=>by
   obtain⟨t,_,rfl⟩:=Q0.1 hz;obtain⟨u,_,e⟩:=Fr h;omega) B o
 obtain⟨H,C,e⟩:=F;refine⟨H,C,?_⟩;rw[Qr]at e;rw[Qr]at e;rw[i,p]at j;simp only[Qf,Nat.add_right_cancel_iff]at j;obtain⟨s,e⟩:=Nz e Ys;simp only[Qx,Qr]at e;simp only[QI]at e;obtain⟨w,e⟩:=e;have G:d.length=gs.length:=j.symm;obtain⟨y,e⟩:=List.append_inj e (by simp[G]);obtain⟨z,A⟩:=List.append_inj e (by simp[D]);rw[EW,EW,<-q];simp only[Qr,Qx,QX];rw[s,w,y,z,A]
theorem SJ{n m:ND}(hn:FM n)(o:FM m)(a:Cl n m){c:Db}(l:KR c)(k:Nat){g d:Ly×Nat}{gs h:List (Ly×Nat)}(e:n.goals=g::gs)(f:m.goals=d::h)
  {σ p:Nat->Ly} (i:ID σ g.1 (ap (A0 n.vars) c.head)) (j:ID p d.1 (ap (A0 m.vars) c.head)):
  Cl (Au σ n c k g gs) (Au p m c k d h):=by
 have b:=a.gd;rw[e,f]at b;simp only[Qx,QI]at b;refine⟨by simp[Au,a.used],by simp[Au,a.vars],?_,?_,by simp[Au,a.vl],LT hn o a l k e f i j,LT o hn a.symm l k f e j i⟩
 ·simp only[Au,IR,Qr,QK,Function.comp_def,b.1,b.2]
 ·simp only[Au,IR,Qr,Qx,QX,b.1,a.dd]
theorem Cl.big{n m:ND}(c:Cl n m):n.goals.any Fz=m.goals.any Fz/\n.done.any Fz=m.done.any Fz:=by
 have h:=c.al.len;unfold ND.terms at h;simp only[Qr,QK]at h;obtain⟨e,h⟩:=List.append_inj h (by simp[c.gl]);obtain⟨_,f⟩:=List.append_inj h (by simp[c.vl]);have d:∀{a b:List (Ly×Nat)},a.map (List.length∘(·.1))=b.map (List.length∘(·.1))->a.any Fz=b.any Fz:=by
  intro a
  induction a with
  |nil=>intro b h;cases b with
   |nil=>rfl
   |cons y b=>simp at h
  |cons x a g=>
   intro b h
   cases b with
   |nil=>simp at h
   |cons y b=>
    simp only[Qx,QI,Function.comp]at h;simp only[List.any_cons,Fz,h.1]
    congr 1
    exact g h.2
 exact⟨d e,d f⟩
theorem Cl.kind{n m:ND}(a:Cl n m):Ct n=Ct m:=by
 have hb:=a.big;have b:(n.goals=[])↔(m.goals=[]):=by
  rw[<-Q3,<-Q3,a.gl]
 unfold Ct Ha;rw[hb.1,hb.2,a.gl,a.used];split
 ·rfl
 ·split
  ·rw[QQ (b.1 (by assumption))]
  ·rw[QP (fun h=>by rename_i c;exact c (b.2 h))]
theorem Ma{n:ND}(hn:FM n){c:Db}(o:KR c)(k:Nat){g:Ly×Nat}{gs:List (Ly×Nat)}(m:n.goals=g::gs){σ:Nat->Ly}(A:ID σ g.1 (ap (A0 n.vars) c.head))(q:Ct (Au σ n c k g gs)≠3):
  FM (Au σ n c k g gs):=by
 have r:Ha (Au σ n c k g gs)=false:=by
  unfold Ct at q
  cases h:Ha (Au σ n c k g gs)with
  |false=>rfl
  |true=>rw[h]at q;simp at q
 unfold Ha at r;simp only[Bool.or_eq_false_iff,decide_eq_false_iff_not,Nat.not_lt]at r;obtain⟨⟨⟨D,E⟩,F⟩,H⟩:=r;have G:∀x∈(Au σ n c k g gs).goals,x.1.length<=30:=fun x d=>by
  have:=List.any_eq_false.1 F x d;simpa[Fz]using this
 have I:∀x∈(Au σ n c k g gs).done,x.1.length<=30:=fun x d=>by
  have:=List.any_eq_false.1 H x d;simpa[Fz]using this
 have s:(Au σ n c k g gs).used.length=n.used.length+1:=by simp[Au]
 have w:=hn.wf;have p:=hn.occ;unfold ND.terms at w p;rw[m]at w p;have B:∀t∈(Au σ n c k g gs).terms,∃u,t=ap σ u/\((∃b∈c.body,u=ap (A0 n.vars) b)\/u∈List.map (·.1) (g::gs)++(n.vals++List.map (·.1) n.done)):=by
  intro t i;rw[EW]at i;simp only[Qk,Q0]at i;rcases i with⟨u,f,rfl⟩|⟨u,f,rfl⟩|⟨u,f,rfl⟩
  ·rcases f with⟨b,hb,rfl⟩|⟨x,d,rfl⟩
   ·exact⟨_,rfl,QG ⟨b,hb,rfl⟩⟩
   ·exact⟨_,rfl,QO (Q9 _ (Q0.2 ⟨x,by simp[d],rfl⟩))⟩
  ·exact⟨_,rfl,QO (by simp[f])⟩
  ·rcases f with⟨x,d,rfl⟩|f
   ·exact⟨_,rfl,QO (QA _ (QA _ (Q0.2 ⟨x,d,rfl⟩)))⟩
   ·simp at f;subst f;exact⟨_,rfl,QO Ys⟩
 have C:∀u,((∃b∈c.body,u=ap (A0 n.vars) b)\/u∈List.map (·.1) (g::gs)++(n.vals++List.map (·.1) n.done))->∀v,Cf v u->v<n.vars+c.n:=by
  intro u f v l;rcases f with⟨b,hb,rfl⟩|f
  ·obtain⟨z,hz,e⟩:=Fr l;have:=o.ocb b hb z hz;omega
  ·have:=p u f v l;omega
 refine⟨?_,?_,?_,?_,?_,D,?_,E,?_,?_⟩
 ·intro t i;obtain⟨u,rfl,f⟩:=B t i;refine Ie A.ts ?_;rcases f with⟨b,hb,rfl⟩|f
  ·exact Ie (Mo _) (o.wfb b hb)
  ·exact w u f
 ·intro t i v l;obtain⟨u,rfl,f⟩:=B t i;obtain⟨z,hz,l⟩:=Jn.1 l;show v<n.vars+c.n;rcases A.occ z v l with rfl|h|h
  ·exact C u f v hz
  ·have:=p g.1 Ys v h;omega
  ·obtain⟨y,j,e⟩:=Fr h;have:=o.och y j;omega
 ·intro x d;refine⟨G x d,?_⟩;rw[s];simp only[Au,Fl,Q0,Qk]at d;obtain⟨y,j,rfl⟩:=d;have J:=(hn.gs g (by rw[m];simp)).2;rcases j with⟨t,_,rfl⟩|j
  ·simp only;omega
  ·have:=(hn.gs y (by rw[m];simp[j])).2;simp only;omega
 ·intro x d;refine⟨I x d,?_⟩;rw[s];simp only[Au,Fl,Q0,Qk,JP]at d;obtain⟨y,j,rfl⟩:=d;rcases j with j|rfl
  ·have:=(hn.ds y j).2;simp only;omega
  ·have:=(hn.gs y (by rw[m];simp)).2;simp only;omega
 ·intro t i;simp only[Au,Q0]at i;obtain⟨u,f,rfl⟩:=i;obtain⟨x,d,a,b,e⟩:=hn.vs u f;refine⟨(ap σ x.1,x.2),?_,ap σ a,ap σ b,by rw[e];simp[EQ]⟩;rw[m]at d;simp only[Au,Fl,Qk,Q0,Qp,JP]at d⊢;rcases d with(rfl|d)|d
  ·exact QO ⟨x,QO (QG rfl),rfl⟩
  ·exact QG ⟨x,QO d,rfl⟩
  ·exact QO ⟨x,QG d,rfl⟩
 ·simp[Au,Fl,hn.dl]
 ·simp[Au,hn.vl]
 ·have:=hn.vars;have:=o.n;rw[s];show n.vars+c.n<=_;omega
def Kv(n:ND)(c:Db)(k:Nat)(q:Nat)(ch:ND):Prop:=∃g gs,n.goals=g::gs/\((q=0/\De g.1 (ap (A0 n.vars) c.head))\/(q=3/\Hd g.1 (ap (A0 n.vars) c.head))\/
 (∃σ,ID σ g.1 (ap (A0 n.vars) c.head)/\(ap σ g.1).length<=30/\q=Ct (Au σ n c k g gs)/\ch=Au σ n c k g gs))
theorem ID.fits{σ:Nat->Ly}{a b:Ly}(h:ID σ a b):¬De a b:=fun hn=>hn σ h.ts h.unif
theorem Hd.fits{a b:Ly}(h:Hd a b):¬De a b:=fun hn=>by obtain⟨⟨d,c,e⟩,_⟩:=h;exact hn d c e
theorem VR{n m:ND}(hn:FM n)(w:FM m)(z:Cl n m){c:Db}(t:KR c){k q I:Nat}{r s:ND}(h:Kv n c k q r)(a:Kv m c k I s):q=I/\(q=1\/q=2->FM r/\FM s/\Cl r s):=by
 obtain⟨g,gs,j,h⟩:=h;obtain⟨d,L,l,a⟩:=a;have f:=z.al;have x:=hn.occ;have y:=w.occ;unfold ND.terms at f x y;rw[j,l,Qx,Qx,Qy,Qy]at f;rw[j,Qx,Qy]at x;rw[l,Qx,Qy]at y;have p:=z.vars;have o:∀v,Cf v (ap (A0 n.vars) c.head)->n.vars<=v:=fun v h=>by obtain⟨u,_,e⟩:=Fr h;omega
 have A:∀v,Cf v g.1->v<n.vars:=fun v h=>x g.1 Ys v h;have B:∀v,Cf v d.1->v<n.vars:=fun v h=>by have:=y d.1 Ys v h;omega
 have G:De g.1 (ap (A0 n.vars) c.head)->De d.1 (ap (A0 m.vars) c.head):=fun h=>by rw[<-p];exact De.alike (V:=n.vars) f.1 A o h
 have H:De d.1 (ap (A0 m.vars) c.head)->De g.1 (ap (A0 n.vars) c.head):=fun h=>by rw[<-p]at h;exact De.alike (V:=n.vars) f.2 B o h
 have J:Hd g.1 (ap (A0 n.vars) c.head)->Hd d.1 (ap (A0 m.vars) c.head):=fun h=>by rw[<-p];exact Hd.alike (V:=n.vars) f A B o h
 have K:Hd d.1 (ap (A0 m.vars) c.head)->Hd g.1 (ap (A0 n.vars) c.head):=fun h=>by rw[<-p]at h;exact Hd.alike (V:=n.vars) f.symm B A o h
 rcases h with⟨rfl,h⟩|⟨rfl,h⟩|⟨σ,i,M,N,rfl⟩
 ·rcases a with⟨rfl,a⟩|⟨rfl,a⟩|⟨C,b,E,F,rfl⟩
  ·exact⟨rfl,fun h=>by omega⟩
  ·exact absurd (G h) a.fits
  ·exact absurd (G h) b.fits
 ·rcases a with⟨rfl,a⟩|⟨rfl,a⟩|⟨C,b,E,F,rfl⟩
  ·exact absurd (H a) h.fits
  ·exact⟨rfl,fun h=>by omega⟩
  ·have:=(J h).2 C b.ts b.unif;omega
 ·rcases a with⟨rfl,a⟩|⟨rfl,a⟩|⟨C,b,E,F,rfl⟩
  ·exact absurd (H a) i.fits
  ·have:=(K a).2 σ i.ts i.unif;omega
  ·have D:=SJ hn w z t k j l i b;have O:=D.kind;exact⟨Yo,fun P=>⟨Ma hn t k j i Yo,Ma w t k l b Yo,D⟩⟩
open Classical in
noncomputable def Ax(m:ND)(c:Db)(k:Nat):ND×Nat:=
 if h:∃r:ND×Nat,∃n,FM n/\Cl n m/\Kv n c k r.2 r.1 then Classical.choose h else(⟨[],[],[],[],0⟩,0)
theorem Eb{n m:ND}(hn:FM n)(f:Cl n m){c:Db}(g:KR c){k q:Nat}{a:ND}(h:Kv n c k q a):q=(Ax m c k).2/\(q=1\/q=2->FM a/\Cl a (Ax m c k).1):=by
 have b:∃r:ND×Nat,∃n,FM n/\Cl n m/\Kv n c k r.2 r.1:=⟨(a,q),n,hn,f,h⟩;have e:Ax m c k=Classical.choose b:=by unfold Ax;rw[dif_pos b]
 obtain⟨o,i,l,j⟩:=Classical.choose_spec b;rw[e];have:=VR hn i (f.trans l.symm) g h j;exact⟨this.1,fun d=>⟨(this.2 d).1,(this.2 d).2.2⟩⟩
abbrev Lc:=List Db
abbrev Ln:=List (ND×Nat)
variable {cs:Lc}{c:Db}{ds r:Ln}
theorem SV{p:List BV->At->Option (Ly×List BV×At)}
  (m:∀ts names r,(∀t∈ts,t.text.length<=M)->p ts names=some r->r.1.length+r.2.1.length<=ts.length/\(∀s∈r.1,s.name.length<=M)/\(∀t∈r.2.1,t.text.length<=M)):
  ∀(g:Nat)(ts:List BV)(names:At)(b:Ll) r,(∀t∈ts,t.text.length<=M)->(∀s∈b.flatten,s.name.length<=M)->Cy p g ts names b=some r->
   r.1.flatten.length+r.2.1.length<=b.flatten.length+ts.length/\(∀s∈r.1.flatten,s.name.length<=M)/\(∀t∈r.2.1,t.text.length<=M):=by
 intro g
 induction g with
 |zero=>intro ts names b r _ _ h;simp[Cy]at h
 |succ g o=>
  intro ts names b r e d h
  cases ts with
  |nil=>simp[Cy]at h
  |cons t ts=>
   rw[Cy]at h;split at h
   ·simp at h;subst h;exact⟨Ys,d,fun t c=>e t (by simp[c])⟩
   ·split at h
    ·simp at h
    ·rename_i q n;obtain⟨u,f,i⟩:=m _ _ _ (fun t c=>e t (by simp[c])) n;obtain⟨j,k,l⟩:=o _ _ _ _ i (fun s a=>by
      simp only[JB,Q4,QY,Qs,Qk]at a;rcases a with a|a
      ·exact d s a
      ·exact f s a) h
     refine⟨?_,k,l⟩;simp only[JB,Q4,QY,Qs,Qg,Qf]at j⊢;omega
theorem Ld:∀(f:Nat)(ts:List BV)(names:At) r,(∀t∈ts,t.text.length<=M)->Bo f ts names=some r->r.1.length+r.2.1.length<=ts.length/\(∀s∈r.1,s.name.length<=M)/\(∀t∈r.2.1,t.text.length<=M):=by
 intro f
 induction f with
 |zero=>intro ts names r _ h;simp[Bo]at h
 |succ f j=>
  intro ts names r b h
  cases ts with
  |nil=>simp[Bo]at h
  |cons t ts=>
   rw[Bo]at h;split at h
   ·simp at h;subst h;exact⟨by simp;omega,Ys,fun t a=>b t (by simp[a])⟩
   ·cases ts with
    |nil=>simp[FF]at h
    |cons u k=>
     rw[FF]at h;split at h
     ·simp at h;subst h;exact⟨by simp;omega,by simp;exact b t Ys,fun t a=>b t (by simp at a⊢;exact QO a)⟩
     ·rw[JH]at h;obtain⟨q,i,rfl⟩:=h;obtain⟨d,e,g⟩:=SV j _ _ _ _ _ (fun t a=>b t (QD _ a)) Ys i;refine⟨by simp at d⊢;omega,?_,g⟩;intro s c;simp only[Qp]at c;rcases c with rfl|c
      ·exact b t Ys
      ·exact e s c
theorem FN{f:Nat}:∀(g:Nat)(ts:List BV)(names:At)(a:Ll) r,(∀t∈ts,t.text.length<=M)->(∀s∈a.flatten,s.name.length<=M)->BG f g ts names a=some r->
   r.1.flatten.length+r.2.1.length<=a.flatten.length+ts.length/\(∀s∈r.1.flatten,s.name.length<=M)/\(∀t∈r.2.1,t.text.length<=M):=by
 intro g
 induction g with
 |zero=>intro ts names a r _ _ h;simp[BG]at h
 |succ g v=>
  intro ts names a r o n h;rw[BG]at h;split at h
  ·simp at h
  ·rename_i q p;obtain⟨c,j,d⟩:=Ld f _ _ _ o p;have i:∀s∈(a++[q.1]).flatten,s.name.length<=M:=fun s b=>by
    simp only[JB,Q4,QY,Qs,Qk]at b;rcases b with b|b
    ·exact n s b
    ·exact j s b
   split at h
   ·simp at h
   ·rename_i x rest u;rw[u]at c d;split at h
    ·simp at h;subst h;refine⟨?_,i,fun t e=>d t (by simp[e])⟩;simp only[JB,Q4,QY,Qs,Qg,Qf]at c⊢;omega
    ·obtain⟨k,l,m⟩:=v _ _ _ _ (fun t e=>d t (by simp[e])) i h;refine⟨?_,l,m⟩;simp only[JB,Q4,QY,Qs,Qg,Qf]at c k⊢;omega
def B5(s:ByteArray):Lu×Nat×Nat:=
 if 120<s.size then([],1,0)
 else if(Bb (Ap s) (AD true)).1≠0 then([],(Bb (Ap s) (AD true)).1,(Bb (Ap s) (AD true)).2)
 else match BG 1000 1000 (Ap s) [] []with
  |none=>([],0,0)
  |some q=>(BQ 1000 [] q.1 []++[46],0,0)
theorem UM(s:ByteArray)(w:World)(F:s.size<=maxLen)(p:s.size<=120->(Bb (Ap s) (AD true)).1=0->∃q,BG 1000 1000 (Ap s) [] []=some q):
  Calls prog 86 #[string s] w fun e w'=>e=Rq #[string ⟨(B5 s).1.toArray⟩,int i64 (B5 s).2.1,int i64 (B5 s).2.2]/\Below w.heap.size w w':=by
 by_cases c:120<s.size
 ·have b:B5 s=([],1,0):=by rw[B5,QQ c]
  rw[b];clear b;go_enter func86,ntmps86;go_wp2_with fail;apply(HQ s _ F c).mono;rintro e w1 ⟨rfl,hb⟩;have a:=Yh hb;clear hb;go_wp2;go_ret3;exact⟨rfl,a.o.alloc a.o.size _⟩
 ·by_cases f:(Bb (Ap s) (AD true)).1≠0
  ·have b:B5 s=([],(Bb (Ap s) (AD true)).1,(Bb (Ap s) (AD true)).2):=by rw[B5,QP c,QQ f]
   rw[b];clear b;have Q:(((Bb (Ap s) (AD true)).1:Int) !=0)=true:=by rw[QR];omega
   go_enter func86,ntmps86;go_wp2_with fail;apply(Im s _ Yo f).mono;rintro e w1 ⟨rfl,hb⟩;have a:=Yh hb;clear hb;go_wp2;go_ret3;exact⟨rfl,a.o.alloc a.o.size _⟩
  ·have m:(Bb (Ap s) (AD true)).1=0:=Yo
   obtain⟨q,d⟩:=p Yo m;have b:B5 s=(BQ 1000 [] q.1 []++[46],0,0):=by rw[B5,QP c,QP f,d]
   rw[b];clear b;have P:=BM s;obtain⟨K,r,_⟩:=FN 1000 (Ap s) [] [] q (fun t G=>Cu s t G) Ys d;simp only[QY,Qt]at K;have x:=Yh r;have v:=Yh d;clear r d p;go_enter func86,ntmps86;go_wp2_with fail;apply(IY s _ q Yo m v.o).mono;rintro e w1 ⟨U,nv,lo,xs,rfl,S,T,j,n,hb⟩;obtain⟨la,J,rfl⟩:=Ab j.owns;obtain⟨na,V,rfl⟩:=Ab n;have a:=Yh hb;have l:=Yh j;clear hb j n;go_wp2_with fail;refine(LQ 1000 _ (slice la q.1.length J) 0 [] Nl lo xs q.1 ?_ (Q2 _ _ _ _) Yo (fun s c=>by have:=x.o s c;omega) (by simp only[Qt];omega)).mono ?_
   ·refine⟨l.o.owns.alloc _,fun i H hl=> ?_⟩;obtain⟨y,z,A,I,E,L,M,N,B,O,C,D⟩:=l.o.all i H hl;exact⟨y,z,A,I,E,L,M,N,B,by simp;omega,C,DP.later 1000 D (fun k R g _=>Jd _ _ _ Yo)⟩
   rintro e w2 ⟨rfl,g⟩;have u:=Yh g;clear g;go_wp2;go_ret3;refine⟨rfl,(a.o.alloc a.o.size _).trans (u.o.below ?_ (fun k h=>by simp[Ak,Value.ownBlock]at h))⟩;have:=a.o.size;simp;omega
theorem infoClause:(prog.info? 185).map (fun i=>(i.zero,i.size,i.bytes))=some (some (agg #[string ⟨#[]⟩,int i64 0,Nl,Nl,int i64 0]),5,80):=by kernel_rfl
structure CL(w w':World):Prop where
 size:w.heap.size<=w'.heap.size
 block:∀k,Cz w k->w'.heap[k]?=w.heap[k]?
theorem CL.trans{a b c:World}(h:CL a b)(d:CL b c):CL a c:=
 ⟨Qq h.size d.size,fun k f=>by
  have e:=h.block k f;have:Cz b k:=by obtain⟨g,i⟩:=f;exact⟨g,e.trans i⟩
  exact(d.block k this).trans e⟩
theorem CL.of_kept(h:Ad S w w')(c:∀k,Cz w k->¬S k):CL w w':=
 ⟨h.size,fun k a=>h.block k (by obtain⟨d,b⟩:=a;exact Ac b) (c k a)⟩
theorem CL.of_apart{n:Nat}(h:Ad (Ak v) w w')(d:w.ownsRow B e size v n xs)(b:e≠183):CL w w':=
 CL.of_kept h (fun k c=>by obtain⟨f,a⟩:=c;exact Ai d b a)
theorem DP.keep{f:Nat}{lo hi:Nat}{a b c:Value}(h:DP f w lo hi a b c l)(d:CL w w'):DP f w' lo hi a b c l:=h.later f (fun k _ _ e=>d.block k e)
theorem Fa.keep{f:Nat}{lo:Nat}{b:Ll}(h:Fa f w lo cv b xs)(a:CL w w'):Fa f w' lo cv b xs:=
 ⟨Aj h.owns (fun k e=>a.block k (Ay h.owns k e)),fun i p hl=>by
  obtain⟨c,d,g,q,o,r,s,t,j,l,m,n⟩:=h.all i p hl;exact⟨c,d,g,q,o,r,s,t,j,Qq l a.size,m,n.keep a⟩⟩
def Mp(w:World)(xs:Lv)(c:Db):Prop:=∃s n ca cl cc bv lo hi lo' ys,xs=[.string s,.int .i64 n,.slice ca cl cc,bv,.int .i64 c.n]/\DP 1000 w lo hi (.string s) (.int .i64 n) (.slice ca cl cc) c.head/\Fa 1000 w lo' bv c.body ys
theorem Mp.keep(h:Mp w xs c)(a:CL w w'):Mp w' xs c:=by
 obtain⟨s,n,ca,cl,cc,b,lo,hi,g,i,d,e,f⟩:=h;exact⟨s,n,ca,cl,cc,b,lo,hi,g,i,d,e.keep a,f.keep a⟩
structure Eg(w:World)(lo:Nat)(lv:Value)(cs:List Db)(xs:List (List Value)):Prop where
 owns:w.ownsRow lo 185 5 lv cs.length xs.flatten
 len:xs.length=cs.length
 five:∀x∈xs,x.length=5
 all:∀(i:Nat)(c:Db),cs[i]?=some c->∃x,xs[i]?=some x/\Mp w x c
theorem Eg.nil(w:World)(lo:Nat):Eg w lo Nl [] []:=⟨Q2 _ _ _ _,rfl,Ys,fun i c h=>by simp at h⟩
def Dl(ts:List BV):Option (Db×List BV):=
 match Bo 1000 ts []with
 |none=>none
 |some r=>match r.2.1 with
  |[]=>none
  |x::rest=>if x.kind=3 then(BG 1000 1000 rest r.2.2 []).map (fun q=>(⟨r.1,q.1,q.2.2⟩,q.2.1))else some (⟨r.1,[],r.2.2⟩,rest)
def CW:Nat->List BV->Lc->Option (Lc)
 |0,_,_=>none
 |_+1,[],_=>none
 |g+1,t::ts,acc=>
  if t.kind=4 then some acc
  else match Dl (t::ts)with
   |none=>none
   |some r=>CW g r.2 (acc++[r.1])
theorem Eg.keep{lo:Nat}{xs:List (Lv)}(h:Eg w lo lv cs xs)(e:CL w w')(f:w'.ownsRow lo 185 5 lv cs.length xs.flatten):Eg w' lo lv cs xs:=
 ⟨f,h.len,h.five,fun i c d=>by obtain⟨x,a,b⟩:=h.all i c d;exact⟨x,a,b.keep e⟩⟩
theorem Eg.add{lo:Nat}{e:Value}{xs:List (Lv)}{x:Lv}(h:Eg w lo lv cs xs)(l:Mp w x c)(m:x.length=5)(b:CL w w')
  (k:w'.ownsRow lo 185 5 e (cs.length+1) (xs.flatten++x)):Eg w' lo e (cs++[c]) (xs++[x]):=by
 refine⟨by simpa using k,by simp[h.len],?_,?_⟩
 ·intro y a;simp at a;rcases a with a|rfl
  ·exact h.five y a
  ·exact m
 ·intro i d hd;rcases QB i cs.length with hi|hi
  ·rw[Qc hi]at hd;obtain⟨y,f,g⟩:=h.all i d hd;exact⟨y,by rw[Qc (by rw[h.len];exact hi)];exact f,g.keep b⟩
  ·have j:i=cs.length:=by
    have:i<(cs++[c]).length:=(Qa.1 hd).1;simp at this;omega
   subst j;simp at hd;subst hd;exact⟨x,by rw[<-h.len];simp,l.keep b⟩
theorem Tw{n m:Int}{ca b:Oa}{cl cc bl c:Nat}:∀u∈(#[Value.string s,int i64 n,slice ca cl cc,slice b bl c,int i64 m]:Av).toList,u.oneCell'=true:=by
 intro u a;simp at a;rcases a with rfl|rfl|rfl|rfl|rfl<;>rfl
abbrev CC:=Db
structure RS where
 query:Bool
 next:Nat
 inBody:Bool
 atom:List BJ
 opn:List Nat
 head:List BJ
 body:List (List BJ)
 vars:At
 clauses:List CC
structure RV where
 a:Value
 o:Value
 h:Value
 b:Value
 v:Value
 c:Value
def Bw(s:BJ):Lv:=[.string ⟨s.name.toArray⟩,.int .i64 s.num,.int .i64 s.args]
def Aq(l:Ly):Lv:=l.flatMap Bw
theorem AV(l:Ly)(k:Nat)(t:BJ)(h:l[k]?=some t)(j:Nat)(c:j<3):(Aq l)[k*3+j]?=(Bw t)[j]?:=by
 induction l generalizing k with
 |nil=>simp at h
 |cons a l b=>
  cases k with
  |zero=>
   simp at h;subst h;show(Bw a++Aq l)[_]?=_;rw[Qc (by simp[Bw];omega)];simp
  |succ k=>
   show(Bw a++Aq l)[_]?=_;rw[Qd (by simp[Bw];omega)];rw[<-b k (by simpa using h)]
   congr 1
   simp[Bw];omega
def Cm(st:RS)(V:RV):Av:=#[.bool st.query,.int .i64 st.next,.bool st.inBody,V.a,V.o,V.h,V.b,V.v,V.c]
structure Fj(w:World)(B rb:Nat)(st:RS)(V:RV):Prop where
 blk:w.heap[rb]?=some (.cells (Cm st V) 169 (0,0))
 atom:w.ownsRow B 133 3 V.a st.atom.length (Aq st.atom)
 opn:w.ownsRow B 3 1 V.o st.opn.length (AM st.opn.reverse)
 body:∃x c,V.b= .slice x st.body.length c
 cls:∃x c,V.c= .slice x st.clauses.length c
theorem Fj.facts{st:RS}{V:RV}(h:Fj w B rb st V):
  w.cell? ⟨rb,0,none⟩=some (.bool st.query)/\w.cell? ⟨rb,1,none⟩=some (int i64 st.next)/\w.cell? ⟨rb,2,none⟩=some (.bool st.inBody)/\w.cell? ⟨rb,3,none⟩=some V.a/\w.cell? ⟨rb,4,none⟩=some V.o/\
  w.cell? ⟨rb,5,none⟩=some V.h/\w.cell? ⟨rb,6,none⟩=some V.b/\w.cell? ⟨rb,7,none⟩=some V.v/\w.cell? ⟨rb,8,none⟩=some V.c:=
 ⟨Aa h.blk 0 _ rfl,Aa h.blk 1 _ rfl,Aa h.blk 2 _ rfl,Aa h.blk 3 _ rfl,Aa h.blk 4 _ rfl,Aa h.blk 5 _ rfl,Aa h.blk 6 _ rfl,Aa h.blk 7 _ rfl,Aa h.blk 8 _ rfl⟩
def DZ(st:RS):Int:=match st.opn with
 |[]=> -1
 |n::_=>if st.atom.length<=n then-1 else n
theorem Jq(w:World)(B l:Nat)(st:RS)(V:RV)(h:Fj w B l st V)(hl:st.opn.length<=4096)(ha:st.atom.length<=4096):
  Calls prog 200 #[Pt l] w fun e w'=>e=returned (int i64 (DZ st))/\∃n,w'=w.drewN n:=by
 obtain⟨s,t,u,m,i,v,x,y,z⟩:=h.facts;obtain⟨aa,q,f⟩:=Ab h.atom;obtain⟨G,H,d⟩:=Ab h.opn;rw[f]at m;rw[d]at i
 cases a:st.opn with
 |nil=>
  have b:YH (DZ st= -1):=by show _=_;simp[DZ,a]
  simp only[a,Qt]at i;clear f d a h;go_enter func200,ntmps200;go_wp2;go_ret;rw[b.o];exact⟨rfl,0,rfl⟩
 |cons n r=>
  have F:r.length+1<=4096:=by rw[a]at hl;simpa using hl
  have c:=h.opn;rw[a,d,a]at c;obtain⟨g,A,C,j,D,k,p⟩:=An c Ys;simp only[QH]at j;obtain⟨rfl,_,rfl⟩:=j;have cg:w.cell? ⟨g,r.length,none⟩=some (int i64 n):=Af c r.length _ (by simp[AM]);simp only[a,Qf]at i;simp only[Qf]at p;have E:(((r.length:Nat):Int)+1==0)=false:=by rw[Qu];omega
  by_cases hn:st.atom.length<=n
  ·have b:YH (DZ st= -1):=by show _=_;simp[DZ,a,hn]
   clear f d a h c k;go_enter func200,ntmps200;go_wp2_with fail;go_quiet (fail);go_wp2;go_ret;rw[b.o];exact⟨rfl,_,rfl⟩
  ·have b:YH (DZ st=n):=by show _=_;simp[DZ,a,hn]
   clear f d a h c k;go_enter func200,ntmps200;go_wp2_with fail;go_quiet (fail);go_wp2;go_ret;rw[b.o];exact⟨rfl,_,rfl⟩
variable {st:RS}
theorem nb(kd k:Nat):((kd:Int)==(k:Int))=(kd==k):=by
 rw[Bool.eq_iff_iff,JF,JF];omega
def Gn(st:RS):Nat:=match st.opn with
 |[]=>0
 |n::_=>match st.atom[n]? with
  |none=>0
  |some s=>s.args
def Bn(st:RS)(kd:Nat):Bool:=if st.opn.isEmpty then(if st.inBody then(kd==5||kd==6)else(kd==7||kd==6))else(kd==5||kd==4)
def A2(st:RS)(kd:Nat):Bool:=
 if st.next=0\/st.next=1 then kd==1 else if st.next=2 then(kd==1||kd==2)else if st.next=3 then(kd==3||Bn st kd)else if st.next=4 then Bn st kd else false
def Df(st:RS):Bool:=
 if st.next=0 then decide (24<=st.clauses.length)else if st.next=1 then decide (6<=st.body.length)else if st.next=2 then(decide (30<=st.atom.length)||decide (4<=Gn st))else false
def Bg(st:RS)(kd len:Nat):Nat:=if A2 st kd=false then 2 else if(kd=1\/kd=2)/\(8<len\/Df st=true)then 3 else 0
structure LZ(st:RS):Prop where
 opn:st.opn.length<=4096
 atom:st.atom.length<=4096
 body:st.body.length<=4096
 cls:st.clauses.length<=4096
 args:∀s∈st.atom,s.args<=4096
theorem Vd(w:World)(B l:Nat)(st:RS)(V:RV)(h:Fj w B l st V)(hb:LZ st):
  Calls prog 199 #[Pt l] w fun e w'=>e=returned (int i64 (Gn st))/\∃n,w'=w.drewN n:=by
 obtain⟨y,z,A,q,C,D,E,F,G⟩:=h.facts;obtain⟨aa,x,d⟩:=Ab h.atom;rw[d]at q;have m:=Yh (Jq w B l st V h hb.opn hb.atom)
 by_cases a:DZ st= -1
 ·have f:YH (Gn st=0):=by
   show _=_
   cases b:st.opn with
   |nil=>simp[Gn,b]
   |cons n r=>
    have v:st.atom.length<=n:=by
     unfold DZ at a;rw[b]at a;simp only at a;split at a
     ·assumption
     ·omega
    simp[Gn,b,QV v]
  have i:=Yh a;clear a h d;go_enter func199,ntmps199;go_wp2_with fail;apply m.o.mono;rintro e w1 ⟨rfl,n,rfl⟩;rw[i.o];go_wp2;go_ret;rw[f.o];exact⟨rfl,n,rfl⟩
 ·obtain⟨k,r,b,u⟩:∃k r,st.opn=k::r/\k<st.atom.length:=by
   unfold DZ at a;split at a
   ·exact absurd rfl a
   ·rename_i k r hn;split at a
    ·exact absurd rfl a
    ·exact⟨k,r,hn,Yo⟩
  obtain⟨s,j⟩:∃s,st.atom[k]?=some s:=⟨_,Qb u⟩;have f:YH (Gn st=s.args):=by show _=_;simp[Gn,b,j]
  have i:YH (DZ st=k):=by show _=_;simp[DZ,b];omega
  have c:=h.atom;rw[d]at c;obtain⟨g,H,I,p,J,t,K⟩:=An c Yo;simp only[QH]at p;obtain⟨rfl,_,rfl⟩:=p;have cg:w.cell? ⟨g,k*3+2,none⟩=some (int i64 s.args):=Af c _ _ (by rw[AV _ k s j 2 Yo];rfl);clear a h d c b j t;go_enter func199,ntmps199;go_wp2_with fail;apply m.o.mono;rintro e w1 ⟨rfl,n,rfl⟩;rw[i.o];go_wp2;go_ret;rw[f.o];exact⟨rfl,n,rfl⟩
theorem SQ(w:World)(B p:Nat)(st:RS)(V:RV)(kd:Nat)(h:Fj w B p st V)(hb:LZ st):
  Calls prog 198 #[Pt p,int i64 kd] w fun e w'=>e=returned (.bool (Bn st kd))/\w'=w:=by
 obtain⟨s,t,l,u,k,v,x,y,z⟩:=h.facts;obtain⟨C,D,m⟩:=Ab h.opn;have hl:=hb.opn;rw[m]at k;clear h m;have i:=nb kd 4;have d:=nb kd 5;have f:=nb kd 6;have j:=nb kd 7
 cases a:st.opn with
 |nil=>
  simp only[a,Qt]at k
  cases b:st.inBody
  ·rw[b]at l;have c:YH (Bn st kd=(kd==7||kd==6)):=by show _=_;simp[Bn,a,b]
   rw[c.o,<-j,<-f];clear i d f j a b
   cases g:((kd:Int)==(7:Nat))
   all_goals
    have q:((kd:Int)==7)=_:=g;go_enter func198,ntmps198;go_wp2;go_ret;exact⟨rfl,rfl⟩
  ·rw[b]at l;have c:YH (Bn st kd=(kd==5||kd==6)):=by show _=_;simp[Bn,a,b]
   rw[c.o,<-d,<-f];clear i d f j a b
   cases g:((kd:Int)==(5:Nat))
   all_goals
    have q:((kd:Int)==5)=_:=g;go_enter func198,ntmps198;go_wp2;go_ret;exact⟨rfl,rfl⟩
 |cons n r=>
  have c:YH (Bn st kd=(kd==5||kd==4)):=by show _=_;simp[Bn,a]
  rw[c.o,<-d,<-i];have A:r.length+1<=4096:=by rw[a]at hl;simpa using hl
  simp only[a,Qf]at k;clear i d f j a
  cases g:((kd:Int)==(5:Nat))
  all_goals
   have q:((kd:Int)==5)=_:=g;go_enter func198,ntmps198;go_wp2;go_ret;exact⟨rfl,rfl⟩
theorem U7(w:World)(B i:Nat)(st:RS)(V:RV)(kd:Nat)(h:Fj w B i st V)(hb:LZ st)(hn:st.next<=5):
  Calls prog 166 #[Pt i,int i64 kd] w fun e w'=>e=returned (.bool (A2 st kd))/\w'=w:=by
 obtain⟨l,g,m,n,p,q,r,s,t⟩:=h.facts;have k:=Yh (SQ w B i st V kd h hb);have c:=nb kd 1;have d:=nb kd 2;have f:=nb kd 3;clear h hb l m n p q r s t;have a:st.next=0\/st.next=1\/st.next=2\/st.next=3\/st.next=4\/st.next=5:=Yo
 rcases a with a|a|a|a|a|a
 ·rw[a]at g;have b:YH (A2 st kd=(kd==1)):=by show _=_;simp[A2,a]
  rw[b.o];rw[<-c];clear a c d f;go_enter func166,ntmps166;go_wp2;go_ret;exact⟨rfl,rfl⟩
 ·rw[a]at g;have b:YH (A2 st kd=(kd==1)):=by show _=_;simp[A2,a]
  rw[b.o];rw[<-c];clear a c d f;go_enter func166,ntmps166;go_wp2;go_ret;exact⟨rfl,rfl⟩
 ·rw[a]at g;have b:YH (A2 st kd=(kd==1||kd==2)):=by show _=_;simp[A2,a]
  rw[b.o];rw[<-c,<-d];clear a c d f
  cases j:((kd:Int)==(1:Nat))
  all_goals
   have u:((kd:Int)==1)=_:=j;go_enter func166,ntmps166;go_wp2;go_ret;exact⟨rfl,rfl⟩
 ·rw[a]at g;have b:YH (A2 st kd=(kd==3||Bn st kd)):=by show _=_;simp[A2,a]
  rw[b.o];rw[<-f];clear a c d f
  cases j:((kd:Int)==(3:Nat))
  all_goals
   have u:((kd:Int)==3)=_:=j;go_enter func166,ntmps166
   go_wp2_with (go_at_call 198;apply k.o.mono;rintro e w' ⟨rfl,rfl⟩)
   go_ret;exact⟨rfl,rfl⟩
 ·rw[a]at g;have b:YH (A2 st kd=Bn st kd):=by show _=_;simp[A2,a]
  rw[b.o];clear a c d f;go_enter func166,ntmps166
  go_wp2_with (go_at_call 198;apply k.o.mono;rintro e w' ⟨rfl,rfl⟩)
  go_ret;exact⟨rfl,rfl⟩
 ·rw[a]at g;have b:YH (A2 st kd=false):=by show _=_;simp[A2,a]
  rw[b.o];clear a c d f;go_enter func166,ntmps166;go_wp2;go_ret;exact⟨rfl,rfl⟩
theorem Wy(w:World)(B d:Nat)(st:RS)(V:RV)(h:Fj w B d st V)(hb:LZ st)(hn:st.next<=5):
  Calls prog 167 #[Pt d] w fun e w'=>e=returned (.bool (Df st))/\∃n,w'=w.drewN n:=by
 obtain⟨s,c,t,k,u,v,l,x,m⟩:=h.facts;have j:=Yh (Vd w B d st V h hb);obtain⟨aa,p,f⟩:=Ab h.atom;obtain⟨q,r,g⟩:=h.body;obtain⟨ca,y,i⟩:=h.cls;rw[f]at k;rw[g]at l;rw[i]at m;have A:=hb.atom;have C:=hb.body;have D:=hb.cls;clear h hb f g i;have a:st.next=0\/st.next=1\/st.next=2\/(st.next≠0/\st.next≠1/\st.next≠2):=Yo
 rcases a with a|a|a|a
 ·rw[a]at c;have b:YH (Df st=decide (24<=st.clauses.length)):=by show _=_;simp[Df,a]
  clear a;go_enter func167,ntmps167;go_wp2;go_ret;rw[b.o];exact⟨DI (by rw[Bool.eq_iff_iff];simp;try omega),0,rfl⟩
 ·rw[a]at c;have b:YH (Df st=decide (6<=st.body.length)):=by show _=_;simp[Df,a]
  clear a;go_enter func167,ntmps167;go_wp2;go_ret;rw[b.o];exact⟨DI (by rw[Bool.eq_iff_iff];simp;try omega),0,rfl⟩
 ·rw[a]at c
  by_cases z:(30:Int)<=(st.atom.length:Int)
  ·have b:YH (Df st=true):=by show _=_;simp[Df,a];left;omega
   clear a;go_enter func167,ntmps167;go_wp2;go_ret;rw[b.o];exact⟨rfl,0,rfl⟩
  ·have b:YH (Df st=decide (4<=Gn st)):=by show _=_;simp[Df,a];omega
   clear a;go_enter func167,ntmps167
   go_wp2_with (go_at_call 199;apply j.o.mono;rintro e w' ⟨rfl,n,rfl⟩)
   go_ret;rw[b.o];exact⟨DI (by rw[Bool.eq_iff_iff];simp;try omega),_,rfl⟩
 ·have E:((st.next:Int)==0)=false:=by rw[Qu];omega
  have F:((st.next:Int)==1)=false:=by rw[Qu];omega
  have G:((st.next:Int)==2)=false:=by rw[Qu];omega
  have b:YH (Df st=false):=by show _=_;simp[Df,a]
  clear a;go_enter func167,ntmps167;go_wp2;go_ret;rw[b.o];exact⟨rfl,0,rfl⟩
theorem Fj.later{V:RV}(h:Fj w B rb st V)(b:Ad S w w')(c:¬S rb)(d:∀k,V.a.ownBlock=some k->¬S k)(e:∀k,V.o.ownBlock=some k->¬S k):Fj w' B rb st V:=
 ⟨(b.block rb (Ac h.blk) c).trans h.blk,b.owns h.atom d,b.owns h.opn e,h.body,h.cls⟩
theorem UO(w:World)(B g:Nat)(st:RS)(V:RV)(kd p q:Nat)(h:Fj w B g st V)(hb:LZ st)(hn:st.next<=5)(x:p<=q)(y:q<=4096):
  Calls prog 131 #[Pt g,agg #[int i64 kd,int i64 p,int i64 q]] w fun e w'=>e=returned (int i64 (Bg st kd (q-p)))/\Ad A4 w w':=by
 have k:∀o,Fj (w.alloc o) B g st V:=fun o=>h.later (S:=A4) ((Ad.refl _ w).alloc o) (fun h=>h) (fun _ _ h=>h) (fun _ _ h=>h);have d:=Yh (fun o=>U7 (w.alloc o) B g st V kd (k o) hb hn);have r:=Yh (fun o=>Wy (w.alloc o) B g st V (k o) hb hn);have i:=nb kd 1;have j:=nb kd 2;clear h k
 cases f:A2 st kd
 ·have a:YH (Bg st kd (q-p)=2):=by show _=_;simp[Bg,f]
  go_enter func131,ntmps131
  go_wp2_with (go_at_call 166;apply(d.o _).mono;rintro e w' ⟨rfl,rfl⟩)
  go_ret;rw[a.o];exact⟨rfl,(Ad.refl _ w).alloc _⟩
 ·by_cases b:kd=1\/kd=2
  ·have l:((kd:Int)==1)=true\/(((kd:Int)==1)=false/\((kd:Int)==2)=true):=by
    rcases b with rfl|rfl
    ·exact QG rfl
    ·exact QO ⟨rfl,rfl⟩
   by_cases s:8<q-p
   ·have t:(8:Int)<(q:Int)-(p:Int):=Yo
    have a:YH (Bg st kd (q-p)=3):=by show _=_;simp[Bg,f,b,s]
    clear b i j;rcases l with c|⟨c,m⟩
    all_goals
     go_enter func131,ntmps131
     go_wp2_with (go_at_call 166;apply(d.o _).mono;rintro e w' ⟨rfl,rfl⟩)
     go_ret;rw[a.o];exact⟨rfl,(Ad.refl _ w).alloc _⟩
   ·have t:¬(8:Int)<(q:Int)-(p:Int):=Yo
    have v:decide ((8:Int)<(q:Int)-(p:Int))=false:=by simpa using t
    cases u:Df st
    ·have a:YH (Bg st kd (q-p)=0):=by show _=_;simp[Bg,f,s,u]
     clear b i j;rcases l with c|⟨c,m⟩
     all_goals
      go_enter func131,ntmps131
      go_wp2_with (first|(go_at_call 166;apply(d.o _).mono;rintro e w' ⟨rfl,rfl⟩)|(go_at_call 167;apply(r.o _).mono;rintro e w' ⟨rfl,n,rfl⟩))
      go_ret;rw[a.o];exact⟨rfl,((Ad.refl _ w).alloc _).drewN _⟩
    ·have a:YH (Bg st kd (q-p)=3):=by show _=_;simp[Bg,f,b,u]
     clear b i j;rcases l with c|⟨c,m⟩
     all_goals
      go_enter func131,ntmps131
      go_wp2_with (first|(go_at_call 166;apply(d.o _).mono;rintro e w' ⟨rfl,rfl⟩)|(go_at_call 167;apply(r.o _).mono;rintro e w' ⟨rfl,n,rfl⟩))
      go_ret;rw[a.o];exact⟨rfl,((Ad.refl _ w).alloc _).drewN _⟩
  ·have c:((kd:Int)==1)=false:=by rw[Qu];omega
   have m:((kd:Int)==2)=false:=by rw[Qu];omega
   have a:YH (Bg st kd (q-p)=0):=by show _=_;simp[Bg,f,b]
   clear b i j;go_enter func131,ntmps131
   go_wp2_with (go_at_call 166;apply(d.o _).mono;rintro e w' ⟨rfl,rfl⟩)
   go_ret;rw[a.o];exact⟨rfl,(Ad.refl _ w).alloc _⟩
theorem Tk(s:ByteArray)(kd:Int)(p q:Nat)(w:World)(c:p<=q)(d:q<=s.size)(f:s.size<=4096):
  Calls prog 133 #[string s,agg #[int i64 kd,int i64 p,int i64 q]] w fun e w'=>e=returned (string (s.extract p q))/\Ad A4 w w':=by
 have a:decide (((p:Nat):Int)<0)=false:=Ys
 have b:decide ((q:Int)<(p:Int))=false:=by simp;omega
 go_enter func133,ntmps133;go_wp2;go_ret;exact⟨rfl,(Ad.refl _ w).alloc _⟩
theorem infoSym:(prog.info? 133).map (fun i=>(i.zero,i.size,i.bytes))=some (some (agg #[string ⟨#[]⟩,int i64 0,int i64 0]),3,32):=by kernel_rfl
theorem infoSyms:(prog.info? 105).map (fun i=>(i.zero,i.size,i.bytes))=some (some Nl,1,24):=by kernel_rfl
theorem infoCls:(prog.info? 107).map (fun i=>(i.zero,i.size,i.bytes))=some (some (agg #[Nl,Nl,Nl]),3,72):=by kernel_rfl
def DX(w:World)(B Sa:Nat)(v:Value)(l:Ly):Prop:=w.ownsRow B 133 3 v l.length (Aq l)/\∀k,v.ownBlock=some k->k<Sa
def Co(w:World)(B Sa:Nat)(v:Value)(ls:Ll)(vs:Lv):Prop:=
 w.ownsRow B 105 1 v ls.length vs/\∀(i:Nat)(l:Ly),ls[i]?=some l->∃x,vs[i]?=some x/\DX w B Sa x l
def Fh(w:World)(B Sa Sb:Nat)(v:Value)(cs:List CC)(xs:List (Lv)):Prop:=
 w.ownsRow B 107 3 v cs.length xs.flatten/\xs.length=cs.length/\(∀x∈xs,x.length=3)/\
 ∀(i:Nat)(c:CC),cs[i]?=some c->∃hv bv vv vs,xs[i]?=some [hv,bv,vv]/\DX w B Sa hv c.head/\Co w B Sa bv c.body vs/\(∀k,bv.ownBlock=some k->k<Sb)/\w.ownsRow B 9 1 vv c.names.length (Ba c.names)/\∀k,vv.ownBlock=some k->k<Sb
structure Yn(w:World)(B:Nat)(st:RS)(V:RV)(Sa Sb:Nat)(vs:List Value)(xs:List (List Value)):Prop where
 atom:w.ownsRow B 133 3 V.a st.atom.length (Aq st.atom)
 opn:w.ownsRow B 3 1 V.o st.opn.length (AM st.opn.reverse)
 vars:w.ownsRow B 9 1 V.v st.vars.length (Ba st.vars)
 head:DX w B Sa V.h st.head
 body:Co w B Sa V.b st.body vs
 cls:Fh w B Sa Sb V.c st.clauses xs
 ta:∀k,V.a.ownBlock=some k->Sa<=k
 tb:∀k,V.b.ownBlock=some k->Sb<=k
 tv:∀k,V.v.ownBlock=some k->Sb<=k
 la:Sa<=w.heap.size
 lb:Sb<=w.heap.size
structure He(w:World)(B rb:Nat)(st:RS)(V:RV)(Sa Sb:Nat)(vs:List Value)(xs:List (List Value)):Prop where
 blk:w.heap[rb]?=some (.cells (Cm st V) 169 (0,0))
 rest:Yn w B st V Sa Sb vs xs
 le:B<=rb
theorem He.opens{V:RV}{a b:Nat}{xs:List (Lv)}(h:He w B rb st V a b vs xs):Fj w B rb st V:=by
 obtain⟨c,d,hb⟩:=Ab h.rest.body.1;obtain⟨ca,cc,e⟩:=Ab h.rest.cls.1;exact⟨h.blk,h.rest.atom,h.rest.opn,⟨c,d,hb⟩,⟨ca,cc,e⟩⟩
def CY(rb:Nat)(X:Value):Nat->Prop:=fun k=>k=rb\/Ak X k
section
variable {w w':World} {B rb:Nat} {st:RS} {V:RV} {Sa Sb:Nat} {vs:List Value} {xs:List (List Value)} {X:Value}
theorem BB{c:Nat}{d:TypeId}{s p n o:Nat}{q:Lv}{cs:Av}{fr:Nat×Nat}(a:w.ownsRow c e s v n ys)(m:Ad (CY rb X) w w')(j:w.heap[rb]?=some (.cells cs 169 fr))
  (i:w.ownsRow B d p X o q) (g:e≠169) (h:e≠d):w'.ownsRow c e s v n ys:=
 m.owns a (fun k f b=>by
  rcases b with rfl|b
  ·exact Ai a g j f
  ·obtain⟨r,l⟩:=Ay i k b;exact Ai a h l f)
theorem D0{c:TypeId}{j i:Nat}{m:Lv}{cs:Av}{fr:Nat×Nat}(h:DX w B Sa v l)(e:Ad (CY rb X) w w')(d:w.heap[rb]?=some (.cells cs 169 fr))
  (g:w.ownsRow B c j X i m) (a:133≠c\/∀k,X.ownBlock=some k->Sa<=k):DX w' B Sa v l:=by
 refine⟨?_,h.2⟩;rcases a with a|a
 ·exact BB h.1 e d g Yd a
 ·exact e.owns h.1 (fun k f b=>by
   rcases b with rfl|b
   ·exact Ai h.1 Yd d f
   ·have n:=h.2 k f;have o:=a k b;omega)
theorem Ej{j:Lv}{c:TypeId}{p o:Nat}{q:Lv}{cs:Av}{fr:Nat×Nat}(h:Co w B Sa v ls j)(e:Ad (CY rb X) w w')(d:w.heap[rb]?=some (.cells cs 169 fr))
  (f:w.ownsRow B c p X o q) (m:133≠c\/∀k,X.ownBlock=some k->Sa<=k) (a:105≠c\/∀k,v.ownBlock=some k->¬Ak X k):Co w' B Sa v ls j:=by
 refine⟨?_,fun i l hl=> ?_⟩
 ·rcases a with a|a
  ·exact BB h.1 e d f Yd a
  ·exact e.owns h.1 (fun k g b=>by
    rcases b with rfl|b
    ·exact Ai h.1 Yd d g
    ·exact a k g b)
 ·obtain⟨x,n,b⟩:=h.2 i l hl;exact⟨x,n,D0 b e d f m⟩
theorem Gt{cs:List CC}{p:List (Lv)}{d:TypeId}{A z:Nat}{E:Lv}{cl:Av}{fr:Nat×Nat}(h:Fh w B Sa Sb v cs p)(m:Ad (CY rb X) w w')(l:w.heap[rb]?=some (.cells cl 169 fr))
  (j:w.ownsRow B d A X z E) (o:133≠d\/∀k,X.ownBlock=some k->Sa<=k) (e:105≠d\/∀k,X.ownBlock=some k->Sb<=k) (y:107≠d) (f:9≠d\/∀k,X.ownBlock=some k->Sb<=k):Fh w' B Sa Sb v cs p:=by
 refine⟨BB h.1 m l j Yd y,h.2.1,h.2.2.1,fun i c n=> ?_⟩;obtain⟨g,s,D,C,t,u,x,a⟩:=h.2.2.2 i c n;refine⟨g,s,D,C,t,D0 u m l j o,Ej x m l j o ?_,a.1,m.owns a.2.1 (fun k g b=> ?_),a.2.2⟩
 rotate_left
 ·rcases b with rfl|b
  ·exact Ai a.2.1 Yd l g
  ·rcases f with f|f
   ·obtain⟨F,n⟩:=Ay j k b;exact Ai a.2.1 f n g
   ·have q:=a.2.2 k g;have r:=f k b;omega
 rcases e with e|e
 ·exact QG e
 ·exact QO (fun k hb b=>by
   have q:=a.1 k hb;have r:=e k b;omega)
end
structure Dh(B:Nat)(w w':World):Prop where
 below:Below B w w'
 other:∀(k:Nat)(cs:Array Value)(T:TypeId)(fr:Nat×Nat),w.heap[k]?=some (.cells cs T fr)->(T=224\/T=91)->w'.heap[k]?=w.heap[k]?
theorem Dh.refl(B:Nat)(w:World):Dh B w w:=⟨Jc _ _,fun _ _ _ _ _ _=>rfl⟩
theorem Dh.trans{a b c:World}(h:Dh B a b)(k:Dh B b c):Dh B a c:=
 ⟨h.below.trans k.below,fun i cs T fr hb d=>(k.other i cs T fr ((h.other i cs T fr hb d).trans hb) d).trans (h.other i cs T fr hb d)⟩
theorem Dh.drew{a:World}(h:Dh B a w):Dh B a w.drew:=⟨h.below.drew,h.other⟩
theorem Dh.fresh(h:Ad A4 w w')(a:B<=w.heap.size):Dh B w w':=⟨h.below a (fun _ h=>h.elim),fun k _ _ _ hb _=>h.block k (Ac hb) (fun h=>h)⟩
section
variable {w w':World} {B rb:Nat} {st:RS} {V:RV} {Sa Sb:Nat} {vs:List Value} {xs:List (List Value)}
theorem He.below(h:He w B rb st V Sa Sb vs xs){X:Value}{d:TypeId}{m l:Nat}{n:Lv}(j:Ad (CY rb X) w w')(g:w.ownsRow B d m X l n)(i:d≠224/\d≠91):Dh B w w':=
 ⟨j.below (JW (Nat.lt_of_le_of_lt h.le (Ac h.blk))) (fun k a=>by
  rcases a with rfl|a
  ·exact h.le
  ·exact(g.lt k a).1),fun k cs T fr hb f=>by
  refine j.block k (Ac hb) (fun a=> ?_);rcases a with rfl|a
  ·have e:=h.blk;rw[hb]at e;simp only[Qo,Obj.cells.injEq]at e;rcases f with b|b<;>exact absurd (e.2.1.symm.trans b) Yd
  ·obtain⟨o,c⟩:=Ay g k a;rw[hb]at c;simp only[Qo,Obj.cells.injEq]at c;rcases f with b|b
   ·exact i.1 (c.2.1.symm.trans b)
   ·exact i.2 (c.2.1.symm.trans b)⟩
theorem He.only(h:He w B rb st V Sa Sb vs xs)(a:Ad (CY rb Nl) w w')(b:RS)(k:w'.heap[rb]?=some (.cells (Cm b V) 169 (0,0)))
  (d:b.atom=st.atom) (e:b.opn=st.opn) (f:b.vars=st.vars) (g:b.head=st.head) (i:b.body=st.body) (j:b.clauses=st.clauses):He w' B rb b V Sa Sb vs xs:=by
 have c:w.ownsRow B 169 1 Nl 0 []:=Q2 _ _ _ _;have r:=h.rest;refine⟨k,⟨?_,?_,?_,?_,?_,?_,r.ta,r.tb,r.tv,Qq r.la a.size,Qq r.lb a.size⟩,h.le⟩
 ·rw[d];exact BB r.atom a h.blk c Yd Yd
 ·rw[e];exact BB r.opn a h.blk c Yd Yd
 ·rw[f];exact BB r.vars a h.blk c Yd Yd
 ·rw[g];exact D0 r.head a h.blk c (QG Yd)
 ·rw[i];exact Ej r.body a h.blk c (QG Yd) (QG Yd)
 ·rw[j];exact Gt r.cls a h.blk c (QG Yd) (QG Yd) Yd (QG Yd)
theorem He.opened(h:He w B rb st V Sa Sb vs xs)(a:Ad (CY rb V.o) w w')(l:List Nat)(b:Value)(c:w'.heap[rb]?=some (.cells (Cm {st with opn:=l} {V with o:=b}) 169 (0,0)))
  (d:w'.ownsRow B 3 1 b l.length (AM l.reverse)):He w' B rb {st with opn:=l} {V with o:=b} Sa Sb vs xs:=by
 have r:=h.rest;exact⟨c,⟨BB r.atom a h.blk r.opn Yd Yd,d,BB r.vars a h.blk r.opn Yd Yd,D0 r.head a h.blk r.opn (QG Yd),
  Ej r.body a h.blk r.opn (QG Yd) (QG Yd),Gt r.cls a h.blk r.opn (QG Yd) (QG Yd) Yd (QG Yd),r.ta,r.tb,r.tv,Qq r.la a.size,Qq r.lb a.size⟩,h.le⟩
theorem He.named(h:He w B rb st V Sa Sb vs xs)(a:Ad (CY rb V.v) w w')(l:At)(b:Value)(c:w'.heap[rb]?=some (.cells (Cm {st with vars:=l} {V with v:=b}) 169 (0,0)))
  (d:w'.ownsRow B 9 1 b l.length (Ba l)) (e:∀k,b.ownBlock=some k->Sb<=k):He w' B rb {st with vars:=l} {V with v:=b} Sa Sb vs xs:=by
 have r:=h.rest;exact⟨c,⟨BB r.atom a h.blk r.vars Yd Yd,BB r.opn a h.blk r.vars Yd Yd,d,D0 r.head a h.blk r.vars (QG Yd),
  Ej r.body a h.blk r.vars (QG Yd) (QG Yd),Gt r.cls a h.blk r.vars (QG Yd) (QG Yd) Yd (QO r.tv),r.ta,r.tb,e,Qq r.la a.size,Qq r.lb a.size⟩,h.le⟩
theorem He.atoms(h:He w B rb st V Sa Sb vs xs)(b:Ad (CY rb V.a) w w')(l:Ly)(c:Value)(d:w'.heap[rb]?=some (.cells (Cm {st with atom:=l} {V with a:=c}) 169 (0,0)))
  (e:w'.ownsRow B 133 3 c l.length (Aq l)) (f:∀k,c.ownBlock=some k->Sa<=k):He w' B rb {st with atom:=l} {V with a:=c} Sa Sb vs xs:=by
 have r:=h.rest;exact⟨d,⟨e,BB r.opn b h.blk r.atom Yd Yd,BB r.vars b h.blk r.atom Yd Yd,D0 r.head b h.blk r.atom (QO r.ta),
  Ej r.body b h.blk r.atom (QO r.ta) (QG Yd),Gt r.cls b h.blk r.atom (QO r.ta) (QG Yd) Yd (QG Yd),f,r.tb,r.tv,Qq r.la b.size,Qq r.lb b.size⟩,h.le⟩
theorem DX.more{S':Nat}(h:DX w B Sa v l)(a:Sa<=S'):DX w B S' v l:=⟨h.1,fun k b=>JM (h.2 k b) a⟩
theorem Co.more{a:Lv}{S':Nat}(h:Co w B Sa v ls a)(d:Sa<=S'):Co w B S' v ls a:=
 ⟨h.1,fun i l hl=>by obtain⟨x,b,c⟩:=h.2 i l hl;exact⟨x,b,c.more d⟩⟩
theorem Fh.more{cs:List CC}{g:List (Lv)}{S' d:Nat}(h:Fh w B Sa Sb v cs g)(e:Sa<=S')(f:Sb<=d):Fh w B S' d v cs g:=
 ⟨h.1,h.2.1,h.2.2.1,fun i c o=>by
  obtain⟨p,j,r,q,l,m,n,a⟩:=h.2.2.2 i c o;exact⟨p,j,r,q,l,m.more e,n.more e,fun k b=>JM (a.1 k b) f,a.2.1,fun k b=>JM (a.2.2 k b) f⟩⟩
theorem He.headed(h:He w B rb st V Sa Sb vs xs)(b:Ad (CY rb Nl) w w')(f:w'.heap[rb]?=some (.cells (Cm {st with head:=st.atom,atom:=[]} {V with h:=V.a,a:=Nl}) 169 (0,0))):
  He w' B rb {st with head:=st.atom,atom:=[]} {V with h:=V.a,a:=Nl} w'.heap.size Sb vs xs:=by
 have c:w.ownsRow B 169 1 Nl 0 []:=Q2 _ _ _ _;have r:=h.rest;have d:Sa<=w'.heap.size:=Qq r.la b.size;have ha:=BB r.atom b h.blk c Yd Yd;exact⟨f,⟨Q2 _ _ _ _,BB r.opn b h.blk c Yd Yd,BB r.vars b h.blk c Yd Yd,⟨ha,fun k e=>(ha.lt k e).2⟩,
  (Ej r.body b h.blk c (QG Yd) (QG Yd)).more d,(Gt r.cls b h.blk c (QG Yd) (QG Yd) Yd (QG Yd)).more d (Qe _),fun k e=>by simp[Value.ownBlock]at e,r.tb,r.tv,Qe _,Qq r.lb b.size⟩,h.le⟩
theorem He.bodied(h:He w B rb st V Sa Sb vs xs)(c:Ad (CY rb V.b) w w')(d:Value)(m:w'.heap[rb]?=some (.cells (Cm {st with body:=st.body++[st.atom],atom:=[]} {V with b:=d,a:=Nl}) 169 (0,0)))
  (o:w'.ownsRow B 105 1 d (st.body.length+1) (vs++[V.a])) (p:∀k,d.ownBlock=some k->Sb<=k):
  He w' B rb {st with body:=st.body++[st.atom],atom:=[]} {V with b:=d,a:=Nl} w'.heap.size Sb (vs++[V.a]) xs:=by
 have r:=h.rest;have f:Sa<=w'.heap.size:=Qq r.la c.size;have ha:=BB r.atom c h.blk r.body.1 Yd Yd;have q:vs.length=st.body.length:=by have:=r.body.1.1;omega
 refine⟨m,⟨Q2 _ _ _ _,BB r.opn c h.blk r.body.1 Yd Yd,BB r.vars c h.blk r.body.1 Yd Yd,(D0 r.head c h.blk r.body.1 (QG Yd)).more f,?_,
  (Gt r.cls c h.blk r.body.1 (QG Yd) (QO r.tb) Yd (QG Yd)).more f (Qe _),fun k e=>by simp[Value.ownBlock]at e,p,r.tv,Qe _,Qq r.lb c.size⟩,h.le⟩
 refine⟨by simpa using o,fun i l hl=> ?_⟩;rcases QB i st.body.length with hi|hi
 ·simp only at hl;rw[Qc hi]at hl;obtain⟨x,g,j⟩:=r.body.2 i l hl;exact⟨x,by rw[Qc Yo];exact g,(D0 j c h.blk r.body.1 (QG Yd)).more f⟩
 ·have n:i=st.body.length:=by
   have:i<(st.body++[st.atom]).length:=(Qa.1 hl).1;simp at this;omega
  subst n;simp at hl;subst hl;exact⟨V.a,by rw[<-q];simp,ha,fun k e=>(ha.lt k e).2⟩
theorem He.clausd(h:He w B rb st V Sa Sb vs xs)(a:Ad (CY rb V.c) w w')(j:Value)(d:RS)(F:w'.heap[rb]?=some (.cells (Cm d {V with c:=j,h:=Nl,b:=Nl,v:=Nl}) 169 (0,0)))
  (H:w'.ownsRow B 107 3 j (st.clauses.length+1) (xs.flatten++[V.h,V.b,V.v]))
  (y:d.atom=st.atom) (z:d.opn=st.opn) (A:d.vars=[]) (C:d.head=[]) (D:d.body=[]) (E:d.clauses=st.clauses++[⟨st.head,st.body,st.vars⟩]):
  He w' B rb d {V with c:=j,h:=Nl,b:=Nl,v:=Nl} Sa w'.heap.size [] (xs++[[V.h,V.b,V.v]]):=by
 have r:=h.rest;have o:Sb<=w'.heap.size:=Qq r.lb a.size;have n:=Ej r.body a h.blk r.cls.1 (QG Yd) (QG Yd);have p:=BB r.vars a h.blk r.cls.1 Yd Yd;refine⟨F,⟨?_,?_,?_,?_,?_,?_,r.ta,fun k e=>by simp[Value.ownBlock]at e,fun k e=>by simp[Value.ownBlock]at e,Qq r.la a.size,Qe _⟩,h.le⟩
 ·rw[y];exact BB r.atom a h.blk r.cls.1 Yd Yd
 ·rw[z];exact BB r.opn a h.blk r.cls.1 Yd Yd
 ·rw[A];exact Q2 _ _ _ _
 ·rw[C];exact⟨Q2 _ _ _ _,fun k e=>by simp[Value.ownBlock]at e⟩
 ·rw[D];exact⟨Q2 _ _ _ _,fun i l hl=>by simp at hl⟩
 ·rw[E];refine⟨by simpa using H,by simp[r.cls.2.1],?_,fun i c f=> ?_⟩
  ·intro x g;simp at g;rcases g with g|rfl
   ·exact r.cls.2.2.1 x g
   ·rfl
  ·rcases QB i st.clauses.length with hi|hi
   ·rw[Qc hi]at f;obtain⟨I,q,K,J,s,t,u,m⟩:=r.cls.2.2.2 i c f;exact⟨I,q,K,J,by rw[Qc (by rw[r.cls.2.1];exact hi)];exact s,D0 t a h.blk r.cls.1 (QG Yd),Ej u a h.blk r.cls.1 (QG Yd) (QG Yd),fun k e=>JM (m.1 k e) o,BB m.2.1 a h.blk r.cls.1 Yd Yd,fun k e=>JM (m.2.2 k e) o⟩
   ·have G:i=st.clauses.length:=by
     have:i<(st.clauses++[(⟨st.head,st.body,st.vars⟩:CC)]).length:=(Qa.1 f).1;simp at this;omega
    subst G;simp at f;subst f;exact⟨V.h,V.b,V.v,vs,by rw[<-r.cls.2.1];simp,D0 r.head a h.blk r.cls.1 (QG Yd),n,fun k e=>(n.1.lt k e).2,p,fun k e=>(p.lt k e).2⟩
end
def BZ(w:World)(B rb:Nat)(st:RS):Prop:=∃V Sa Sb vs xs,He w B rb st V Sa Sb vs xs
theorem Fs{X:Value}(h:Ad (Ak X) w w1)(i:Nat)(u:Value):Ad (CY rb X) w (w1.setCell ⟨rb,i,none⟩ u):=
 Ad.setCell (S:=CY rb X) (h.mono (fun _ _ e=>QO e)) (p:=⟨rb,i,none⟩) (fun _=>QG rfl) u
theorem CQ{X:Value}(h:Ad (CY rb X) w w1)(i:Nat)(u:Value):Ad (CY rb X) w (w1.setCell ⟨rb,i,none⟩ u):=
 Ad.setCell (S:=CY rb X) h (p:=⟨rb,i,none⟩) (fun _=>QG rfl) u
def F4(st:RS):RS:={st with opn:=st.opn.tail}
theorem Ux(w:World)(B c:Nat)(st:RS)(h:BZ w B c st)(hl:st.opn.length<=4096):
  Calls prog 170 #[Pt c] w fun e w'=>e=Rq #[]/\BZ w' B c (F4 st)/\Dh B w w':=by
 obtain⟨V,s,t,vs,xs,h⟩:=h;obtain⟨I,J,K,L,m,M,N,O,P⟩:=h.opens.facts;have T:=fun i=>Ag h.blk i;obtain⟨W,l,f⟩:=Ab h.rest.opn
 cases b:st.opn with
 |nil=>
  rw[f]at m;simp only[b,Qt]at m;have A:YH (F4 st=st):=by
   show _=_
   cases st
   simp only at b;subst b;rfl
  have d:=Yh h;clear h f b;go_enter func170,ntmps170;go_wp2;go_end0;rw[A.o];exact⟨rfl,⟨V,s,t,vs,xs,d.o⟩,Dh.refl _ _⟩
 |cons n r=>
  have U:r.length+1<=4096:=by rw[b]at hl;simpa using hl
  have j:=h.rest.opn;rw[b,f,b]at j;obtain⟨g,Q,R,u,S,F,E⟩:=An j Ys;simp only[QH]at u;obtain⟨rfl,_,rfl⟩:=u;rw[f]at m;simp only[b,Qf]at m E j;have y:=I6 (n:=r.length) j;have H:V.o=slice (some ⟨g,0,none⟩) (r.length+1) l:=by rw[f,b];rfl
  have d:=Yh h;have C:=Yh b;have z:=Yh y;clear h f b j F y H;go_enter func170,ntmps170;go_wp2_with fail;go_region;go_end0;have v:Ad (CY c V.o) w (w.setCell ⟨c,4,none⟩ (slice (some ⟨g,0,none⟩) r.length l)):=(Ad.refl _ w).setCell (p:=⟨c,4,none⟩) (fun _=>QG rfl) _;have G:(w.setCell ⟨c,4,none⟩ (slice (some ⟨g,0,none⟩) r.length l)).ownsRow B 3 1 (slice (some ⟨g,0,none⟩) r.length l) r.length (AM r.reverse):=by
   have e:(AM (n::r).reverse).take r.length=AM r.reverse:=by simp[AM]
   have q:=z.o;rw[e]at q;exact((Ad.refl (only c) w).put 4 _).owns q (fun k x e=>by
    have e:k=c:=e;rw[e]at x;exact Ai q Yd d.o.blk x)
  have a:=d.o.opened v r (slice (some ⟨g,0,none⟩) r.length l) (Ae d.o.blk 4 _) G;have D:F4 st={st with opn:=r}:=by simp[F4,C.o]
  rw[D];refine⟨rfl,⟨_,s,t,vs,xs,⟨a.blk,⟨a.rest.atom,a.rest.opn,a.rest.vars,a.rest.head,a.rest.body,a.rest.cls,a.rest.ta,a.rest.tb,a.rest.tv,a.rest.la,a.rest.lb⟩,a.le⟩⟩,?_⟩;exact(d.o.below v d.o.rest.opn Yd).drew
def My(st:RS)(t:Lu):RS:={st with vars:=(A8 st.vars t).1}
theorem N4(w:World)(B a:Nat)(st:RS)(t:Lu)(h:BZ w B a st)(hl:st.vars.length<=4096):
  Calls prog 169 #[Pt a,string ⟨t.toArray⟩] w fun e w'=>e=returned (int i64 (A8 st.vars t).2)/\BZ w' B a (My st t)/\Dh B w w':=by
 obtain⟨V,D,E,vs,xs,h⟩:=h;obtain⟨M,N,O,P,Q,R,S,F,T⟩:=h.opens.facts;have ac:=Ac h.blk;obtain⟨va,ae,y⟩:=Ab h.rest.vars;have u:=h.rest.vars;rw[y]at F u;have b:=Yh h;have f:=Yh u;have q:=Yh y;have Y:B<=w.heap.size:=by have:=h.le;omega
 clear h u y;go_enter func169,ntmps169;go_wp2
 go_loop [13] (fun i=>∃k:Nat,k<=st.vars.length/\i=int i64 k/\t∉st.vars.take k) (fun i=>st.vars.length-(intOf i).toNat)
 case atStart=>exact⟨0,Qm _,rfl,Ys⟩
 case round=>
  obtain⟨k,r,rfl,K⟩:=hrel;have p:=Yh K;clear K
  by_cases m:k<st.vars.length
  ·obtain⟨g,af,ag,H,ai,I,ak⟩:=An f.o Yo;simp only[QH]at H;obtain⟨rfl,_,rfl⟩:=H;obtain⟨nm,s⟩:=Ex (st.vars[k]);have aj:w.cell? ⟨g,k,none⟩=some (string ⟨nm.toArray⟩):=Af f.o k _ (by simp[Ba,m,s]);have C:=Yh s;clear I s;go_wp2
   ·have x:nm=t:=eq_of_beq (by assumption);go_ret;have ab:=IE m (C.o.symm.trans x) p.o;rw[My,ab];exact⟨rfl,⟨V,D,E,vs,xs,b.o⟩,Dh.refl _ _⟩
   ·have x:nm≠t:=ne_of_beq_false (by assumption)
    go_round
    case rel=>exact⟨k+1,Yo,Yg,WE m (fun h=>x (C.o.trans h)) p.o⟩
    case measure=>simp[intOf];omega
  ·have L:=Yh (Ii m p.o)
   go_wp2_with (at_builtin;refine Al _ rfl (.tmp 28) (.tmp 30) 47 rfl B 9 infoStr underlying47 rfl Yd _ st.vars.length (Ba st.vars) rfl f.o _ rfl rfl rfl (OJ _) ?_ Y ?_)
   ·omega
   intro al w1 j;obtain⟨c,d,rfl⟩:=Ab j.owns;have aa:¬Ak (slice va st.vars.length ae) a:=Ai f.o Yd b.o.blk;have l:=(j.kept.block a ac aa).trans b.o.blk;have U:w1.cell? ⟨a,7,none⟩=some V.v:=Aa l 7 _ rfl;rw[q.o]at U;have ah:=fun i=>Ag l i;have n:=Yh j;have A:=Yh l;clear j l M N O P Q R S F T;go_wp2;go_ret;have r:Ad (CY a V.v) w (w1.setCell ⟨a,7,none⟩ (slice c (st.vars.length+1) d)):=by
    rw[q.o];exact Fs n.o.kept 7 _
   have ad:(w1.setCell ⟨a,7,none⟩ (slice c (st.vars.length+1) d)).ownsRow B 9 1 (slice c (st.vars.length+1) d) (st.vars++[t]).length (Ba (st.vars++[t])):=by
    have G:=n.o.owns;have X:=((Ad.refl (only a) w1).put 7 (slice c (st.vars.length+1) d)).owns G (fun k J e=>by
     have e:k=a:=e;rw[e]at J;exact Ai G Yd A.o J)
    simpa[Ba]using X
   have Z:=b.o.named r (st.vars++[t]) (slice c (st.vars.length+1) d) (Ae A.o 7 _) ad (fun k e=>by
    rcases n.o.where_ with z|⟨g,z,I⟩
    ·exact b.o.rest.tv k (by rw[q.o];exact z.symm.trans e)
    ·have W:=z.symm.trans e;simp only[Qo]at W;have:=b.o.rest.lb;omega)
   rw[My,L.o];refine⟨FP ?_,⟨_,D,E,vs,xs,Z⟩,b.o.below r b.o.rest.vars Yd⟩;omega
theorem BA{ops:Array Oper}{o:Oper}{a:Act}{c:Act->World->Prop}{l:Exit->Act->World->Prop}{k:Prop}{d:World}(w:World)(z:o.guard=none)(s x:Operand)(t:TypeId)
  (B:o.op= .call {callee:= .builtin .append,args:=#[s,x],argTypes:=#[t,t]})
  (base:Nat) (e:TypeId) {j:Value} {size f:Nat}
  (A:(P.info? e).map (fun i=>(i.zero,i.size,i.bytes))=some (some j,size,f)) (F:P.underlying t=some (.slice e)) (I:j.cells.size=size) (E:0<size)
  (v:Value) (n:Nat) (xs:Lv) (D:a.eval s=v) (C:w.ownsRow base e size v n xs)
  (b:Av) {N:Nat} (H:a.eval x=slice (some ⟨N,0,none⟩) 1 1) (p:N=w.heap.size) (hl:b.size=size) (m:∀u∈b.toList,u.oneCell'=true)
  (y:(n+1)*(f+1)<=140737488355328) (r:base<=w.heap.size) (q:d=w.alloc (.cells b e))
  (h:∀g w',Ar w base e size v (n+1) (xs++b.toList) g w'->c (a.put o.dst g) w'):if Region.wanted o (yielded ops a.tmps)=true then Oper.wp P o a d c l else k:=by
 have G:Region.wanted o (yielded ops a.tmps)=true:=by simp[Region.wanted,z]
 rw[QQ G,q];exact LN w s x t B base e A F I E v n xs D C b H p hl m y r h
theorem M1{o:Obj}{n:Nat}{X:Value}{cs:Av}{T:TypeId}(h:Ad (Ak X) ((w.alloc o).drewN n) w1)(hb:w.heap[rb]?=some (.cells cs T (0,0)))(a:¬Ak X rb):w1.heap[rb]?=some (.cells cs T (0,0)):=
 (h.block rb (by have:=Ac hb;show rb<(w.alloc o).heap.size;simp;omega) a).trans (Ah hb o)
def Bq(st:RS):Ly:=match st.opn with
 |[]=>st.atom
 |n::_=>st.atom.modify n (fun s=>{s with args:=s.args+1})
def Fn(st:RS)(s:BJ):RS:={st with atom:=Bq st++[s]}
theorem Fq(x:ByteArray)(y b:Int):∀u∈(#[Value.string x,int i64 y,int i64 b]:Av).toList,u.oneCell'=true:=by
 intro u a;simp at a;rcases a with rfl|rfl|rfl<;>rfl
theorem Wa{nd:Nat}{V:RV}{j l:Nat}{xs:List (Lv)}{s:BJ}{o:Obj}{b:Oa}{c:Nat}(d:He w B rb st V j l vs xs)
  (h:Ar ((w.alloc o).drewN nd) B 133 3 V.a (st.atom.length+1) (Aq st.atom++[string ⟨s.name.toArray⟩,int i64 s.num,int i64 s.args]) (slice b (st.atom.length+1) c) w1):
  He (w1.setCell ⟨rb,3,none⟩ (slice b (st.atom.length+1) c)) B rb {st with atom:=st.atom++[s]} {V with a:=slice b (st.atom.length+1) c} j l vs xs/\Dh B w (w1.setCell ⟨rb,3,none⟩ (slice b (st.atom.length+1) c)):=by
 have n:=d.rest.atom;have p:=M1 h.kept d.blk (Ai n Yd d.blk);have f:Ad (CY rb V.a) w (w1.setCell ⟨rb,3,none⟩ (slice b (st.atom.length+1) c)):=Fs ((((Ad.refl _ w).alloc _).drewN _).trans h.kept) 3 _;have u:(w1.setCell ⟨rb,3,none⟩ (slice b (st.atom.length+1) c)).ownsRow B 133 3 (slice b (st.atom.length+1) c) (st.atom++[s]).length (Aq (st.atom++[s])):=by
  have m:=h.owns;have r:=((Ad.refl (only rb) w1).put 3 (slice b (st.atom.length+1) c)).owns m (fun k q e=>by
   have e:k=rb:=e;rw[e]at q;exact Ai m Yd p q)
  simpa[Aq,Bw]using r
 have v:∀k,(Value.slice b (st.atom.length+1) c).ownBlock=some k->j<=k:=by
  intro k f;rcases h.where_ with i|⟨g,i,t⟩
  ·exact d.rest.ta k (by rw[<-i];exact f)
  ·rw[f]at i;simp at i;have:=d.rest.la;have x:w.heap.size+1<=g:=by simpa using t
   omega
 exact⟨d.atoms f (st.atom++[s]) (slice b (st.atom.length+1) c) (Ae p 3 _) u v,d.below f n Yd⟩
theorem BY{g n:Nat}(h:w.ownsRow B e size (slice (some ⟨g,0,none⟩) n cap) n xs)(i:Nat)(u:Value):
  (w.setCell ⟨g,i,none⟩ u).ownsRow B e size (slice (some ⟨g,0,none⟩) n cap) n (xs.set i u):=by
 refine⟨by simpa using h.1,?_⟩;rcases h.2 with⟨a,_⟩|⟨l,k,b,a,hb,d,hn,c,f,j⟩
 ·simp at a
 ·simp at a;obtain⟨rfl,rfl⟩:=a;refine .inr ⟨g,cap,b.setIfInBounds i u,rfl,hb,Ae d i u,hn,c,by simpa using f,?_⟩;rw[<-j];simp[List.take_set]
theorem Uu(l:Ly)(n:Nat)(s:BJ)(h:l[n]?=some s):Aq (l.modify n (fun s=>{s with args:=s.args+1}))=(Aq l).set (n*3+2) (int i64 ((s.args:Int)+1)):=by
 induction l generalizing n with
 |nil=>simp at h
 |cons a l b=>
  cases n with
  |zero=>
   simp at h;subst h;simp[Aq,Bw,List.modify]
  |succ n=>
   have:=b n (by simpa using h);simp only[List.modify_succ_cons];show Bw a++Aq _=(Bw a++Aq l).set _ _;rw[this,List.set_append_right _ _ (by simp[Bw];omega)]
   congr 2
   simp[Bw];omega
theorem W6(w:World)(B c:Nat)(st:RS)(s:BJ)(h:BZ w B c st)(hb:LZ st)(k:st.opn=[]):
  Calls prog 168 #[Pt c,agg #[string ⟨s.name.toArray⟩,int i64 s.num,int i64 s.args]] w fun e w'=>e=Rq #[]/\BZ w' B c (Fn st s)/\Dh B w w':=by
 obtain⟨V,v,x,vs,xs,h⟩:=h;have R:=Ac h.blk;have P:B<=w.heap.size:=by have:=h.le;omega
 obtain⟨aa,y,d⟩:=Ab h.rest.atom;have g:=h.rest.atom;rw[d]at g;have Q:=hb.atom;have l:∀o,Fj (w.alloc o) B c st V:=fun o=>h.opens.later (S:=A4) ((Ad.refl _ w).alloc o) (fun h=>h) (fun _ _ h=>h) (fun _ _ h=>h);have p:=Yh (fun o=>Jq (w.alloc o) B c st V (l o) hb.opn hb.atom);have n:DZ st= -1:=by simp[DZ,k]
 have t:=Yh n;obtain⟨F,G,H,z,I,J,K,L,M⟩:=h.opens.facts;rw[d]at z;have f:=Yh h;have m:=Yh g;have u:=Yh d;have q:YH (Fn st s={st with atom:=st.atom++[s]}):=by show _=_;simp[Fn,Bq,k]
 clear h g d l k n;go_enter func168,ntmps168;go_wp2_with fail;apply(p.o _).mono;rintro e w1 ⟨rfl,nd,rfl⟩;rw[t.o];go_wp2_with fail
 go_region_law (refine BA ((w.alloc (.cells #[string ⟨s.name.toArray⟩,int i64 s.num,int i64 s.args] 133)).drewN (nd+1)) rfl (.tmp 24) (.tmp 26) 105 rfl B 133 infoSym underlying105 rfl Yd (slice aa st.atom.length y) st.atom.length (Aq st.atom) rfl (m.o.alloc _) #[string ⟨s.name.toArray⟩,int i64 s.num,int i64 s.args] rfl Ys rfl (Fq _ _ _) Yo Yp rfl ?_;intro T w1 b;obtain⟨D,E,rfl⟩:=Ab b.owns;have j:=M1 b.kept f.o.blk (Ai m.o Yd f.o.blk);have N:w1.cell? ⟨c,3,none⟩=some V.a:=Aa j 3 _ rfl;have O:=fun i=>Ag j i;have r:=Yh b;clear b j)
 all_goals
  go_end0;rw[q.o];have b:=r.o;rw[<-u.o]at b;obtain⟨C,A⟩:=Wa f.o b;exact⟨rfl,⟨_,v,x,vs,xs,C⟩,A⟩
theorem He.fresh{V:RV}{a b:Nat}{xs:List (Lv)}(h:He w B rb st V a b vs xs)(c:Ad A4 w w'):He w' B rb st V a b vs xs:=
 h.only (c.mono (fun _ _ h=>h.elim)) st ((c.block rb (Ac h.blk) (fun h=>h)).trans h.blk) rfl rfl rfl rfl rfl rfl
theorem He.counted{V:RV}{d f:Nat}{xs:List (Lv)}{n g l:Nat}{r:List Nat}{so:BJ}(h:He w B rb st V d f vs xs)(j:st.opn=n::r)(u:st.atom[n]?=some so)
  (c:V.a=slice (some ⟨g,0,none⟩) st.atom.length l):He (w.setCell ⟨g,n*3+2,none⟩ (int i64 ((so.args:Int)+1))) B rb {st with atom:=Bq st} V d f vs xs/\Dh B w (w.setCell ⟨g,n*3+2,none⟩ (int i64 ((so.args:Int)+1))):=by
 have b:=h.rest.atom;rw[c]at b;have t:¬rb=g:=fun e=>by subst e;exact Ai b Yd h.blk rfl
 have k:=BY b (n*3+2) (int i64 ((so.args:Int)+1));rw[<-Uu st.atom n so u]at k;have o:(w.setCell ⟨g,n*3+2,none⟩ (int i64 ((so.args:Int)+1))).heap[rb]?=some (.cells (Cm st V) 169 (0,0)):=by
  rw[Below.heap_setCell _ _ _ _ t];exact h.blk
 have i:Ad (CY rb V.a) w (w.setCell ⟨g,n*3+2,none⟩ (int i64 ((so.args:Int)+1))):=(Ad.refl _ w).setCell (p:=⟨g,n*3+2,none⟩) (fun _=>QO (by rw[c];rfl)) _;have m:(Bq st).length=st.atom.length:=by simp[Bq,j]
 have q:Bq st=st.atom.modify n (fun s=>{s with args:=s.args+1}):=by simp[Bq,j]
 exact⟨h.atoms i (Bq st) V.a o (by rw[m,q,c];exact k) h.rest.ta,h.below i h.rest.atom Yd⟩
theorem EO{n:Nat}{X:Value}{cs:Av}{T:TypeId}(h:Ad (Ak X) (w.drewN n) w1)(hb:w.heap[rb]?=some (.cells cs T (0,0)))(a:¬Ak X rb):w1.heap[rb]?=some (.cells cs T (0,0)):=
 (h.block rb (Ac hb) a).trans hb
theorem US{nd:Nat}{V:RV}{j l:Nat}{xs:List (Lv)}{s:BJ}{b:Oa}{c:Nat}(d:He w B rb st V j l vs xs)
  (h:Ar (w.drewN nd) B 133 3 V.a (st.atom.length+1) (Aq st.atom++[string ⟨s.name.toArray⟩,int i64 s.num,int i64 s.args]) (slice b (st.atom.length+1) c) w1):
  He (w1.setCell ⟨rb,3,none⟩ (slice b (st.atom.length+1) c)) B rb {st with atom:=st.atom++[s]} {V with a:=slice b (st.atom.length+1) c} j l vs xs/\Dh B w (w1.setCell ⟨rb,3,none⟩ (slice b (st.atom.length+1) c)):=by
 have n:=d.rest.atom;have o:=EO h.kept d.blk (Ai n Yd d.blk);have f:Ad (CY rb V.a) w (w1.setCell ⟨rb,3,none⟩ (slice b (st.atom.length+1) c)):=Fs (((Ad.refl _ w).drewN _).trans h.kept) 3 _;have t:(w1.setCell ⟨rb,3,none⟩ (slice b (st.atom.length+1) c)).ownsRow B 133 3 (slice b (st.atom.length+1) c) (st.atom++[s]).length (Aq (st.atom++[s])):=by
  have m:=h.owns;have q:=((Ad.refl (only rb) w1).put 3 (slice b (st.atom.length+1) c)).owns m (fun k p e=>by
   have e:k=rb:=e;rw[e]at p;exact Ai m Yd o p)
  simpa[Aq,Bw]using q
 have u:∀k,(Value.slice b (st.atom.length+1) c).ownBlock=some k->j<=k:=by
  intro k f;rcases h.where_ with i|⟨g,i,r⟩
  ·exact d.rest.ta k (by rw[<-i];exact f)
  ·rw[f]at i;simp at i;have:=d.rest.la;have v:w.heap.size<=g:=by simpa using r
   omega
 exact⟨d.atoms f (st.atom++[s]) (slice b (st.atom.length+1) c) (Ae o 3 _) t u,d.below f n Yd⟩
theorem XR(w:World)(B b:Nat)(st:RS)(s:BJ)(n:Nat)(r:List Nat)(h:BZ w B b st)(hb:LZ st)(x:st.opn=n::r)(hn:n<st.atom.length):
  Calls prog 168 #[Pt b,agg #[string ⟨s.name.toArray⟩,int i64 s.num,int i64 s.args]] w fun e w'=>e=Rq #[]/\BZ w' B b (Fn st s)/\Dh B w w':=by
 obtain⟨V,T,U,vs,xs,h⟩:=h;have an:=Ac h.blk;have X:B<=w.heap.size:=by have:=h.le;omega
 have am:=hb.atom;obtain⟨so,y⟩:∃so,st.atom[n]?=some so:=⟨_,Qb hn⟩;have ai:=hb.args so (Qh y);have C:∀o,Fj (w.alloc o) B b st V:=fun o=>h.opens.later (S:=A4) ((Ad.refl _ w).alloc o) (fun h=>h) (fun _ _ h=>h) (fun _ _ h=>h);have O:=Yh (fun o=>Jq (w.alloc o) B b st V (C o) hb.opn hb.atom);have Q:YH (DZ st=n):=by show _=_;simp[DZ,x];omega
 have z:=Yh h;have F:=Yh x;have G:=Yh y;clear h C x y;go_enter func168,ntmps168;go_wp2_with fail;apply(O.o _).mono;rintro e w1 ⟨rfl,nd,j⟩;rw[Q.o];have v:Ad A4 w w1:=by rw[j];exact((Ad.refl _ w).alloc _).drewN _
 have ab:w1.cell? ⟨w.heap.size,0,none⟩=some (string ⟨s.name.toArray⟩):=by rw[j];exact AY w _ _ 0 _ rfl
 have b1:w1.cell? ⟨w.heap.size,1,none⟩=some (int i64 s.num):=by rw[j];exact AY w _ _ 1 _ rfl
 have b2:w1.cell? ⟨w.heap.size,2,none⟩=some (int i64 s.args):=by rw[j];exact AY w _ _ 2 _ rfl
 have ap:w.heap.size<w1.heap.size:=by rw[j];show w.heap.size<(w.alloc _).heap.size;simp
 clear j;have f:=z.o.fresh v;obtain⟨aa,H,d⟩:=Ab f.rest.atom;have k:=f.rest.atom;rw[d]at k;obtain⟨g,af,ag,L,ah,M,aj⟩:=An k Yo;simp only[QH]at L;obtain⟨rfl,_,rfl⟩:=L;have al:g<w.heap.size:=(z.o.rest.atom.lt g (by rw[d];rfl)).2;have ak:¬b=g:=fun e=>by subst e;exact Ai k Yd f.blk rfl
 have cg:w1.cell? ⟨g,n*3+2,none⟩=some (int i64 so.args):=Af k _ _ (by rw[AV _ n so G.o 2 Yo];rfl);have ae:=Ag M (n*3+2);have W:w1.cell? ⟨b,3,none⟩=some V.a:=f.opens.facts.2.2.2.1;rw[d]at W;obtain⟨q,J⟩:=f.counted F.o G.o d;have D:YH ((w1.setCell ⟨g,n*3+2,none⟩ (int i64 ((so.args:Int)+1))).ownsRow B 133 3 (slice (some ⟨g,0,none⟩) st.atom.length H) (Bq st).length (Aq (Bq st))):=by
  have p:=q.rest.atom;simp only at p;rw[d]at p;exact p
 have t:(Bq st).length=st.atom.length:=by simp[Bq,F.o]
 have E:=Yh t;have m:=D.o;rw[t]at m;have A:=Yh m;have N:=Yh ((Dh.fresh v X).trans J);have l:=Yh q;have R:=Yh d;have aq:B<=w1.heap.size:=Yo
 have ao:b<w1.heap.size:=Yo
 clear f k d M q J D m t v;go_wp2_with fail
 go_region_law (refine BA ((w1.setCell ⟨g,n*3+2,none⟩ (int i64 ((so.args:Int)+1))).drewN 1) rfl (.tmp 24) (.tmp 26) 105 rfl B 133 infoSym underlying105 rfl Yd (slice (some ⟨g,0,none⟩) st.atom.length H) st.atom.length (Aq (Bq st)) rfl A.o #[string ⟨s.name.toArray⟩,int i64 s.num,int i64 s.args] rfl Ys rfl (Fq _ _ _) Yo Yp rfl ?_;intro ar w2 c;obtain⟨Y,Z,rfl⟩:=Ab c.owns;have u:=EO c.kept l.o.blk (Ai A.o Yd l.o.blk);have ac:w2.cell? ⟨b,3,none⟩=some V.a:=Aa u 3 _ rfl;have ad:=fun i=>Ag u i;have P:=Yh c;clear c u)
 all_goals
  go_end0;have c:=P.o;rw[<-R.o]at c;rw[<-E.o]at c;obtain⟨K,I⟩:=US l.o c;simp only[E.o]at K I;exact⟨rfl,⟨_,T,U,vs,xs,K⟩,N.o.trans I⟩
def AG(st:RS):RS:=if st.inBody then{st with body:=st.body++[st.atom],atom:=[]}else{st with head:=st.atom,atom:=[]}
theorem Dw(a:Oa)(n c:Nat):∀u∈(#[Value.slice a n c]:Av).toList,u.oneCell'=true:=by
 intro u b;simp at b;subst b;rfl
theorem HS(w:World)(B c:Nat)(st:RS)(h:BZ w B c st)(hb:LZ st):
  Calls prog 172 #[Pt c] w fun e w'=>e=Rq #[]/\BZ w' B c (AG st)/\Dh B w w':=by
 obtain⟨V,T,H,vs,xs,h⟩:=h;have ah:=Ac h.blk;have ac:B<=w.heap.size:=by have:=h.le;omega
 obtain⟨U,W,E,K,X,L,M,Y,Z⟩:=h.opens.facts;have ae:=fun i=>Ag h.blk i;obtain⟨aa,y,q⟩:=Ab h.rest.atom;obtain⟨I,J,r⟩:=Ab h.rest.body.1;have ag:=hb.body;have p:=h.rest.body.1;rw[r]at p M;rw[q]at K;obtain⟨ha,ad,A⟩:=Ab h.rest.head.1;rw[A]at L;have d:=Yh h;have D:=Yh p;have v:=Yh q;have x:=Yh r
 cases l:st.inBody
 ·rw[l]at E;have u:YH (AG st={st with head:=st.atom,atom:=[]}):=by show _=_;simp[AG,l]
  clear h q r p A l;go_enter func172,ntmps172;go_wp2;go_end0;have f:Ad (CY c Nl) w ((w.setCell ⟨c,5,none⟩ (slice aa st.atom.length y)).setCell ⟨c,3,none⟩ Nl):=CQ (CQ (Ad.refl _ w) 5 _) 3 _;have z:((w.setCell ⟨c,5,none⟩ (slice aa st.atom.length y)).setCell ⟨c,3,none⟩ Nl).heap[c]?=some (.cells (Cm {st with head:=st.atom,atom:=[]} {V with h:=V.a,a:=Nl}) 169 (0,0)):=by
   rw[Ae (Ae d.o.blk 5 _) 3 _];simp[Cm,v.o]
  rw[u.o];exact⟨rfl,⟨_,_,_,_,_,d.o.headed f z⟩,d.o.below f (Q2 w B 169 1) Yd⟩
 ·rw[l]at E;have u:YH (AG st={st with body:=st.body++[st.atom],atom:=[]}):=by show _=_;simp[AG,l]
  clear h q r p A l;go_enter func172,ntmps172;go_wp2_with fail
  go_region_law (refine BA (w.drewN 1) rfl (.tmp 11) (.tmp 16) 85 rfl B 105 infoSyms underlying85 rfl Yd (slice I st.body.length J) st.body.length vs rfl D.o #[slice aa st.atom.length y] rfl Ys rfl (Dw _ _ _) Yo Yp rfl ?_;intro ai w2 n;obtain⟨b1,j,rfl⟩:=Ab n.owns;have m:=EO n.kept d.o.blk (Ai D.o Yd d.o.blk);have N:w2.cell? ⟨c,3,none⟩=some V.a:=Aa m 3 _ rfl;have O:w2.cell? ⟨c,6,none⟩=some V.b:=Aa m 6 _ rfl;have ab:=fun i=>Ag m i;have t:=Yh n;have C:=Yh m;clear n m)
  all_goals
   rw[v.o]at N;rw[x.o]at O;go_wp2;go_end0;have f:Ad (CY c V.b) w ((w2.setCell ⟨c,6,none⟩ (slice b1 (st.body.length+1) j)).setCell ⟨c,3,none⟩ Nl):=by
    rw[x.o];exact CQ (Fs (((Ad.refl _ w).drewN _).trans t.o.kept) 6 _) 3 _
   have z:((w2.setCell ⟨c,6,none⟩ (slice b1 (st.body.length+1) j)).setCell ⟨c,3,none⟩ Nl).heap[c]?=some (.cells (Cm {st with body:=st.body++[st.atom],atom:=[]} {V with b:=slice b1 (st.body.length+1) j,a:=Nl}) 169 (0,0)):=by
    rw[Ae (Ae C.o 6 _) 3 _];simp[Cm]
   have R:((w2.setCell ⟨c,6,none⟩ (slice b1 (st.body.length+1) j)).setCell ⟨c,3,none⟩ Nl).ownsRow B 105 1 (slice b1 (st.body.length+1) j) (st.body.length+1) (vs++[V.a]):=by
    have F:=t.o.owns;have P:=(((Ad.refl (only c) w2).put 6 (slice b1 (st.body.length+1) j)).put 3 Nl).owns F (fun k G e=>by
     have e:k=c:=e;rw[e]at G;exact Ai F Yd C.o G)
    rw[v.o];simpa using P
   have S:∀k,(Value.slice b1 (st.body.length+1) j).ownBlock=some k->H<=k:=by
    intro k f;rcases t.o.where_ with s|⟨g,s,Q⟩
    ·exact d.o.rest.tb k (by rw[x.o,<-s];exact f)
    ·rw[f]at s;simp at s;have:=d.o.rest.lb;have af:w.heap.size<=g:=by simpa using Q
     omega
   rw[u.o];exact⟨rfl,⟨_,_,_,_,_,d.o.bodied f _ z R S⟩,d.o.below f d.o.rest.body.1 Yd⟩
theorem BZ.next(h:BZ w B rb st)(n:Nat):BZ (w.setCell ⟨rb,1,none⟩ (int i64 n)) B rb {st with next:=n}/\Dh B w (w.setCell ⟨rb,1,none⟩ (int i64 n)):=by
 obtain⟨V,b,c,vs,xs,h⟩:=h;have a:Ad (CY rb Nl) w (w.setCell ⟨rb,1,none⟩ (int i64 n)):=CQ (Ad.refl _ w) 1 _;exact⟨⟨V,b,c,vs,xs,h.only a {st with next:=n} (Ae h.blk 1 _) rfl rfl rfl rfl rfl rfl⟩,h.below a (Q2 w B 169 1) Yd⟩
theorem BZ.inb(h:BZ w B rb st)(b:Bool):BZ (w.setCell ⟨rb,2,none⟩ (.bool b)) B rb {st with inBody:=b}/\Dh B w (w.setCell ⟨rb,2,none⟩ (.bool b)):=by
 obtain⟨V,c,d,vs,xs,h⟩:=h;have a:Ad (CY rb Nl) w (w.setCell ⟨rb,2,none⟩ (.bool b)):=CQ (Ad.refl _ w) 2 _;exact⟨⟨V,c,d,vs,xs,h.only a {st with inBody:=b} (Ae h.blk 2 _) rfl rfl rfl rfl rfl rfl⟩,h.below a (Q2 w B 169 1) Yd⟩
theorem BZ.cells(h:BZ w B rb st):rb<w.heap.size/\w.cell? ⟨rb,0,none⟩=some (.bool st.query)/\w.cell? ⟨rb,1,none⟩=some (int i64 st.next)/\w.cell? ⟨rb,2,none⟩=some (.bool st.inBody)/\
  (∃a b,w.cell? ⟨rb,4,none⟩=some (slice a st.opn.length b))/\∀i,w.frozen? ⟨rb,i,none⟩=false:=by
 obtain⟨V,j,k,vs,xs,h⟩:=h;obtain⟨d,e,f,l,c,m,n,o,p⟩:=h.opens.facts;obtain⟨a,b,g⟩:=Ab h.rest.opn;rw[g]at c;exact⟨Ac h.blk,d,e,f,⟨a,b,c⟩,fun i=>Ag h.blk i⟩
def Ev(st:RS):RS:=if st.opn.isEmpty then{AG st with next:=1}else{st with next:=2}
theorem UF(w:World)(B b:Nat)(st:RS)(h:BZ w B b st)(hb:LZ st):
  Calls prog 171 #[Pt b] w fun e w'=>e=Rq #[]/\BZ w' B b (Ev st)/\Dh B w w':=by
 obtain⟨A,q,s,t,⟨E,F,d⟩,u⟩:=h.cells;have hl:=hb.opn;have k:=Yh h;have p:=Yh (HS w B b st h hb)
 cases a:st.opn with
 |nil=>
  simp only[a,Qt]at d;have c:YH (Ev st={AG st with next:=1}):=by show _=_;simp[Ev,a]
  clear h a;go_enter func171,ntmps171;go_wp2_with fail;apply p.o.mono;rintro e w1 ⟨rfl,f,j⟩;obtain⟨C,v,x,y,_,z⟩:=f.cells;have l:=Yh f;have m:=Yh j;clear f j q s t d u;go_wp2;go_end0;obtain⟨i,g⟩:=l.o.next 1;rw[c.o];exact⟨rfl,i,m.o.trans g⟩
 |cons n r=>
  have D:r.length+1<=4096:=by rw[a]at hl;simpa using hl
  simp only[a,Qf]at d;have c:YH (Ev st={st with next:=2}):=by show _=_;simp[Ev,a]
  clear h a;go_enter func171,ntmps171;go_wp2;refine Jb (results_none rfl _ _ _) rfl ?_;obtain⟨i,g⟩:=k.o.next 2;rw[c.o];exact⟨rfl,i,g⟩
def AE(st:RS):RS:={st with clauses:=st.clauses++[⟨st.head,st.body,st.vars⟩],head:=[],body:=[],vars:=[],inBody:=false,next:=if st.query then 5 else 0}
theorem Vm(a b c:Oa)(n m k x y e:Nat):∀u∈(#[Value.slice a n x,slice b m y,slice c k e]:Av).toList,u.oneCell'=true:=by
 intro u d;simp at d;rcases d with rfl|rfl|rfl<;>rfl
def J6(w:World)(rb:Nat)(c:Value):World:=(((((w.setCell ⟨rb,8,none⟩ c).setCell ⟨rb,5,none⟩ (.slice none 0 0)).setCell ⟨rb,6,none⟩ (.slice none 0 0)).setCell ⟨rb,7,none⟩ (.slice none 0 0)).setCell ⟨rb,2,none⟩ (.bool false)).setCell ⟨rb,1,none⟩ (.int .i64 0)
theorem P8{nd:Nat}{V:RV}{n o:Nat}{xs:List (Lv)}{a:Oa}{d:Nat}(f:He w B rb st V n o vs xs)
  (g:Ar (w.drewN nd) B 107 3 V.c (st.clauses.length+1) (xs.flatten++[V.h,V.b,V.v]) (slice a (st.clauses.length+1) d) w2):
  BZ (J6 w2 rb (slice a (st.clauses.length+1) d)) B rb {AE st with next:=0}/\Dh B w (J6 w2 rb (slice a (st.clauses.length+1) d)):=by
 have j:=EO g.kept f.blk (Ai f.rest.cls.1 Yd f.blk);have l:Ad (CY rb V.c) w (J6 w2 rb (slice a (st.clauses.length+1) d)):=
  CQ (CQ (CQ (CQ (CQ (Fs (((Ad.refl _ w).drewN _).trans g.kept) 8 _) 5 _) 6 _) 7 _) 2 _) 1 _
 have p:(J6 w2 rb (slice a (st.clauses.length+1) d)).heap[rb]?=some (.cells (Cm {AE st with next:=0} {V with c:=slice a (st.clauses.length+1) d,h:=Nl,b:=Nl,v:=Nl}) 169 (0,0)):=by
  unfold J6;rw[Ae (Ae (Ae (Ae (Ae (Ae j 8 _) 5 _) 6 _) 7 _) 2 _) 1 _];simp[Cm,AE]
 have q:(J6 w2 rb (slice a (st.clauses.length+1) d)).ownsRow B 107 3 (slice a (st.clauses.length+1) d) (st.clauses.length+1) (xs.flatten++[V.h,V.b,V.v]):=by
  have i:=g.owns;exact((((((((Ad.refl (only rb) w2).put 8 _).put 5 _).put 6 _).put 7 _).put 2 _).put 1 _)).owns i (fun k m e=>by
   have e:k=rb:=e;rw[e]at m;exact Ai i Yd j m)
 exact⟨⟨_,_,_,_,_,f.clausd l _ {AE st with next:=0} p q rfl rfl rfl rfl rfl rfl⟩,f.below l f.rest.cls.1 Yd⟩
theorem Ms(w:World)(B a:Nat)(st:RS)(h:BZ w B a st)(hb:LZ st):
    Calls prog 173 #[Pt a] w fun e w'=>e=Rq #[]/\BZ w' B a (AE st)/\Dh B w w':=by
  obtain⟨V,U,W,vs,xs,h⟩:=h;have ai:=Ac h.blk;have ag:B<=w.heap.size:=by have:=h.le;omega
  obtain⟨F,X,aa,ab,ac,G,H,I,J⟩:=h.opens.facts;obtain⟨ca,K,p⟩:=Ab h.rest.cls.1;obtain⟨ha,S,q⟩:=Ab h.rest.head.1;obtain⟨D,E,n⟩:=Ab h.rest.body.1;obtain⟨va,T,r⟩:=Ab h.rest.vars;have ah:=hb.cls;have l:=h.rest.cls.1;rw[p]at l J;rw[q]at G;rw[n]at H;rw[r]at I;have g:=Yh h;have s:=Yh l;have x:=Yh q;have t:=Yh n;have u:=Yh p;have y:=Yh r
  cases m:st.query
  all_goals
    rw[m]at F;have k:=Yh m;clear h p q n r l m;go_enter func173,ntmps173;go_wp2_with fail
    go_region_law (refine BA (w.drewN 1) rfl (.tmp 6) (.tmp 11) 104 rfl B 107 infoCls underlying104 rfl Yd (slice ca st.clauses.length K) st.clauses.length xs.flatten rfl s.o #[slice ha st.head.length S,slice D st.body.length E,slice va st.vars.length T] rfl Ys rfl (Vm _ _ _ _ _ _ _ _ _) Yo Yp rfl ?_;intro aj w2 f;obtain⟨Y,Z,rfl⟩:=Ab f.owns;have d:=EO f.kept g.o.blk (Ai s.o Yd g.o.blk);have L:w2.cell? ⟨a,0,none⟩=some (.bool st.query):=Aa d 0 _ rfl;have ad:w2.cell? ⟨a,1,none⟩=some (int i64 st.next):=Aa d 1 _ rfl;have ae:w2.cell? ⟨a,2,none⟩=some (.bool st.inBody):=Aa d 2 _ rfl;have M:w2.cell? ⟨a,5,none⟩=some V.h:=Aa d 5 _ rfl;have N:w2.cell? ⟨a,6,none⟩=some V.b:=Aa d 6 _ rfl;have O:w2.cell? ⟨a,7,none⟩=some V.v:=Aa d 7 _ rfl;have P:w2.cell? ⟨a,8,none⟩=some V.c:=Aa d 8 _ rfl;have af:=fun i=>Ag d i;have C:=Yh f;clear f d)
  all_goals
    rw[x.o]at M;rw[t.o]at N;rw[y.o]at O;rw[u.o]at P;rw[k.o]at L;go_wp2;go_end0;have f:=C.o;rw[<-x.o,<-t.o,<-y.o,<-u.o]at f;obtain⟨A,z⟩:=P8 g.o f
    first
    | (have j:AE st={AE st with next:=0}:=by simp[AE,k.o]
       rw[j];exact⟨rfl,A,z⟩)
    | (have j:AE st={{AE st with next:=0}with next:=5}:=by simp[AE,k.o]
       obtain⟨R,Q⟩:=A.next 5;rw[j];exact⟨rfl,R,z.trans Q⟩)
def AT(st:RS)(kd:Nat)(t:Lu):RS:=
 if kd=1 then{Fn st ⟨t,0,0⟩with next:=3}
 else if kd=2 then{Fn (My st t) ⟨[],(A8 st.vars t).2,0⟩with next:=4}
 else if kd=3 then{st with opn:=(st.atom.length-1)::st.opn,next:=2}
 else if kd=4 then{F4 st with next:=4}
 else if kd=5 then Ev st
 else if kd=7 then{AG st with inBody:=true,next:=1}
 else if kd=6 then AE (AG st)
 else st
theorem TD(w:World)(B a:Nat)(st:RS)(s:BJ)(h:BZ w B a st)(hb:LZ st)(c:∀n∈st.opn,n<st.atom.length):
  Calls prog 168 #[Pt a,agg #[string ⟨s.name.toArray⟩,int i64 s.num,int i64 s.args]] w fun e w'=>e=Rq #[]/\BZ w' B a (Fn st s)/\Dh B w w':=by
 cases b:st.opn with
 |nil=>exact W6 w B a st s h hb b
 |cons n r=>exact XR w B a st s n r h hb b (c n (by simp[b]))
theorem Yr(w:World)(B a:Nat)(st:RS)(t:Lu)(h:BZ w B a st)(hb:LZ st)(d:∀n∈st.opn,n<st.atom.length):
  Calls prog 132 #[Pt a,int i64 1,string ⟨t.toArray⟩] w fun e w'=>e=Rq #[]/\BZ w' B a (AT st 1 t)/\Dh B w w':=by
 have g:=Yh (TD w B a st ⟨t,0,0⟩ h hb d);clear h d;go_enter func132,ntmps132;go_wp2_with fail;apply g.o.mono;rintro e w1 ⟨rfl,b,c⟩;obtain⟨r,l,m,p,_,q⟩:=b.cells;have f:=Yh b;have i:=Yh c;clear b c;go_wp2;go_end0;obtain⟨k,j⟩:=f.o.next 3;exact⟨rfl,k,i.o.trans j⟩
theorem Ym(w:World)(B b:Nat)(st:RS)(t:Lu)(h:BZ w B b st)(hb:LZ st)(s:st.vars.length<=4096)(g:∀n∈st.opn,n<st.atom.length):
  Calls prog 132 #[Pt b,int i64 2,string ⟨t.toArray⟩] w fun e w'=>e=Rq #[]/\BZ w' B b (AT st 2 t)/\Dh B w w':=by
 have m:=Yh (N4 w B b st t h s);have a:=Yh hb;have p:=Yh g;clear h g;go_enter func132,ntmps132;go_wp2_with fail;apply m.o.mono;rintro e u ⟨rfl,h0,d⟩;have j:=Yh (TD u B b (My st t) ⟨[],(A8 st.vars t).2,0⟩ h0 ⟨a.o.opn,a.o.atom,a.o.body,a.o.cls,a.o.args⟩ p.o);have k:=Yh d;clear h0 d;go_wp2_with fail;apply j.o.mono;rintro e w1 ⟨rfl,c,f⟩;obtain⟨A,v,x,y,_,z⟩:=c.cells;have i:=Yh c;have l:=Yh f;clear c f;go_wp2;go_end0;obtain⟨r,q⟩:=i.o.next 4;exact⟨rfl,r,k.o.trans (l.o.trans q)⟩
theorem Yi(w:World)(B a:Nat)(st:RS)(t:Lu)(h:BZ w B a st)(hb:LZ st):
  Calls prog 132 #[Pt a,int i64 4,string ⟨t.toArray⟩] w fun e w'=>e=Rq #[]/\BZ w' B a (AT st 4 t)/\Dh B w w':=by
 have f:=Yh (Ux w B a st h hb.opn);clear h;go_enter func132,ntmps132;go_wp2_with fail;apply f.o.mono;rintro e w1 ⟨rfl,b,c⟩;obtain⟨p,k,l,m,_,n⟩:=b.cells;have d:=Yh b;have g:=Yh c;clear b c;go_wp2;go_end0;obtain⟨j,i⟩:=d.o.next 4;exact⟨rfl,j,g.o.trans i⟩
theorem Yu(w:World)(B a:Nat)(st:RS)(t:Lu)(h:BZ w B a st)(hb:LZ st):
  Calls prog 132 #[Pt a,int i64 5,string ⟨t.toArray⟩] w fun e w'=>e=Rq #[]/\BZ w' B a (AT st 5 t)/\Dh B w w':=by
 have f:=Yh (UF w B a st h hb);clear h;go_enter func132,ntmps132;go_wp2_with fail;apply f.o.mono;rintro e w1 ⟨rfl,b,c⟩;have d:=Yh b;have g:=Yh c;clear b c;go_wp2;go_end0;exact⟨rfl,d.o,g.o⟩
theorem Ya(w:World)(B a:Nat)(st:RS)(t:Lu)(h:BZ w B a st)(hb:LZ st):
  Calls prog 132 #[Pt a,int i64 7,string ⟨t.toArray⟩] w fun e w'=>e=Rq #[]/\BZ w' B a (AT st 7 t)/\Dh B w w':=by
 have f:=Yh (HS w B a st h hb);clear h;go_enter func132,ntmps132;go_wp2_with fail;apply f.o.mono;rintro e w1 ⟨rfl,b,c⟩;obtain⟨r,m,n,p,_,q⟩:=b.cells;have d:=Yh b;have g:=Yh c;clear b c;go_wp2;go_end0;obtain⟨k,i⟩:=d.o.inb true;obtain⟨l,j⟩:=k.next 1;exact⟨rfl,l,g.o.trans (i.trans j)⟩
theorem LZ.endAtom(hb:LZ st)(h:st.body.length+1<=4096):LZ (AG st):=by
 unfold AG;split
 ·exact⟨hb.opn,Ys,by simpa using h,hb.cls,Ys⟩
 ·exact⟨hb.opn,Ys,hb.body,hb.cls,Ys⟩
theorem Yv(w:World)(B a:Nat)(st:RS)(t:Lu)(h:BZ w B a st)(hb:LZ st)(n:st.body.length+1<=4096):
  Calls prog 132 #[Pt a,int i64 6,string ⟨t.toArray⟩] w fun e w'=>e=Rq #[]/\BZ w' B a (AT st 6 t)/\Dh B w w':=by
 have i:=Yh (HS w B a st h hb);have m:=Yh (hb.endAtom n);clear h;go_enter func132,ntmps132;go_wp2_with fail;apply i.o.mono;rintro e w1 ⟨rfl,b,d⟩;have l:=Yh (Ms w1 B a (AG st) b m.o);have j:=Yh d;clear b d;go_wp2_with fail;apply l.o.mono;rintro e w2 ⟨rfl,c,f⟩;have g:=Yh c;have k:=Yh f;clear c f;go_wp2;go_end0;exact⟨rfl,g.o,j.o.trans k.o⟩
theorem Yq(w:World)(B a:Nat)(st:RS)(t:Lu)(h:BZ w B a st)(hb:LZ st)(ab:0<st.atom.length):
  Calls prog 132 #[Pt a,int i64 3,string ⟨t.toArray⟩] w fun e w'=>e=Rq #[]/\BZ w' B a (AT st 3 t)/\Dh B w w':=by
 obtain⟨V,x,y,vs,xs,h⟩:=h;have ac:=Ac h.blk;have X:B<=w.heap.size:=by have:=h.le;omega
 obtain⟨N,O,P,z,A,Q,R,S,T⟩:=h.opens.facts;obtain⟨aa,M,v⟩:=Ab h.rest.atom;obtain⟨K,L,l⟩:=Ab h.rest.opn;have Z:=hb.opn;have Y:=hb.atom;have j:=h.rest.opn;rw[l]at j A;rw[v]at z;have b:=Yh h;have p:=Yh j;have q:=Yh l;have I:IntKind.i64.wrap (((st.atom.length:Nat):Int)-1)=((st.atom.length-1:Nat):Int):=by rw[IntKind.wrap_i64];omega
 clear h v l j;go_enter func132,ntmps132;go_wp2_with fail
 go_region_law (refine BA (w.drewN 1) rfl (.tmp 35) (.tmp 42) 25 rfl B 3 infoInt underlying25 rfl Yd (slice K st.opn.length L) st.opn.length (AM st.opn.reverse) rfl p.o #[int i64 ((st.atom.length-1:Nat):Int)] rfl Ys rfl (DT _) Yo Yp rfl ?_;intro ad w2 g;obtain⟨d,f,rfl⟩:=Ab g.owns;have c:=EO g.kept b.o.blk (Ai p.o Yd b.o.blk);have U:w2.cell? ⟨a,1,none⟩=some (int i64 st.next):=Aa c 1 _ rfl;have C:w2.cell? ⟨a,4,none⟩=some V.o:=Aa c 4 _ rfl;have W:=fun i=>Ag c i;have m:=Yh g;have n:=Yh c;clear g c)
 all_goals
  rw[q.o]at C;go_wp2;go_end0;have s:Ad (CY a V.o) w (w2.setCell ⟨a,4,none⟩ (slice d (st.opn.length+1) f)):=by
   rw[q.o];exact Fs (((Ad.refl _ w).drewN _).trans m.o.kept) 4 _
  have J:(w2.setCell ⟨a,4,none⟩ (slice d (st.opn.length+1) f)).ownsRow B 3 1 (slice d (st.opn.length+1) f) ((st.atom.length-1)::st.opn).length (AM ((st.atom.length-1)::st.opn).reverse):=by
   have r:=m.o.owns;have D:=((Ad.refl (only a) w2).put 4 (slice d (st.opn.length+1) f)).owns r (fun k u e=>by
    have e:k=a:=e;rw[e]at u;exact Ai r Yd n.o u)
   simpa[AM,I]using D
  have G:=b.o.opened s ((st.atom.length-1)::st.opn) (slice d (st.opn.length+1) f) (Ae n.o 4 _) J;have E:=b.o.below s b.o.rest.opn Yd;obtain⟨H,F⟩:=BZ.next ⟨_,x,y,vs,xs,G⟩ 2;exact⟨rfl,H,E.trans F⟩
structure V9(st:RS)(kd:Nat):Prop where
 bd:LZ st
 vars:st.vars.length<=4096
 body:st.body.length+1<=4096
 opn:∀n∈st.opn,n<st.atom.length
 lo:1<=kd
 hi:kd<=7
 bracket:kd=3->0<st.atom.length
theorem WK(w:World)(B a:Nat)(st:RS)(kd:Nat)(t:Lu)(h:BZ w B a st)(c:V9 st kd):
  Calls prog 132 #[Pt a,int i64 kd,string ⟨t.toArray⟩] w fun e w'=>e=Rq #[]/\BZ w' B a (AT st kd t)/\Dh B w w':=by
 obtain⟨bd,vars,body,opn,lo,hi,bracket⟩:=c;have b:kd=1\/kd=2\/kd=3\/kd=4\/kd=5\/kd=6\/kd=7:=Yo
 rcases b with rfl|rfl|rfl|rfl|rfl|rfl|rfl
 ·exact Yr w B a st t h bd opn
 ·exact Ym w B a st t h bd vars opn
 ·exact Yq w B a st t h bd (bracket rfl)
 ·exact Yi w B a st t h bd
 ·exact Yu w B a st t h bd
 ·exact Yv w B a st t h bd body
 ·exact Ya w B a st t h bd
theorem UE(f b:Nat)(w:World)(ts:List BV)(k:Nat)(c:Int)(tv:Value)(a B:Nat)(names:At)(nv:Value)(q:Ll×List BV×At)(l:c=(k:Int))
  (n:BG f b (ts.drop k) names []=some q) (p:w.ownsRow a 243 3 tv ts.length (AP ts)) (m:w.ownsRow B 9 1 nv names.length (Ba names)) (h:B<=w.heap.size)
  (hl:ts.length<=1000) (hn:names.length+(ts.length-k)<=1000) (r:∀t∈ts,t.text.length<=4096) (o:∀i t,ts[i]?=some t->i+1<ts.length->t.text≠[]):
  Calls prog 144 #[tv,int i64 c,nv] w fun e w'=>∃d g j xs,e=Rq #[d,int i64 (j:Nat),g]/\q.2.1=ts.drop j/\k<j/\j<=ts.length/\
   Fa f w' w.heap.size d q.1 xs/\Ar w B 9 1 nv q.2.2.length (Ba q.2.2) g w':=by
 subst l;exact Nr f b w ts k tv a B names nv q n p m h hl hn r o
theorem Ge(s:ByteArray)(w:World)(a:s.size<=maxLen)(b:800<s.size):
  Calls prog 106 #[string s] w fun e w'=>e=Rq #[Nl,int i64 1,int i64 0]/\Below w.heap.size w w':=by
 unfold maxLen at a;go_enter func106,ntmps106;go_wp2;go_ret3;exact⟨rfl,Jc _ _⟩
theorem G6(s:ByteArray)(w:World)(j:s.size<=800)(h:(Bb (Ap s) (AD false)).1≠0):
  Calls prog 106 #[string s] w fun e w'=>e=Rq #[Nl,int i64 (Bb (Ap s) (AD false)).1,int i64 (Bb (Ap s) (AD false)).2]/\Below w.heap.size w w':=by
 have i:(((Bb (Ap s) (AD false)).1:Int) !=0)=true:=by rw[QR];omega
 go_enter func106,ntmps106;go_wp2_with fail;apply(G2 s _ Yo).mono;rintro e w1 ⟨v,rfl,b,d⟩;have g:=Yh d;have a:=Yh b;clear d b;go_wp2_with fail;apply(I2 w1 _ s v Yo g.o).mono;rintro e w2 ⟨rfl,c⟩;have f:=Yh c;clear c;go_wp2;go_ret3;exact⟨rfl,a.o.trans (f.o.mono a.o.size)⟩
theorem HT(s:ByteArray)(w:World)(cs:Lc)(c2:s.size<=800)(b6:(Bb (Ap s) (AD false)).1=0)(ba:CW 1000 (Ap s) []=some cs):
  Calls prog 106 #[string s] w fun e w'=>∃ag xs,e=Rq #[ag,int i64 0,int i64 0]/\Eg w' w.heap.size ag cs xs/\Below w.heap.size w w':=by
 have cu:(((Bb (Ap s) (AD false)).1:Int) !=0)=false:=by rw[b6];rfl
 have ct:=BM s;have bz:=Yh ba;have a4:YH (∀t∈Ap s,t.text.length<=4096):=fun t cf=>by have:=Cu s t cf;omega
 have a1:=Yh (GI s);clear ba;go_enter func106,ntmps106;go_wp2_with fail;apply(G2 s _ Yo).mono;rintro e w1 ⟨v,rfl,ao,bf⟩;have ak:=Yh bf;have aj:=Yh ao;clear bf ao;go_wp2_with fail;apply(I2 w1 _ s v Yo ak.o).mono;rintro e w2 ⟨rfl,M⟩;have bq:=Yh (aj.o.trans (M.mono aj.o.size));have a2:=Yh (LU M ak.o (Qe _));obtain⟨ta,ay,rfl⟩:=Ab a2.o;clear M ak aj;generalize Ap s=ts at*;go_wp2
 go_loopg [8,9] 1000 (fun gk ag i wr=>∃(j:Nat)(d:Lc)(xs:List (Lv)),i=int i64 (j:Nat)/\j<=ts.length/\d.length<=j/\CW gk (ts.drop j) d=some cs/\
   Eg wr w.heap.size ag d xs/\Below w.heap.size w wr/\wr.ownsRow w.heap.size 243 3 (slice ta ts.length ay) ts.length (AP ts))
 case atStart=>exact⟨0,[],[],rfl,Yo,Ys,bz.o,Eg.nil _ _,bq.o,a2.o⟩
 case round=>
  obtain⟨j,d,xs,rfl,cx,cr,f,R,ab,S⟩:=hrel;obtain⟨la,V,rfl⟩:=Ab R.owns
  cases I:ts.drop j with
  |nil=>rw[I]at f;cases gk<;>simp[CW]at f
  |cons x cm=>
   obtain⟨av,bi,c4⟩:=Et I;obtain⟨g,cj,N,cv,ck,_,_⟩:=GD S av;simp only[QH]at N;obtain⟨rfl,_,rfl⟩:=N
   cases gk with
   |zero=>simp[CW]at f
   |succ gk=>
    rw[I,CW]at f
    by_cases am:x.kind=4
    ·rw[QQ am]at f;simp only[Qo]at f;have ch:((x.kind:Int) !=4)=false:=by rw[am];rfl
     have G:=Yh R;have W:=Yh f;clear R f I av bi S;go_wp2;go_ret3;rw[<-W.o];exact⟨_,xs,rfl,G.o,ab⟩
    ·rw[QP am]at f;have ch:((x.kind:Int) !=4)=true:=by rw[QR];omega
     cases u:Dl (x::cm)with
     |none=>rw[u]at f;simp at f
     |some cp=>
      rw[u]at f;simp only at f;rw[<-I,Dl]at u
      cases Q:Bo 1000 (ts.drop j) []with
      |none=>rw[Q]at u;simp at u
      |some r=>
       rw[Q]at u;simp only at u;obtain⟨nb,ao,M,a8,b4⟩:=Di 1000 _ [] r Q;simp only[JI,Qt]at M b4;have be:=ab.size;have bo:=Yh (PY 1000 wr ts j (slice (some ⟨g,0,none⟩) ts.length ay) w.heap.size wr.heap.size [] Nl r Q S (Q2 _ _ _ _) (Qe _) Yo Yp a4.o a1.o);have G:=Yh R;have W:=Yh f;have bx:=Yh u;have b3:=Yh S;have br:=Yh a8;clear R f u S I av bi Q a8;go_wp2_with fail;apply bo.o.mono;rintro e w3 ⟨a,b,c,nv,T,rfl,ar,cy,cz,aq,aa⟩;obtain⟨D,bn,ca,cl,cc,rfl,rfl,rfl⟩:=aq.shape;obtain⟨na,ax,rfl⟩:=Ab aa.owns;have ad:Ad A4 wr w3:=aa.kept.mono (fun k _ h=>by simp[Ak,Value.ownBlock]at h);have c3:=ad.size;have au:=ad.owns b3.o (fun _ _ h=>h);have J:=Yh au;have F:=Yh ad;have az:=Yh aq;have bp:=Yh aa;have b1:=Yh ar;have m:=bx.o;rw[ar]at m
       cases ac:ts.drop T with
       |nil=>rw[ac]at m;simp at m
       |cons y db=>
        rw[ac]at m;simp only at m;obtain⟨bj,bk,c5⟩:=Et ac;obtain⟨cq,cj,N,cw,bl,_,_⟩:=GD au bj;simp only[QH,Qo,Addr.mk.injEq]at N;obtain⟨⟨rfl,_⟩,_,rfl⟩:=N;have a5:=Yh bk;clear ad au aq aa ar ac bj bk ck
        by_cases al:y.kind=3
        ·rw[QQ al]at m;rw[JH]at m;obtain⟨q,bb,rfl⟩:=m;rw[al]at bl;have b0:=Yh bb;clear bb;have H:YH (w3.ownsRow wr.heap.size 9 1 (slice na r.2.2.length ax) r.2.2.length (Ba r.2.2)):=bp.o.owns
         have b7:T=j+nb:=by
          have a6:=congrArg List.length b1.o;rw[br.o]at a6;simp only[JI]at a6;omega
         have b9:r.2.2.length+(ts.length-(T+1))<=1000:=Yo
         clear b7;go_wp2_with fail;refine(UE 1000 1000 _ ts (T+1) _ (slice (some ⟨g,0,none⟩) ts.length ay) w.heap.size wr.heap.size r.2.2 (slice na r.2.2.length ax) q Yo (by rw[a5.o];exact b0.o) ((J.o.alloc _).alloc _) ((H.o.alloc _).alloc _) Yp Yo b9 a4.o a1.o).mono ?_;rintro e w5 ⟨co,da,cg,cn,rfl,bc,c0,c1,ap,K⟩;obtain⟨X,Y,rfl⟩:=Ab ap.owns;obtain⟨c8,c9,rfl⟩:=Ab K.owns;have a7:∀o ah,((w3.alloc o).alloc ah).heap[w3.heap.size+1]?=some ah:=fun o ah=>by
          have:=QL (w3.alloc o) ah;simpa using this
         have an:=a7 (.cells #[string D,int i64 bn,slice ca cl cc] 183) (.cells #[string D,int i64 bn,slice ca cl cc,Nl,int i64 0] 185);have ce:=K.kept.size;simp only[World.alloc,Array.size_push]at ce;have p:w5.heap[w3.heap.size+1]?=some (.cells #[string D,int i64 bn,slice ca cl cc,Nl,int i64 0] 185 (0,0)):=
          (K.kept.block (w3.heap.size+1) Ys (Ai ((H.o.alloc _).alloc _) Yd an)).trans an
         have df:w5.cell? ⟨w3.heap.size+1,3,none⟩=some Nl:=Aa p 3 _ rfl;have dg:w5.cell? ⟨w3.heap.size+1,4,none⟩=some (int i64 0):=Aa p 4 _ rfl;have dc:w5.cell? ⟨w3.heap.size+1,0,none⟩=some (string D):=Aa p 0 _ rfl;have dd:w5.cell? ⟨w3.heap.size+1,1,none⟩=some (int i64 bn):=Aa p 1 _ rfl;have de:w5.cell? ⟨w3.heap.size+1,2,none⟩=some (slice ca cl cc):=Aa p 2 _ rfl;have dh:=fun i=>Ag p i;have U:Ad (Ak (slice na r.2.2.length ax)) w3 w5:=(((Ad.refl _ w3).alloc _).alloc _).trans K.kept;have z:w3.ownsRow w.heap.size 185 5 (slice la d.length V) d.length xs.flatten:=F.o.owns G.o.owns (fun _ _ h=>h);have bd:w5.ownsRow w.heap.size 185 5 (slice la d.length V) d.length xs.flatten:=U.owns z (fun k l=>by
          obtain⟨Z,n⟩:=Ay z k l;exact Ai H.o Yd n)
         have bg:=U.owns J.o (fun k l=>by
          obtain⟨Z,n⟩:=Ay J.o k l;exact Ai H.o Yd n)
         have a9:∀k,(Value.slice la d.length V).ownBlock=some k->¬only (w3.heap.size+1) k:=fun k l e=>by
          have e:k=w3.heap.size+1:=e;have:=(z.lt k l).2;omega
         have ae:CL wr w3:=CL.of_kept F.o (fun _ _ h=>h);have O:CL w3 w5:=CL.of_apart U H.o Yd;have C:∀A B:Value,Ad (only (w3.heap.size+1)) w5 ((w5.setCell ⟨w3.heap.size+1,3,none⟩ A).setCell ⟨w3.heap.size+1,4,none⟩ B):=fun A B=>((Ad.refl _ w5).put 3 A).put 4 B;have P:∀A B:Value,CL w5 ((w5.setCell ⟨w3.heap.size+1,3,none⟩ A).setCell ⟨w3.heap.size+1,4,none⟩ B):=fun A B=>CL.of_kept (C A B) (fun k l e=>by
          have e:k=w3.heap.size+1:=e;subst e;obtain⟨Z,n⟩:=l;rw[p]at n;simp at n)
         have bt:=Yh (show Mp w5 [string D,int i64 bn,slice ca cl cc,slice X q.1.length Y,int i64 (q.2.2.length:Nat)] ⟨r.1,q.1,q.2.2⟩ from⟨D,bn,ca,cl,cc,_,_,_,_,cn,rfl,az.o.keep O,ap⟩);have a0:=Yh (fun A B:Value=>(C A B).owns bd a9);have bu:=Yh C;have bw:=Yh P;have bv:=Yh (ae.trans O);have a3:=Yh bg;have b2:=Yh bc;have bm:=Yh U;have bs:=Yh p;clear a7 an p U z bd bg a9 ae O C P ap K bc bl
         go_wp2_with (at_builtin;refine Al _ rfl (.tmp 69) (.tmp 71) 145 rfl w.heap.size 185 infoClause underlying145 rfl Yd _ d.length xs.flatten rfl (a0.o _ _) _ rfl Ys rfl Tw ?_ ?_ ?_)
         ·omega
         ·simp;omega
         intro ci ai L;have E:=Yh L;clear L;go_wp2
         go_roundg gk
         case measure=>omega
         case rel=>
          have af:=a0.o (slice X q.1.length Y) (int i64 (q.2.2.length:Nat));have C:=bu.o (slice X q.1.length Y) (int i64 (q.2.2.length:Nat));have P:=bw.o (slice X q.1.length Y) (int i64 (q.2.2.length:Nat));have b8:CL _ ai:=CL.of_apart E.o.kept af Yd;have cd:=G.o.keep (bv.o.trans P) af;have bh:=C.owns a3.o (fun k l e=>by
           have e:k=w3.heap.size+1:=e;subst e;exact Ai a3.o Yd bs.o l)
          refine⟨cg,d++[⟨r.1,q.1,q.2.2⟩],_,rfl,Yo,by simp;omega,by rw[<-b2.o];exact W.o,cd.add (bt.o.keep P) rfl b8 E.o.owns,?_,?_⟩
          ·have c6:=C.size;refine ab.trans ((F.o.below be (fun _ h=>h.elim)).trans ((bm.o.below Yo (fun k h=> ?_)).trans ((C.below Yo (fun k h=> ?_)).trans (E.o.kept.below Yo (fun k h=>(af.lt k h).1)))))
           ·have:=(H.o.lt k h).1;omega
           ·have h:k=w3.heap.size+1:=h;omega
          ·exact E.o.kept.owns bh (fun k l=>by
            obtain⟨Z,n⟩:=Ay bh k l;exact Ai af Yd n)
        ·rw[QP al]at m;simp only[Qo]at m;have c7:((y.kind:Int)==3)=false:=by rw[Qu];omega
         subst m
         go_wp2_with (at_builtin;refine Al _ rfl (.tmp 69) (.tmp 71) 145 rfl w.heap.size 185 infoClause underlying145 rfl Yd _ d.length xs.flatten rfl (((F.o.owns G.o.owns (fun _ _ h=>h)).alloc _).alloc _) _ rfl Ys rfl Tw ?_ ?_ ?_)
         ·omega
         ·simp;omega
         intro ci ai L;have E:=Yh L;clear L;go_wp2
         go_roundg gk
         case measure=>omega
         case rel=>
          have z:w3.ownsRow w.heap.size 185 5 (slice la d.length V) d.length xs.flatten:=F.o.owns G.o.owns (fun _ _ h=>h);have aw:Ad (Ak (slice la d.length V)) w3 ai:=(((Ad.refl _ w3).alloc _).alloc _).trans E.o.kept;have ae:CL wr w3:=CL.of_kept F.o (fun _ _ h=>h);have O:CL w3 ai:=CL.of_apart aw z Yd;have b5:Mp w3 [string D,int i64 bn,slice ca cl cc,Nl,int i64 (r.2.2.length:Nat)] ⟨r.1,[],r.2.2⟩:=⟨D,bn,ca,cl,cc,_,_,_,0,[],rfl,az.o,Fa.nil _ _ _⟩;have cb:=G.o.keep ae z;refine⟨T+1,d++[⟨r.1,[],r.2.2⟩],_,Yg,Yo,by simp;omega,by rw[a5.o];exact W.o,cb.add b5 rfl O E.o.owns,?_,?_⟩
          ·refine ab.trans ((F.o.below be (fun _ h=>h.elim)).trans (aw.below Yo (fun k h=>(z.lt k h).1)))
          ·exact aw.owns J.o (fun k l=>by
            obtain⟨Z,n⟩:=Ay J.o k l;exact Ai z Yd n)
def BE(c:Db):Lu:=
 if c.body=[]then(AO 1000 c.head []).1++[46,10]
 else(AO 1000 c.head []).1++[32,58,45,32]++(BQ 1000 [] c.body (AO 1000 c.head []).2.1++[46])++[10]
def Dd(c:Db):Nat:=c.head.length+c.body.flatten.length
theorem Kf(c:Db)(b:GT 1000 c.head)(d:∀l∈c.body,GT 1000 l)(e:∀s∈c.head,s.name.length<=4096)(f:∀s∈c.body.flatten,s.name.length<=4096)(h:Dd c<=900):
  (BE c).length<=4110*Dd c:=by
 unfold Dd at*;have a:=EK 1000 c.head b e [] (by simp only[Qt];omega);have g:=FR 1000 c.body d f [] (AO 1000 c.head []).2.1 Ys (by simp only[Qt]at a;omega);unfold BE;split
 ·simp only[Qg,Qf,Qt];omega
 ·simp only[Qg,Qf,Qt];omega
theorem Eg.cell{lo g:Nat}{xs:List (Lv)}(h:Eg w lo (slice (some ⟨g,0,none⟩) cs.length cap) cs xs){i:Nat}{x:Lv}(a:xs[i]?=some x)(j:Nat)(e:j<5)(v:Value)(b:x[j]?=some v):
  w.cell? ⟨g,i*5+j,none⟩=some v:=by
 refine Af h.owns (i*5+j) v ?_;have five:=h.five;clear h
 induction xs generalizing i with
 |nil=>simp at a
 |cons y k c=>
  have f:=five y Ys
  cases i with
  |zero=>
   simp at a;subst a;rw[Q4,Qc Yo];simpa using b
  |succ i=>
   rw[Q4,Qd Yo];rw[<-c (i:=i) (by simpa using a) (fun d hz=>five d (by simp[hz]))]
   congr 1
   omega
theorem WU(f:Db->Nat)(cs:Lc)(k:Nat)(c:Db)(h:cs[k]?=some c):((cs.take (k+1)).map f).sum=((cs.take k).map f).sum+f c:=by
 have a:k<cs.length:=(Qa.1 h).1;rw[List.take_succ_eq_append_getElem a,(Qa.1 h).2];simp
theorem Kp(f:Db->Nat)(cs:Lc)(k:Nat):((cs.take k).map f).sum<=(cs.map f).sum:=by
 induction cs generalizing k with
 |nil=>simp
 |cons c cs a=>
  cases k with
  |zero=>simp
  |succ k=>
   have:=a k;simp only[Q5,Qx,List.sum_cons];omega
theorem UT(cs:Lc)(k:Nat)(c:Db)(h:cs[k]?=some c):(cs.take (k+1)).flatMap BE=(cs.take k).flatMap BE++BE c:=by
 have a:k<cs.length:=(Qa.1 h).1;rw[List.take_succ_eq_append_getElem a,(Qa.1 h).2];simp
theorem NX(s:ByteArray)(w:World)(cs:Lc)(ah:s.size<=800)(J:(Bb (Ap s) (AD false)).1=0)(O:CW 1000 (Ap s) []=some cs)
  (a9:(cs.map Dd).sum<=900) (a0:cs.length<=900) (N:∀c∈cs,(∀s∈c.head,s.name.length<=4096)/\∀s∈c.body.flatten,s.name.length<=4096):
  Calls prog 84 #[string s] w fun e w'=>e=Rq #[string ⟨(cs.flatMap BE).toArray⟩,int i64 0,int i64 0]/\Below w.heap.size w w':=by
 have Y:=Yh (FV 1000);go_enter func84,ntmps84;go_wp2_with fail;apply(HT s _ cs ah J O).mono;rintro e w1 ⟨be,xs,rfl,z,y⟩;obtain⟨la,bb,rfl⟩:=Ab z.owns;have E:=Yh z;have R:=Yh y;have X:=Yh N;have aj:=y.size;clear z y N O J;go_wp2
 go_loopw [8,9] (fun aq i wr=>∃(k:Nat),k<=cs.length/\i=int i64 k/\aq=string ⟨((cs.take k).flatMap BE).toArray⟩/\((cs.take k).flatMap BE).length<=4110*((cs.take k).map Dd).sum/\Ad A4 w1 wr) (fun _ i _=>cs.length-(intOf i).toNat)
 case atStart=>exact⟨0,Qm _,rfl,Ys,Ys,Ad.refl _ _⟩
 case round=>
  obtain⟨k,a3,rfl,rfl,ae,d⟩:=hrel;have a7:=Kp Dd cs k
  by_cases af:k<cs.length
  ·obtain⟨c,f⟩:∃c,cs[k]?=some c:=⟨_,Qb af⟩;have ag:c∈cs:=Qh f;have ai:=WU Dd cs k c f;have a8:=Kp Dd cs (k+1);have A:=UT cs k c f;have M:CL w1 wr:=CL.of_kept d (fun _ _ h=>h);have a:=E.o.keep M (d.owns E.o.owns (fun _ _ h=>h));obtain⟨g,bc,bd,K,az,ad,a1⟩:=An a.owns Yo;simp only[QH]at K;obtain⟨rfl,_,rfl⟩:=K;obtain⟨x,l,Z⟩:=a.all k c f;obtain⟨an,bn,ca,cl,cc,ax,lo,hi,am,aw,rfl,t,j⟩:=Z;obtain⟨G,H,rfl⟩:=Ab j.owns;have ar:wr.cell? ⟨g,k*5,none⟩=some (string an):=a.cell l 0 Yo _ rfl;have au:wr.cell? ⟨g,k*5+1,none⟩=some (int i64 bn):=a.cell l 1 Yo _ rfl;have av:wr.cell? ⟨g,k*5+2,none⟩=some (slice ca cl cc):=a.cell l 2 Yo _ rfl;have P:wr.cell? ⟨g,k*5+3,none⟩=some (slice G c.body.length H):=a.cell l 3 Yo _ rfl;have I:Dd c<=900:=Yo
   have ab:=I;unfold Dd at ab;obtain⟨q,r⟩:=X.o c ag;have ak:=Kf c (t.isT 1000) j.isT q r I;have al:=EK 1000 c.head (t.isT 1000) q [] (by simp only[Qt];omega);simp only[Qt]at al;have ba:=FR 1000 c.body j.isT r [] (AO 1000 c.head []).2.1 Ys Yo;have a4:(AO 1000 c.head []).1.length<=5000000:=Yo
   have a5:(BQ 1000 [] c.body (AO 1000 c.head []).2.1).length<=5000000:=Yo
   have a6:((cs.take k).flatMap BE).length<=5000000:=Yo
   have W:=Yh r;have Q:=Yh (Y.o wr lo hi _ _ _ c.head 0 [] Nl t (Q2 _ _ _ _) Yo q (by simp only[Qt];omega));have U:=Yh j;have m:=Yh d;have F:=Yh A;have D:YH (((cs.take (k+1)).flatMap BE).length<=4110*((cs.take (k+1)).map Dd).sum):=by
    show _<=_;rw[A,Qg,ai];omega
   clear ae d M a t j A q r l ad ak f;generalize ac:(cs.take k).flatMap BE=dt at*;clear ac;go_wp2_with fail;apply Q.o.mono;rintro e w2 ⟨bf,rfl,n⟩;obtain⟨ao,ap,rfl⟩:=Ab n.owns;have p:Ad A4 wr w2:=n.kept.mono (fun k _ h=>by simp[Ak,Value.ownBlock]at h);have bg:w2.cell? ⟨g,k*5+3,none⟩=some (slice G c.body.length H):=p.cell P (fun h=>h);have C:=Yh p;have B:=Yh n;have V:=Yh (U.o.keep (CL.of_kept p (fun _ _ h=>h)));clear n p ar au av P
   by_cases b:c.body=[]
   ·have aa:(((c.body.length:Nat):Int)==0)=true:=by rw[b];rfl
    have u:YH ((⟨dt.toArray⟩:ByteArray)++⟨(AO 1000 c.head []).1.toArray⟩++⟨[46,10].toArray⟩=⟨((cs.take (k+1)).flatMap BE).toArray⟩):=by
     show _=_;rw[AA,AA,F.o,BE,QQ b];simp
    clear b;go_wp2
    go_roundw
    case rel=>exact⟨k+1,Yo,Yg,by rw[<-u.o],D.o,m.o.trans C.o⟩
    case measure=>simp[intOf];omega
   ·have aa:(((c.body.length:Nat):Int)==0)=false:=by
     rw[Qu];intro h;apply b;apply QS;omega
    have u:YH ((⟨dt.toArray⟩:ByteArray)++⟨(AO 1000 c.head []).1.toArray⟩++⟨[32,58,45,32].toArray⟩++⟨(BQ 1000 [] c.body (AO 1000 c.head []).2.1++[46]).toArray⟩++⟨[10].toArray⟩=⟨((cs.take (k+1)).flatMap BE).toArray⟩):=by
     show _=_;rw[AA,AA,AA,AA,F.o,BE,QP b];simp
    clear b;go_wp2_with fail;apply(LQ 1000 w2 _ 0 (AO 1000 c.head []).2.1 (slice ao (AO 1000 c.head []).2.1.length ap) am aw c.body V.o B.o.owns Yo W.o Yo).mono;rintro e w3 ⟨rfl,L⟩;have T:YH (Ad A4 wr w3):=C.o.then L (fun i hi h=>by
     rcases B.o.where_ with v|⟨ay,v,a2⟩
     ·have:=v.symm.trans h;simp[Value.ownBlock]at this
     ·have:=v.symm.trans h;simp at this;omega)
    clear L;go_wp2
    go_roundw
    case rel=>exact⟨k+1,Yo,Yg,by rw[<-u.o],D.o,m.o.trans T.o⟩
    case measure=>simp[intOf];omega
  ·have S:YH ((cs.take k).flatMap BE=cs.flatMap BE):=by show _=_;rw[JS Yo]
   have m:=Yh d;clear d;go_wp2;go_ret3;rw[S.o];exact⟨rfl,R.o.trans (m.o.below aj (fun _ h=>h.elim))⟩
def Jj(ts:List BV)(L:Bj):Prop:=(Bb ts L).1=0
def fin:List BV->Prop
 |[]=>False
 |t::ts=>t.kind=4\/fin ts
theorem D4{t:BV}{ts:List BV}(h:Jj (t::ts) L)(hn:¬(t.kind=4/\(L.want=5\/L.want=0))):(Bi L t.kind t.text.length).err=0/\Jj ts (Bi L t.kind t.text.length):=by
 unfold Jj at h;rw[Bb,QP hn]at h
 by_cases a:(Bi L t.kind t.text.length).err=0
 ·rw[QP (by simp[a])]at h;exact⟨a,h⟩
 ·rw[QQ a]at h;exact absurd h a
structure X5(rest:List BV)(L L':Bj)(stk:List Nat):Prop where
 ok:Jj rest L'
 fin:fin rest
 want:L'.want=4\/(L'.want=3/\∀y ys,rest=y::ys->y.kind≠40)
 stk:L'.stk=stk
 err:L'.err=0
 query:L'.query=L.query
 body:L'.body=(if L.want=0 then false else L.body)
theorem EX{kd a:Nat}(b:L.err=0)(h:(AH L kd a).err=0):kd=1\/(kd=2/\L.want=2):=by
 unfold AH at h;split at h
 ·simp at h
 ·omega
theorem Ia{kd a:Nat}(h:(AH L kd a).err=0)(b:kd=1\/(kd=2/\L.want=2)):
  (AH L kd a).want=(if kd=1 then 3 else 4)/\(AH L kd a).stk=(AR L).stk/\(AH L kd a).query=L.query/\(AH L kd a).body=(if L.want=0 then false else L.body):=by
 have hn:¬(kd≠1/\(kd≠2\/L.want≠2)):=Yo
 unfold AH;rw[QP hn];refine⟨rfl,rfl,?_,?_⟩
 ·show(AR L).query=_;unfold AR;split
  ·rfl
  ·split
   ·rfl
   ·split<;>rfl
 ·show(AR L).body=_;unfold AR;split
  ·rfl
  ·split
   ·rfl
   ·split<;>rfl
theorem VQ{y:BV}{c:List BV}{a:Bj}{n:Nat}{r:List Nat}(h:X5 (y::c) L a (n::r)):
  (y.kind=44/\Jj c (Am a 44)/\fin c/\(Am a 44)={a with want:=2})\/(y.kind=41/\Jj c (Am a 41)/\fin c/\(Am a 41)={a with stk:=r,want:=4}):=by
 have b:¬a.want<=2/\a.want≠5/\a.want≠0:=by rcases h.want with b|⟨b,_⟩<;>omega
 have l:¬(y.kind=4/\(a.want=5\/a.want=0)):=Yo
 obtain⟨e,d⟩:=D4 h.ok l;unfold Bi at e d;rw[QP b.1,QP b.2.1]at e d;have i:=h.stk;have m:¬(y.kind=40/\a.want=3):=by
  rintro⟨k,q⟩;rcases h.want with b|⟨_,b⟩
  ·omega
  ·exact b y c rfl k
 have j:y.kind≠4->fin c:=fun p=>by
  rcases h.fin with h|h
  ·exact absurd h p
  ·exact h
 by_cases g:y.kind=44
 ·left;rw[g]at d;exact⟨g,d,j Yo,by simp[Am,i]⟩
 ·by_cases f:y.kind=41
  ·right;rw[f]at d;exact⟨f,d,j Yo,by simp[Am,i]⟩
  ·exfalso;simp[Am,i,g,f]at e;split at e
   ·rename_i o;exact m o
   ·simp at e
def WL(n:Nat):Prop:=∀(ts:List BV)(L:Bj)(f:Nat)(names:At),ts.length<=n->ts.length<=f->Jj ts L->fin ts->L.want<=2->L.err=0->(L.want=2->L.stk≠[])->(∀t r,ts=t::r->t.kind≠4)->
 ∃r L',Bo f ts names=some r/\X5 r.2.1 L L' (AR L).stk/\r.2.1.length<ts.length
theorem WW(n f:Nat)(z:WL n):∀(g:Nat)(x:BV)(xs:List BV)(L:Bj)(m:Nat)(r:List Nat)(names:At)(c:Ll),xs.length<=n->xs.length<=f->xs.length+1<=g->x.kind≠41->
  Jj xs L->fin xs->L.want=2->L.stk=m::r->L.err=0->
  ∃q A,Cy (Bo f) g (x::xs) names c=some q/\X5 q.2.1 L A r/\q.2.1.length<xs.length:=by
 intro g
 induction g with
 |zero=>intro x xs L m r names c k C D;omega
 |succ g K=>
  intro x xs L m r names c k C D E o G u s l;have J:∀t r,xs=t::r->t.kind≠4:=by
   rintro t r rfl M;have:=(D4 o Yo).1;unfold Bi at this;rw[QQ Yo]at this;rcases EX l this with h|h<;>omega
  obtain⟨d,j,I,ha,hl⟩:=z xs L f names k Yo o G Yo l (by rw[s];simp) J;have H:(AR L).stk=(m+1)::r:=by simp[AR,u,s]
  rw[H]at ha;rw[Cy,QP E,I];simp only
  cases p:d.2.1 with
  |nil=>rw[p]at ha;exact ha.fin.elim
  |cons y w=>
   rw[p]at ha hl;simp only[Qf]at hl;rcases VQ ha with⟨v,i,e,a⟩|⟨v,i,e,a⟩
   ·obtain⟨q,B,F,b,N⟩:=K y w (Am j 44) (m+1) r d.2.2 (c++[d.1]) Yo Yo Yo Yo i e (by rw[a]) (by rw[a];exact ha.stk) (by rw[a];exact ha.err);refine⟨q,B,F,⟨b.ok,b.fin,b.want,b.stk,b.err,?_,?_⟩,Yo⟩
    ·rw[b.query,a];exact ha.query
    ·rw[b.body,a];have:=ha.body;simp[u]at this⊢;exact this
   ·refine⟨(c++[d.1],w,d.2.2),Am j 41,?_,⟨i,e,QG (by rw[a]),by rw[a],by rw[a];exact ha.err,by rw[a];exact ha.query,by rw[a];exact ha.body⟩,by simp;omega⟩
    cases g with
    |zero=>omega
    |succ g=>rw[Cy,QQ v]
theorem TQ:∀n,WL n:=by
 intro n
 induction n with
 |zero=>
  intro ts L f names e l x g
  cases ts with
  |nil=>exact g.elim
  |cons t ts=>simp at e
 |succ n A=>
  intro ts L f names e l x g J E M I
  cases ts with
  |nil=>exact g.elim
  |cons t ts=>
   have C:=I t ts rfl;simp only[Qf]at e l
   cases f with
   |zero=>omega
   |succ f=>
    obtain⟨b,d⟩:=D4 x Yo;unfold Bi at b d;rw[QQ J]at b d;have G:=EX E b;obtain⟨k,p,r,s⟩:=Ia b G;have i:fin ts:=by
     rcases g with h|h
     ·exact absurd h C
     ·exact h
    by_cases o:t.kind=2
    ·rw[Bo,QQ o];exact⟨_,AH L t.kind t.text.length,rfl,⟨d,i,QG (by rw[k,o];rfl),p,b,r,s⟩,Ys⟩
    ·have H:t.kind=1:=Yo
     rw[Bo,QP o]
     cases ts with
     |nil=>exact i.elim
     |cons u v=>
      rw[FF];simp only[Qf]at e l;rw[QQ H]at k
      by_cases j:u.kind=40
      ·rw[QP (by simp[j])];obtain⟨w,m⟩:=D4 d Yo;unfold Bi at w m;rw[QP Yo,QP Yo,j]at w m;have c:Am (AH L t.kind t.text.length) 40={AH L t.kind t.text.length with stk:=0::(AH L t.kind t.text.length).stk,want:=2}:=by
        simp[Am,k]
       have F:fin v:=by
        rcases i with h|h
        ·omega
        ·exact h
       obtain⟨q,B,D,a,K⟩:=WW n f A (v.length+1) u v _ 0 (AR L).stk names [] Yo Yo Yo Yo m F (by rw[c]) (by rw[c,<-p]) (by rw[c];exact b);rw[D];refine⟨_,B,rfl,⟨a.ok,a.fin,a.want,a.stk,a.err,?_,?_⟩,by simp;omega⟩
       ·rw[a.query,c];exact r
       ·rw[a.body,c];simpa using s
      ·rw[QQ j];refine⟨_,AH L t.kind t.text.length,rfl,⟨d,i,QO ⟨k,?_⟩,p,b,r,s⟩,Ys⟩;intro y N z;simp at z;rw[<-z.1];exact j
theorem KY{y:BV}{c:List BV}{a:Bj}(h:X5 (y::c) L a []):
  (y.kind=44/\a.body=true/\Jj c (Am a 44)/\fin c/\(Am a 44)={a with want:=1})\/
  (y.kind=3/\a.body=false/\Jj c (Am a 3)/\fin c/\(Am a 3)={a with body:=true,goals:=0,want:=1})\/
  (y.kind=46/\Jj c (Am a 46)/\fin c/\(Am a 46)={a with want:=if a.query then 5 else 0}):=by
 have e:¬a.want<=2/\a.want≠5/\a.want≠0:=by rcases h.want with e|⟨e,_⟩<;>omega
 have m:¬(y.kind=4/\(a.want=5\/a.want=0)):=Yo
 obtain⟨b,d⟩:=D4 h.ok m;unfold Bi at b d;rw[QP e.1,QP e.2.1]at b d;have f:=h.stk;have n:¬(y.kind=40/\a.want=3):=by
  rintro⟨l,r⟩;rcases h.want with e|⟨_,e⟩
  ·omega
  ·exact e y c rfl l
 have k:y.kind≠4->fin c:=fun q=>by
  rcases h.fin with h|h
  ·exact absurd h q
  ·exact h
 by_cases i:y.kind=44
 ·left;rw[i]at d b
  cases hb:a.body
  ·simp[Am,f,hb]at b
  ·exact⟨i,rfl,d,k Yo,by simp[Am,f,hb]⟩
 ·by_cases g:y.kind=3
  ·right;left;rw[g]at d b
   cases hb:a.body
   ·exact⟨g,rfl,d,k Yo,by simp[Am,f,hb]⟩
   ·simp[Am,f,hb]at b
  ·by_cases j:y.kind=46
   ·right;right;rw[j]at d b;refine⟨j,d,k Yo,?_⟩
    cases p:a.query<;>simp[Am,f,p]
   ·exfalso;simp[Am,f,i,g,j]at b;split at b
    ·rename_i o;exact n o
    ·simp at b
theorem Tx{ts:List BV}(b:Jj ts L)(d:L.want=1)(a:L.err=0):∀t r,ts=t::r->t.kind≠4:=by
 rintro t r rfl c;have:=(D4 b Yo).1;unfold Bi at this;rw[QQ Yo]at this;rcases EX a this with h|h<;>omega
theorem PB:∀(g:Nat)(ts:List BV)(L:Bj)(names:At)(c:Ll),ts.length<=g->ts.length<=1000->Jj ts L->fin ts->L.want=1->L.stk=[]->L.body=true->L.err=0->
  ∃q b,BG 1000 g ts names c=some q/\Jj q.2.1 b/\fin q.2.1/\b.want=(if L.query then 5 else 0)/\b.stk=[]/\b.err=0/\b.query=L.query/\q.2.1.length<ts.length:=by
 intro g
 induction g with
 |zero=>
  intro ts L names c l n i f
  cases ts with
  |nil=>exact f.elim
  |cons t ts=>simp at l
 |succ g H=>
  intro ts L names c l n i f v G hb s;obtain⟨k,d,E,ha,hl⟩:=TQ ts.length ts L 1000 names (Qe _) n i f Yo s Yo (Tx i v s);have D:(AR L).stk=[]:=by simp[AR,v,G]
  rw[D]at ha;have p:d.body=true:=by rw[ha.body,QP Yo];exact hb
  rw[BG,E];simp only
  cases u:k.2.1 with
  |nil=>rw[u]at ha;exact ha.fin.elim
  |cons y I=>
   rw[u]at ha hl;simp only[Qf]at hl;simp only;rcases KY ha with⟨j,_,h,e,a⟩|⟨j,r,_⟩|⟨j,h,e,a⟩
   ·rw[QP Yo];obtain⟨q,w,z,A,B,o,C,x,m,J⟩:=H I (Am d 44) k.2.2 (c++[k.1]) Yo Yo h e (by rw[a]) (by rw[a];exact ha.stk) (by rw[a];exact p) (by rw[a];exact ha.err);have F:(Am d 44).query=L.query:=by rw[a];exact ha.query
    rw[F]at o m;exact⟨q,w,z,A,B,o,C,x,m,Yo⟩
   ·rw[p]at r;cases r
   ·rw[QQ j];exact⟨_,_,rfl,h,e,by rw[a,ha.query],by rw[a];exact ha.stk,by rw[a];exact ha.err,by rw[a];exact ha.query,by simp;omega⟩
theorem T0(ts:List BV)(L:Bj)(u:ts.length<=1000)(F:Jj ts L)(C:fin ts)(n:L.want=0)(H:L.stk=[])(B:L.err=0)(l:L.query=false)(E:∀t r,ts=t::r->t.kind≠4):
  ∃c b,Dl ts=some c/\Jj c.2 b/\fin c.2/\b.want=0/\b.stk=[]/\b.err=0/\b.query=false/\c.2.length<ts.length:=by
 obtain⟨o,d,G,ha,hl⟩:=TQ ts.length ts L 1000 [] (Qe _) u F C Yo B Yo E;have D:(AR L).stk=[]:=by simp[AR,n,H]
 rw[D]at ha;have A:d.body=false:=by rw[ha.body,QQ n]
 rw[Dl,G];simp only
 cases m:o.2.1 with
 |nil=>rw[m]at ha;exact ha.fin.elim
 |cons y I=>
  rw[m]at ha hl;simp only[Qf]at hl;simp only;rcases KY ha with⟨h,k,_⟩|⟨h,_,g,f,a⟩|⟨h,g,f,a⟩
  ·rw[A]at k;cases k
  ·rw[QQ h];obtain⟨q,p,v,w,x,j,z,s,i,J⟩:=PB 1000 I (Am d 3) o.2.2 [] Yo Yo g f (by rw[a]) (by rw[a];exact ha.stk) (by rw[a]) (by rw[a];exact ha.err);have e:(Am d 3).query=false:=by rw[a];exact ha.query.trans l
   rw[e]at j i;rw[v];exact⟨_,p,rfl,w,x,by simpa using j,z,s,i,by simp;omega⟩
  ·rw[QP Yo];have e:d.query=false:=ha.query.trans l;exact⟨_,_,rfl,g,f,by rw[a,e];rfl,by rw[a];exact ha.stk,by rw[a];exact ha.err,by rw[a];exact e,by simp;omega⟩
theorem XF:∀(g:Nat)(ts:List BV)(L:Bj)(b:Lc),ts.length<=g->ts.length<=1000->Jj ts L->fin ts->L.want=0->L.stk=[]->L.err=0->L.query=false->∃cs,CW g ts b=some cs:=by
 intro g
 induction g with
 |zero=>
  intro ts L b d f i a
  cases ts with
  |nil=>exact a.elim
  |cons t ts=>simp at d
 |succ g x=>
  intro ts L b d f i a w v r u
  cases ts with
  |nil=>exact a.elim
  |cons t ts=>
   rw[CW]
   by_cases h:t.kind=4
   ·rw[QQ h];exact⟨_,rfl⟩
   ·rw[QP h];obtain⟨c,j,s,m,n,o,p,q,k,l⟩:=T0 (t::ts) L f i a w v r u (fun z y e=>by simp at e;rw[<-e.1];exact h);rw[s];simp only;simp only[Qf]at d f l;exact x c.2 j _ Yo Yo m n o p q k
theorem IP(l:List BV)(p:Nat):fin (l++[⟨4,[],p⟩]):=by
 induction l with
 |nil=>exact QG rfl
 |cons t l a=>exact QO a
theorem Ow(ts:List BV)(c:Db×List BV)(m:∀t∈ts,t.text.length<=M)(h:Dl ts=some c):
  Dd c.1+c.2.length<=ts.length/\1<=Dd c.1+0*M/\(∀s∈c.1.head,s.name.length<=M)/\(∀s∈c.1.body.flatten,s.name.length<=M)/\∀t∈c.2,t.text.length<=M:=by
 rw[Dl]at h
 cases a:Bo 1000 ts []with
 |none=>rw[a]at h;simp at h
 |some r=>
  rw[a]at h;simp only at h;obtain⟨e,f,b⟩:=Ld 1000 ts [] r m a;have v:1<=r.1.length:=by
   cases i:ts with
   |nil=>rw[i]at a;simp[Bo]at a
   |cons t o=>
    rw[i,Bo]at a;split at a
    ·simp at a;rw[<-a];simp
    ·cases o with
     |nil=>simp[FF]at a
     |cons u w=>
      rw[FF]at a;split at a
      ·simp at a;rw[<-a];simp
      ·rw[JH]at a;obtain⟨q,_,rfl⟩:=a;simp
  cases g:r.2.1 with
  |nil=>rw[g]at h;simp at h
  |cons y p=>
   rw[g]at h e b;simp only[Qf]at h e;split at h
   ·rw[JH]at h;obtain⟨q,n,rfl⟩:=h;obtain⟨j,k,l⟩:=FN 1000 p r.2.2 [] q (fun t d=>b t (by simp[d])) Ys n;simp only[QY,Qt]at j;refine⟨?_,?_,f,k,l⟩
    ·unfold Dd;simp only;omega
    ·unfold Dd;simp only;omega
   ·simp at h;subst h;refine⟨?_,?_,f,Ys,fun t d=>b t (by simp[d])⟩
    ·unfold Dd;simp;omega
    ·unfold Dd;simp;omega
theorem L9:∀(g:Nat)(ts:List BV)(a cs:Lc),(∀t∈ts,t.text.length<=M)->(∀c∈a,(∀s∈c.head,s.name.length<=M)/\∀s∈c.body.flatten,s.name.length<=M)->CW g ts a=some cs->
  (cs.map Dd).sum<=(a.map Dd).sum+ts.length/\cs.length+(a.map Dd).sum<=a.length+(cs.map Dd).sum/\∀c∈cs,(∀s∈c.head,s.name.length<=M)/\∀s∈c.body.flatten,s.name.length<=M:=by
 intro g
 induction g with
 |zero=>intro ts a cs _ _ h;simp[CW]at h
 |succ g p=>
  intro ts a cs n b h
  cases ts with
  |nil=>simp[CW]at h
  |cons t ts=>
   rw[CW]at h;split at h
   ·simp at h;subst h;exact⟨Yo,Yo,b⟩
   ·split at h
    ·simp at h
    ·rename_i c o;obtain⟨e,q,f,i,j⟩:=Ow (t::ts) c n o;obtain⟨k,l,m⟩:=p c.2 (a++[c.1]) cs j (fun d hd=>by
      simp at hd;rcases hd with hd|rfl
      ·exact b d hd
      ·exact⟨f,i⟩) h
     simp only[Qr,Qx,QX,List.sum_append,List.sum_cons,List.sum_nil,Qg,Qf,Qt]at k l;simp only[Qf]at e⊢;exact⟨Yo,Yo,m⟩
def BK(s:ByteArray):Lu×Nat×Nat:=
 if 800<s.size then([],1,0)
 else if(Bb (Ap s) (AD false)).1≠0 then([],(Bb (Ap s) (AD false)).1,(Bb (Ap s) (AD false)).2)
 else match CW 1000 (Ap s) []with
  |none=>([],0,0)
  |some cs=>(cs.flatMap BE,0,0)
theorem PP(s:ByteArray)(c:s.size<=120)(h:(Bb (Ap s) (AD true)).1=0):∃q,BG 1000 1000 (Ap s) [] []=some q:=by
 have hl:=BM s;obtain⟨q,b,a,_⟩:=PB 1000 (Ap s) (AD true) [] [] Yo Yo h (IP _ _) rfl rfl rfl rfl;exact⟨q,a⟩
theorem MN(s:ByteArray)(a:s.size<=800)(h:(Bb (Ap s) (AD false)).1=0):∃cs,CW 1000 (Ap s) []=some cs:=by
 have hl:=BM s;exact XF 1000 (Ap s) (AD false) [] Yo Yo h (IP _ _) rfl rfl rfl rfl
theorem Ss(s:ByteArray)(w:World)(a:s.size<=maxLen):
  Calls prog 86 #[string s] w fun e w'=>e=Rq #[string ⟨(B5 s).1.toArray⟩,int i64 (B5 s).2.1,int i64 (B5 s).2.2]/\Below w.heap.size w w':=
 UM s w a (PP s)
theorem On(s:ByteArray)(w:World)(h:s.size<=maxLen):
  Calls prog 84 #[string s] w fun e w'=>e=Rq #[string ⟨(BK s).1.toArray⟩,int i64 (BK s).2.1,int i64 (BK s).2.2]/\Below w.heap.size w w':=by
 by_cases b:800<s.size
 ·have a:BK s=([],1,0):=by rw[BK,QQ b]
  rw[a];clear a;go_enter func84,ntmps84;go_wp2_with fail;apply(Ge s _ h b).mono;rintro e w1 ⟨rfl,hb⟩;have c:=Yh hb;clear hb;go_wp2;go_ret3;exact⟨rfl,c.o⟩
 ·by_cases d:(Bb (Ap s) (AD false)).1≠0
  ·have a:BK s=([],(Bb (Ap s) (AD false)).1,(Bb (Ap s) (AD false)).2):=by rw[BK,QP b,QQ d]
   rw[a];clear a;have m:(((Bb (Ap s) (AD false)).1:Int) !=0)=true:=by rw[QR];omega
   go_enter func84,ntmps84;go_wp2_with fail;apply(G6 s _ Yo d).mono;rintro e w1 ⟨rfl,hb⟩;have c:=Yh hb;clear hb;go_wp2;go_ret3;exact⟨rfl,c.o⟩
  ·have g:(Bb (Ap s) (AD false)).1=0:=Yo
   obtain⟨cs,f⟩:=MN s Yo g;have a:BK s=(cs.flatMap BE,0,0):=by rw[BK,QP b,QP d,f]
   rw[a];have hl:=BM s;obtain⟨j,k,l⟩:=L9 (M:=4096) 1000 (Ap s) [] cs (fun t i=>by have:=Cu s t i;omega) Ys f;simp only[QX,List.sum_nil,Qt]at j k;exact NX s w cs Yo g f Yo Yo l
end Go.Proofs.YtlmjilpjmgjjcaaGreatDoor
