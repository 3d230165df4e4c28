/-
  PROVED HERE: what the program's 'clause.atomText' answers (the conditions stand in each statement).
-/
import Derived.Test.YtlmjilpjmgjjcaaGreatDoorT1
import Derived.BigRegion
import Derived.Deep.RegionLaw
import Derived.Deep.RegionLawGrows
import Derived.Deep.RegionWith
set_option linter.unusedSimpArgs false
set_option linter.unusedVariables false
set_option maxRecDepth 10000
set_option maxHeartbeats 4000000
namespace Go.Proofs.YtlmjilpjmgjjcaaGreatDoor
open Go.RowKit
open Tryz
variable{w w' w1 w2 w0 wr:World}{n k B b i p size cap M rb bW x:Nat}{v cv gv vv lv:Value}{xs ys vs:Lv}{X Y S:Np}{s:ByteArray}{t e:TypeId}{fr:Nat×Nat}{P:Program}{l:Ly}{ls ts:Ll}{ρ:Nat->Nat}{σ:Nat->Ly}{a:Ll×At}{L:Bj}{G:Gr}{A:List Lu}
structure Dt where
 head:List BL
 body:List (List BL)
 names:At
def Dt.n(c:Dt):Nat:=c.names.length
def AX(v:Nat):Nat->Ly:=fun n=>vr (n+v)
theorem LF(v:Nat):Ts (AX v):=fun n=>KJ _
def Fo(σ:Nat->Ly)(gs:List (Ly×Nat)):List (Ly×Nat):=gs.map (fun g=>(ap σ g.1,g.2))
structure ND where
 goals:List (List BL×Nat)
 vals:List (List BL)
 done:List (List BL×Nat)
 used:List Nat
 vars:Nat
def FL(g:Ly×Nat):Bool:=decide (30<g.1.length)
def Hh(n:ND):Bool:=(decide (40<n.goals.length)||decide (100<n.used.length))||n.goals.any FL||n.done.any FL
def Cy(n:ND):Nat:=if Hh n then 3 else if n.goals=[]then 2 else 1
def Au(σ:Nat->Ly)(n:ND)(c:Dt)(k:Nat)(g:Ly×Nat)(gs:List (Ly×Nat)):ND:=
 ⟨Fo σ (c.body.map (fun t=>(ap (AX n.vars) t,g.2+1))++gs),n.vals.map (ap σ),Fo σ (n.done++[g]),n.used++[k],n.vars+c.n⟩
def ND.terms(n:ND):Ll:=n.goals.map (·.1)++(n.vals++n.done.map (·.1))
structure FU(n:ND):Prop where
 wf:∀t∈n.terms,Wf 1 t
 occ:∀t∈n.terms,∀v,Cj v t->v<n.vars
 gs:∀g∈n.goals,g.1.length<=30/\g.2<=n.used.length
 ds:∀g∈n.done,g.1.length<=30/\g.2<=n.used.length
 vs:∀t∈n.vals,∃x∈n.goals++n.done,∃a b,x.1=a++t++b
 gl:n.goals.length<=40
 dl:n.done.length=n.used.length
 ul:n.used.length<=100
 vl:n.vals.length<=1000
 vars:n.vars<=1000*(n.used.length+1)
theorem FU.vsize{n:ND}(h:FU n){t:Ly}(d:t∈n.vals):t.length<=30:=by
 obtain⟨x,c,a,b,e⟩:=h.vs t d;have hl:x.1.length<=30:=by
  rcases Qk.1 c with c|c
  ·exact(h.gs x c).1
  ·exact(h.ds x c).1
 rw[e]at hl;simp at hl;omega
structure Kl(c:Dt):Prop where
 wfh:Wf 1 c.head
 wfb:∀t∈c.body,Wf 1 t
 och:∀v,Cj v c.head->v<c.n
 ocb:∀t∈c.body,∀v,Cj v t->v<c.n
 n:c.n<=1000
 hl:c.head.length<=30
 bl:∀t∈c.body,t.length<=30
 bn:c.body.length<=6
structure Co(n m:ND):Prop where
 used:n.used=m.used
 vars:n.vars=m.vars
 gd:n.goals.map (·.2)=m.goals.map (·.2)
 dd:n.done.map (·.2)=m.done.map (·.2)
 vl:n.vals.length=m.vals.length
 al:DQ n.terms m.terms
theorem Co.gl{n m:ND}(h:Co n m):n.goals.length=m.goals.length:=by simpa using congrArg List.length h.gd
theorem Co.dl{n m:ND}(h:Co n m):n.done.length=m.done.length:=by simpa using congrArg List.length h.dd
theorem Co.symm{n m:ND}(h:Co n m):Co m n:=⟨h.used.symm,h.vars.symm,h.gd.symm,h.dd.symm,h.vl.symm,h.al.symm⟩
theorem Co.refl{n:ND}(h:FU n):Co n n:=⟨rfl,rfl,rfl,rfl,rfl,DQ.refl (fun x a=>⟨1,h.wf x a⟩)⟩
theorem MB{e β:Type}{f:e->β}{a b:List e}{c d:List β}(h:c++d=(a++b).map f)(hl:c.length=a.length):c=a.map f/\d=b.map f:=by
 rw[Qr]at h;exact List.append_inj h (by simp[hl])
theorem HL.trans{xs a zs:Ll}(h:HL xs a)(k:HL a zs):HL xs zs:=by
 obtain⟨d,b,rfl⟩:=h;obtain⟨e,c,rfl⟩:=k;refine⟨_,Te b c,?_⟩;rw[QK];exact List.map_congr_left (fun x _=>MU e d x)
theorem DQ.trans{xs a zs:Ll}(h:DQ xs a)(k:DQ a zs):DQ xs zs:=⟨h.1.trans k.1,k.2.trans h.2⟩
theorem Co.trans{n m o:ND}(h:Co n m)(k:Co m o):Co n o:=⟨h.used.trans k.used,h.vars.trans k.vars,h.gd.trans k.gd,h.dd.trans k.dd,h.vl.trans k.vl,h.al.trans k.al⟩
theorem K2(σ:Nat->Ly)(l:List (Ly×Nat)):(Fo σ l).map (·.1)=(l.map (·.1)).map (ap σ):=by simp[Fo]
theorem I7(σ:Nat->Ly)(l:List (Ly×Nat)):(Fo σ l).map (·.2)=l.map (·.2):=by simp[Fo]
theorem Fx{V:Nat}{l:Ly}{v:Nat}(h:Cj v (ap (AX V) l)):∃u,Cj u l/\v=u+V:=by
 obtain⟨u,b,a⟩:=JJ.1 h;exact⟨u,b,Ez.1 a⟩
theorem E5(σ:Nat->Ly)(n:ND)(c:Dt)(k:Nat)(g:Ly×Nat)(gs:List (Ly×Nat)):
  (Au σ n c k g gs).terms=(c.body.map (ap (AX n.vars))++gs.map (·.1)).map (ap σ)++(n.vals.map (ap σ)++(n.done.map (·.1)++[g.1]).map (ap σ)):=by
 simp[ND.terms,Au,K2,Function.comp_def]
theorem KG{n m:ND}(hn:FU n)(K:FU m)(a:Co n m){c:Dt}(I:Kl c)(k:Nat){g b:Ly×Nat}{gs d:List (Ly×Nat)}(i:n.goals=g::gs)(p:m.goals=b::d)
  {σ r:Nat->Ly} (B:I5 σ g.1 (ap (AX n.vars) c.head)) (o:I5 r b.1 (ap (AX m.vars) c.head)):
  HL (Au σ n c k g gs).terms (Au r m c k b d).terms:=by
 have q:=a.vars;have D:=a.vl;have J:=a.dl;have j:=a.gl;have f:=a.al.1;have l:=hn.occ;unfold ND.terms at f l;rw[i,p,Qx,Qx,Qy,Qy]at f;rw[i,Qx,Qy]at l;rw[<-q]at o;have F:=HL.fit (V:=n.vars) (zs:=c.body.map (ap (AX n.vars))) f (fun x E=>l x E) (fun v h=>by obtain⟨u,_,e⟩:=Fx h;omega)
  (fun L hz v h=>by
   obtain⟨t,_,rfl⟩:=Q0.1 hz;obtain⟨u,_,e⟩:=Fx h;omega) B o
 obtain⟨H,C,e⟩:=F;refine⟨H,C,?_⟩;rw[Qr]at e;rw[Qr]at e;rw[i,p]at j;simp only[Qf,Nat.add_right_cancel_iff]at j;obtain⟨s,e⟩:=MB e Ys;simp only[Qx,Qr]at e;simp only[QI]at e;obtain⟨w,e⟩:=e;have G:d.length=gs.length:=j.symm;obtain⟨y,e⟩:=List.append_inj e (by simp[G]);obtain⟨z,A⟩:=List.append_inj e (by simp[D]);rw[E5,E5,<-q];simp only[Qr,Qx,List.map_nil];rw[s,w,y,z,A]
theorem Rw{n m:ND}(hn:FU n)(o:FU m)(a:Co n m){c:Dt}(l:Kl c)(k:Nat){g d:Ly×Nat}{gs h:List (Ly×Nat)}(e:n.goals=g::gs)(f:m.goals=d::h)
  {σ p:Nat->Ly} (i:I5 σ g.1 (ap (AX n.vars) c.head)) (j:I5 p d.1 (ap (AX m.vars) c.head)):
  Co (Au σ n c k g gs) (Au p m c k d h):=by
 have b:=a.gd;rw[e,f]at b;simp only[Qx,QI]at b;refine⟨by simp[Au,a.used],by simp[Au,a.vars],?_,?_,by simp[Au,a.vl],KG hn o a l k e f i j,KG o hn a.symm l k f e j i⟩
 ·simp only[Au,I7,Qr,QK,Function.comp_def,b.1,b.2]
 ·simp only[Au,I7,Qr,Qx,List.map_nil,b.1,a.dd]
theorem Co.big{n m:ND}(c:Co n m):n.goals.any FL=m.goals.any FL/\n.done.any FL=m.done.any FL:=by
 have h:=c.al.len;unfold ND.terms at h;simp only[Qr,QK]at h;obtain⟨e,h⟩:=List.append_inj h (by simp[c.gl]);obtain⟨_,f⟩:=List.append_inj h (by simp[c.vl]);have d:∀{a b:List (Ly×Nat)},a.map (List.length∘(·.1))=b.map (List.length∘(·.1))->a.any FL=b.any FL:=by
  intro a
  induction a with
  |nil=>intro b h;cases b with
   |nil=>rfl
   |cons y b=>simp at h
  |cons x a g=>
   intro b h
   cases b with
   |nil=>simp at h
   |cons y b=>
    simp only[Qx,QI,Function.comp]at h;simp only[List.any_cons,FL,h.1]
    congr 1
    exact g h.2
 exact⟨d e,d f⟩
theorem Co.kind{n m:ND}(a:Co n m):Cy n=Cy m:=by
 have hb:=a.big;have b:(n.goals=[])↔(m.goals=[]):=by
  rw[<-Q3,<-Q3,a.gl]
 unfold Cy Hh;rw[hb.1,hb.2,a.gl,a.used];split
 ·rfl
 ·split
  ·rw[if_pos (b.1 (by assumption))]
  ·rw[if_neg (fun h=>by rename_i c;exact c (b.2 h))]
theorem LH{n:ND}(hn:FU n){c:Dt}(o:Kl c)(k:Nat){g:Ly×Nat}{gs:List (Ly×Nat)}(m:n.goals=g::gs){σ:Nat->Ly}(A:I5 σ g.1 (ap (AX n.vars) c.head))(q:Cy (Au σ n c k g gs)≠3):
  FU (Au σ n c k g gs):=by
 have r:Hh (Au σ n c k g gs)=false:=by
  unfold Cy at q
  cases h:Hh (Au σ n c k g gs)with
  |false=>rfl
  |true=>rw[h]at q;simp at q
 unfold Hh at r;simp only[Bool.or_eq_false_iff,decide_eq_false_iff_not,Nat.not_lt]at r;obtain⟨⟨⟨D,E⟩,F⟩,H⟩:=r;have G:∀x∈(Au σ n c k g gs).goals,x.1.length<=30:=fun x d=>by
  have:=List.any_eq_false.1 F x d;simpa[FL]using this
 have I:∀x∈(Au σ n c k g gs).done,x.1.length<=30:=fun x d=>by
  have:=List.any_eq_false.1 H x d;simpa[FL]using this
 have s:(Au σ n c k g gs).used.length=n.used.length+1:=by simp[Au]
 have w:=hn.wf;have p:=hn.occ;unfold ND.terms at w p;rw[m]at w p;have B:∀t∈(Au σ n c k g gs).terms,∃u,t=ap σ u/\((∃b∈c.body,u=ap (AX n.vars) b)\/u∈List.map (·.1) (g::gs)++(n.vals++List.map (·.1) n.done)):=by
  intro t i;rw[E5]at i;simp only[Qk,Q0]at i;rcases i with⟨u,f,rfl⟩|⟨u,f,rfl⟩|⟨u,f,rfl⟩
  ·rcases f with⟨b,hb,rfl⟩|⟨x,d,rfl⟩
   ·exact⟨_,rfl,Or.inl ⟨b,hb,rfl⟩⟩
   ·exact⟨_,rfl,Or.inr (Q9 _ (Q0.2 ⟨x,by simp[d],rfl⟩))⟩
  ·exact⟨_,rfl,Or.inr (by simp[f])⟩
  ·rcases f with⟨x,d,rfl⟩|f
   ·exact⟨_,rfl,Or.inr (QA _ (QA _ (Q0.2 ⟨x,d,rfl⟩)))⟩
   ·simp at f;subst f;exact⟨_,rfl,Or.inr Ys⟩
 have C:∀u,((∃b∈c.body,u=ap (AX n.vars) b)\/u∈List.map (·.1) (g::gs)++(n.vals++List.map (·.1) n.done))->∀v,Cj v u->v<n.vars+c.n:=by
  intro u f v l;rcases f with⟨b,hb,rfl⟩|f
  ·obtain⟨z,hz,e⟩:=Fx l;have:=o.ocb b hb z hz;omega
  ·have:=p u f v l;omega
 refine⟨?_,?_,?_,?_,?_,D,?_,E,?_,?_⟩
 ·intro t i;obtain⟨u,rfl,f⟩:=B t i;refine Iu A.ts ?_;rcases f with⟨b,hb,rfl⟩|f
  ·exact Iu (LF _) (o.wfb b hb)
  ·exact w u f
 ·intro t i v l;obtain⟨u,rfl,f⟩:=B t i;obtain⟨z,hz,l⟩:=JJ.1 l;show v<n.vars+c.n;rcases A.occ z v l with rfl|h|h
  ·exact C u f v hz
  ·have:=p g.1 Ys v h;omega
  ·obtain⟨y,j,e⟩:=Fx h;have:=o.och y j;omega
 ·intro x d;refine⟨G x d,?_⟩;rw[s];simp only[Au,Fo,Q0,Qk]at d;obtain⟨y,j,rfl⟩:=d;have J:=(hn.gs g (by rw[m];simp)).2;rcases j with⟨t,_,rfl⟩|j
  ·simp only;omega
  ·have:=(hn.gs y (by rw[m];simp[j])).2;simp only;omega
 ·intro x d;refine⟨I x d,?_⟩;rw[s];simp only[Au,Fo,Q0,Qk,List.mem_singleton]at d;obtain⟨y,j,rfl⟩:=d;rcases j with j|rfl
  ·have:=(hn.ds y j).2;simp only;omega
  ·have:=(hn.gs y (by rw[m];simp)).2;simp only;omega
 ·intro t i;simp only[Au,Q0]at i;obtain⟨u,f,rfl⟩:=i;obtain⟨x,d,a,b,e⟩:=hn.vs u f;refine⟨(ap σ x.1,x.2),?_,ap σ a,ap σ b,by rw[e];simp[EQ]⟩;rw[m]at d;simp only[Au,Fo,Qk,Q0,Qp,List.mem_singleton]at d⊢;rcases d with(rfl|d)|d
  ·exact Or.inr ⟨x,Or.inr (Or.inl rfl),rfl⟩
  ·exact Or.inl ⟨x,Or.inr d,rfl⟩
  ·exact Or.inr ⟨x,Or.inl d,rfl⟩
 ·simp[Au,Fo,hn.dl]
 ·simp[Au,hn.vl]
 ·have:=hn.vars;have:=o.n;rw[s];show n.vars+c.n<=_;omega
def Kb(n:ND)(c:Dt)(k:Nat)(q:Nat)(ch:ND):Prop:=∃g gs,n.goals=g::gs/\((q=0/\Dg g.1 (ap (AX n.vars) c.head))\/(q=3/\Hp g.1 (ap (AX n.vars) c.head))\/
 (∃σ,I5 σ g.1 (ap (AX n.vars) c.head)/\(ap σ g.1).length<=30/\q=Cy (Au σ n c k g gs)/\ch=Au σ n c k g gs))
theorem I5.fits{σ:Nat->Ly}{a b:Ly}(h:I5 σ a b):¬Dg a b:=fun hn=>hn σ h.ts h.unif
theorem Hp.fits{a b:Ly}(h:Hp a b):¬Dg a b:=fun hn=>by obtain⟨⟨d,c,e⟩,_⟩:=h;exact hn d c e
theorem Vx{n m:ND}(hn:FU n)(w:FU m)(z:Co n m){c:Dt}(t:Kl c){k q I:Nat}{r s:ND}(h:Kb n c k q r)(a:Kb m c k I s):q=I/\(q=1\/q=2->FU r/\FU s/\Co r s):=by
 obtain⟨g,gs,j,h⟩:=h;obtain⟨d,L,l,a⟩:=a;have f:=z.al;have x:=hn.occ;have y:=w.occ;unfold ND.terms at f x y;rw[j,l,Qx,Qx,Qy,Qy]at f;rw[j,Qx,Qy]at x;rw[l,Qx,Qy]at y;have p:=z.vars;have o:∀v,Cj v (ap (AX n.vars) c.head)->n.vars<=v:=fun v h=>by obtain⟨u,_,e⟩:=Fx h;omega
 have A:∀v,Cj v g.1->v<n.vars:=fun v h=>x g.1 Ys v h;have B:∀v,Cj v d.1->v<n.vars:=fun v h=>by have:=y d.1 Ys v h;omega
 have G:Dg g.1 (ap (AX n.vars) c.head)->Dg d.1 (ap (AX m.vars) c.head):=fun h=>by rw[<-p];exact Dg.alike (V:=n.vars) f.1 A o h
 have H:Dg d.1 (ap (AX m.vars) c.head)->Dg g.1 (ap (AX n.vars) c.head):=fun h=>by rw[<-p]at h;exact Dg.alike (V:=n.vars) f.2 B o h
 have J:Hp g.1 (ap (AX n.vars) c.head)->Hp d.1 (ap (AX m.vars) c.head):=fun h=>by rw[<-p];exact Hp.alike (V:=n.vars) f A B o h
 have K:Hp d.1 (ap (AX m.vars) c.head)->Hp g.1 (ap (AX n.vars) c.head):=fun h=>by rw[<-p]at h;exact Hp.alike (V:=n.vars) f.symm B A o h
 rcases h with⟨rfl,h⟩|⟨rfl,h⟩|⟨σ,i,M,N,rfl⟩
 ·rcases a with⟨rfl,a⟩|⟨rfl,a⟩|⟨C,b,E,F,rfl⟩
  ·exact⟨rfl,fun h=>by omega⟩
  ·exact absurd (G h) a.fits
  ·exact absurd (G h) b.fits
 ·rcases a with⟨rfl,a⟩|⟨rfl,a⟩|⟨C,b,E,F,rfl⟩
  ·exact absurd (H a) h.fits
  ·exact⟨rfl,fun h=>by omega⟩
  ·have:=(J h).2 C b.ts b.unif;omega
 ·rcases a with⟨rfl,a⟩|⟨rfl,a⟩|⟨C,b,E,F,rfl⟩
  ·exact absurd (H a) i.fits
  ·have:=(K a).2 σ i.ts i.unif;omega
  ·have D:=Rw hn w z t k j l i b;have O:=D.kind;exact⟨Yo,fun P=>⟨LH hn t k j i Yo,LH w t k l b Yo,D⟩⟩
open Classical in
noncomputable def Ax(m:ND)(c:Dt)(k:Nat):ND×Nat:=
 if h:∃r:ND×Nat,∃n,FU n/\Co n m/\Kb n c k r.2 r.1 then Classical.choose h else(⟨[],[],[],[],0⟩,0)
theorem Ef{n m:ND}(hn:FU n)(f:Co n m){c:Dt}(g:Kl c){k q:Nat}{a:ND}(h:Kb n c k q a):q=(Ax m c k).2/\(q=1\/q=2->FU a/\Co a (Ax m c k).1):=by
 have b:∃r:ND×Nat,∃n,FU n/\Co n m/\Kb n c k r.2 r.1:=⟨(a,q),n,hn,f,h⟩;have e:Ax m c k=Classical.choose b:=by unfold Ax;rw[dif_pos b]
 obtain⟨o,i,l,j⟩:=Classical.choose_spec b;rw[e];have:=Vx hn i (f.trans l.symm) g h j;exact⟨this.1,fun d=>⟨(this.2 d).1,(this.2 d).2.2⟩⟩
abbrev Lc:=List Dt
abbrev Ln:=List (ND×Nat)
variable{cs:Lc}{c:Dt}{ds r:Ln}
theorem SR{p:List BZ->At->Option (Ly×List BZ×At)}
  (m:∀ts names r,(∀t∈ts,t.text.length<=M)->p ts names=some r->r.1.length+r.2.1.length<=ts.length/\(∀s∈r.1,s.name.length<=M)/\(∀t∈r.2.1,t.text.length<=M)):
  ∀(g:Nat)(ts:List BZ)(names:At)(b:Ll) r,(∀t∈ts,t.text.length<=M)->(∀s∈b.flatten,s.name.length<=M)->CE p g ts names b=some r->
   r.1.flatten.length+r.2.1.length<=b.flatten.length+ts.length/\(∀s∈r.1.flatten,s.name.length<=M)/\(∀t∈r.2.1,t.text.length<=M):=by
 intro g
 induction g with
 |zero=>intro ts names b r _ _ h;simp[CE]at h
 |succ g o=>
  intro ts names b r e d h
  cases ts with
  |nil=>simp[CE]at h
  |cons t ts=>
   rw[CE]at h;split at h
   ·simp at h;subst h;exact⟨Ys,d,fun t c=>e t (by simp[c])⟩
   ·split at h
    ·simp at h
    ·rename_i q n;obtain⟨u,f,i⟩:=m _ _ _ (fun t c=>e t (by simp[c])) n;obtain⟨j,k,l⟩:=o _ _ _ _ i (fun s a=>by
      simp only[List.flatten_append,Q4,List.flatten_nil,Qs,Qk]at a;rcases a with a|a
      ·exact d s a
      ·exact f s a) h
     refine⟨?_,k,l⟩;simp only[List.flatten_append,Q4,List.flatten_nil,Qs,Qg,Qf]at j⊢;omega
theorem KL:∀(f:Nat)(ts:List BZ)(names:At) r,(∀t∈ts,t.text.length<=M)->Bq f ts names=some r->r.1.length+r.2.1.length<=ts.length/\(∀s∈r.1,s.name.length<=M)/\(∀t∈r.2.1,t.text.length<=M):=by
 intro f
 induction f with
 |zero=>intro ts names r _ h;simp[Bq]at h
 |succ f j=>
  intro ts names r b h
  cases ts with
  |nil=>simp[Bq]at h
  |cons t ts=>
   rw[Bq]at h;split at h
   ·simp at h;subst h;exact⟨by simp;omega,Ys,fun t a=>b t (by simp[a])⟩
   ·cases ts with
    |nil=>simp[FN]at h
    |cons u k=>
     rw[FN]at h;split at h
     ·simp at h;subst h;exact⟨by simp;omega,by simp;exact b t Ys,fun t a=>b t (by simp at a⊢;exact Or.inr a)⟩
     ·rw[Option.map_eq_some_iff]at h;obtain⟨q,i,rfl⟩:=h;obtain⟨d,e,g⟩:=SR j _ _ _ _ _ (fun t a=>b t (QD _ a)) Ys i;refine⟨by simp at d⊢;omega,?_,g⟩;intro s c;simp only[Qp]at c;rcases c with rfl|c
      ·exact b t Ys
      ·exact e s c
theorem FZ{f:Nat}:∀(g:Nat)(ts:List BZ)(names:At)(a:Ll) r,(∀t∈ts,t.text.length<=M)->(∀s∈a.flatten,s.name.length<=M)->BI f g ts names a=some r->
   r.1.flatten.length+r.2.1.length<=a.flatten.length+ts.length/\(∀s∈r.1.flatten,s.name.length<=M)/\(∀t∈r.2.1,t.text.length<=M):=by
 intro g
 induction g with
 |zero=>intro ts names a r _ _ h;simp[BI]at h
 |succ g v=>
  intro ts names a r o n h;rw[BI]at h;split at h
  ·simp at h
  ·rename_i q p;obtain⟨c,j,d⟩:=KL f _ _ _ o p;have i:∀s∈(a++[q.1]).flatten,s.name.length<=M:=fun s b=>by
    simp only[List.flatten_append,Q4,List.flatten_nil,Qs,Qk]at b;rcases b with b|b
    ·exact n s b
    ·exact j s b
   split at h
   ·simp at h
   ·rename_i x rest u;rw[u]at c d;split at h
    ·simp at h;subst h;refine⟨?_,i,fun t e=>d t (by simp[e])⟩;simp only[List.flatten_append,Q4,List.flatten_nil,Qs,Qg,Qf]at c⊢;omega
    ·obtain⟨k,l,m⟩:=v _ _ _ _ (fun t e=>d t (by simp[e])) i h;refine⟨?_,l,m⟩;simp only[List.flatten_append,Q4,List.flatten_nil,Qs,Qg,Qf]at c k⊢;omega
def B8(s:ByteArray):Lu×Nat×Nat:=
 if 120<s.size then([],1,0)
 else if(Bb (Ap s) (AD true)).1≠0 then([],(Bb (Ap s) (AD true)).1,(Bb (Ap s) (AD true)).2)
 else match BI 1000 1000 (Ap s) [] []with
  |none=>([],0,0)
  |some q=>(BU 1000 [] q.1 []++[46],0,0)
theorem Ul(s:ByteArray)(w:World)(F:s.size<=maxLen)(p:s.size<=120->(Bb (Ap s) (AD true)).1=0->∃q,BI 1000 1000 (Ap s) [] []=some q):
  Calls prog 86 #[.string s] w fun e w'=>e=Rq #[.string ⟨(B8 s).1.toArray⟩,Vi (B8 s).2.1,Vi (B8 s).2.2]/\Below w.hz w w':=by
 by_cases c:120<s.size
 ·have b:B8 s=([],1,0):=by rw[B8,if_pos c]
  rw[b];clear b;go_enter func86,ntmps86;go_wp2_with fail;apply(HP s _ F c).mono;rintro e w1 ⟨rfl,hb⟩;have a:=hd hb;clear hb;go_wp2;go_ret3;exact⟨rfl,a.o.alloc a.o.size _⟩
 ·by_cases f:(Bb (Ap s) (AD true)).1≠0
  ·have b:B8 s=([],(Bb (Ap s) (AD true)).1,(Bb (Ap s) (AD true)).2):=by rw[B8,if_neg c,if_pos f]
   rw[b];clear b;have Q:(((Bb (Ap s) (AD true)).1:Int) !=0)=true:=by rw[bne_iff_ne];omega
   go_enter func86,ntmps86;go_wp2_with fail;apply(Ix s _ Yo f).mono;rintro e w1 ⟨rfl,hb⟩;have a:=hd hb;clear hb;go_wp2;go_ret3;exact⟨rfl,a.o.alloc a.o.size _⟩
  ·have m:(Bb (Ap s) (AD true)).1=0:=Yo
   obtain⟨q,d⟩:=p Yo m;have b:B8 s=(BU 1000 [] q.1 []++[46],0,0):=by rw[B8,if_neg c,if_neg f,d]
   rw[b];clear b;have P:=BP s;obtain⟨K,r,_⟩:=FZ 1000 (Ap s) [] [] q (fun t G=>Cz s t G) Ys d;simp only[List.flatten_nil,Qt]at K;have x:=hd r;have v:=hd d;clear r d p;go_enter func86,ntmps86;go_wp2_with fail;apply(IN s _ q Yo m v.o).mono;rintro e w1 ⟨U,nv,lo,xs,rfl,S,T,j,n,hb⟩;obtain⟨la,J,rfl⟩:=Ac j.owns;obtain⟨na,V,rfl⟩:=Ac n;have a:=hd hb;have l:=hd j;clear hb j n;go_wp2_with fail;refine(LO 1000 _ (.slice la q.1.length J) 0 [] Nl lo xs q.1 ?_ (Q2 _ _ _ _) Yo (fun s c=>by have:=x.o s c;omega) (by simp only[Qt];omega)).mono ?_
   ·refine⟨l.o.owns.alloc _,fun i H hl=> ?_⟩;obtain⟨y,z,A,I,E,L,M,N,B,O,C,D⟩:=l.o.all i H hl;exact⟨y,z,A,I,E,L,M,N,B,by simp;omega,C,DO.later 1000 D (fun k R g _=>Below.heap_alloc _ _ _ Yo)⟩
   rintro e w2 ⟨rfl,g⟩;have u:=hd g;clear g;go_wp2;go_ret3;refine⟨rfl,(a.o.alloc a.o.size _).trans (u.o.below ?_ (fun k h=>by simp[Ak,Value.ownBlock]at h))⟩;have:=a.o.size;simp;omega
theorem infoClause:(prog.info? 185).map (fun i=>(i.zero,i.size,i.bytes))=some (some (.agg #[.string ⟨#[]⟩,Vi 0,Nl,Nl,Vi 0]),5,80):=by kernel_rfl
structure Cw(w w':World):Prop where
 size:w.heap.size<=w'.heap.size
 block:∀k,CG w k->w'.heap[k]?=w.heap[k]?
theorem Cw.refl(w:World):Cw w w:=⟨Qe _,fun _ _=>rfl⟩
theorem Cw.trans{a b c:World}(h:Cw a b)(d:Cw b c):Cw a c:=
 ⟨Qq h.size d.size,fun k f=>by
  have e:=h.block k f;have:CG b k:=by obtain⟨g,i⟩:=f;exact⟨g,e.trans i⟩
  exact(d.block k this).trans e⟩
theorem Cw.of_kept(h:Ad S w w')(c:∀k,CG w k->¬S k):Cw w w':=
 ⟨h.size,fun k a=>h.block k (by obtain⟨d,b⟩:=a;exact Ab b) (c k a)⟩
theorem Cw.of_apart(h:Ad (Ak v) w w')(d:w.ownsRow B e size v n xs)(b:e≠183):Cw w w':=
 Cw.of_kept h (fun k c=>by obtain⟨f,a⟩:=c;exact Ai d b a)
theorem Cw.alloc(w:World)(o:Obj):Cw w (w.alloc o):=⟨Ys,fun k b=>by obtain⟨c,a⟩:=b;exact Below.heap_alloc _ _ _ (Ab a)⟩
theorem DO.keep{f:Nat}{lo hi:Nat}{a b c:Value}(h:DO f w lo hi a b c l)(d:Cw w w'):DO f w' lo hi a b c l:=h.later f (fun k _ _ e=>d.block k e)
theorem Fg.keep{f:Nat}{lo:Nat}{b:Ll}(h:Fg f w lo cv b xs)(a:Cw w w'):Fg f w' lo cv b xs:=
 ⟨Aj h.owns (fun k e=>a.block k (Ay h.owns k e)),fun i p hl=>by
  obtain⟨c,d,g,q,o,r,s,t,j,l,m,n⟩:=h.all i p hl;exact⟨c,d,g,q,o,r,s,t,j,Qq l a.size,m,n.keep a⟩⟩
def LK(w:World)(xs:Lv)(c:Dt):Prop:=∃s n ca cl cc bv lo hi lo' ys,xs=[.string s,.int .i64 n,.slice ca cl cc,bv,.int .i64 c.n]/\DO 1000 w lo hi (.string s) (.int .i64 n) (.slice ca cl cc) c.head/\Fg 1000 w lo' bv c.body ys
theorem LK.keep(h:LK w xs c)(a:Cw w w'):LK w' xs c:=by
 obtain⟨s,n,ca,cl,cc,b,lo,hi,g,i,d,e,f⟩:=h;exact⟨s,n,ca,cl,cc,b,lo,hi,g,i,d,e.keep a,f.keep a⟩
structure Eg(w:World)(lo:Nat)(lv:Value)(cs:List Dt)(xs:List (List Value)):Prop where
 owns:w.ownsRow lo 185 5 lv cs.length xs.flatten
 len:xs.length=cs.length
 five:∀x∈xs,x.length=5
 all:∀(i:Nat)(c:Dt),cs[i]?=some c->∃x,xs[i]?=some x/\LK w x c
theorem Eg.nil(w:World)(lo:Nat):Eg w lo Nl [] []:=⟨Q2 _ _ _ _,rfl,Ys,fun i c h=>by simp at h⟩
def Dn(ts:List BZ):Option (Dt×List BZ):=
 match Bq 1000 ts []with
 |none=>none
 |some r=>match r.2.1 with
  |[]=>none
  |x::rest=>if x.kind=3 then(BI 1000 1000 rest r.2.2 []).map (fun q=>(⟨r.1,q.1,q.2.2⟩,q.2.1))else some (⟨r.1,[],r.2.2⟩,rest)
def C2:Nat->List BZ->Lc->Option (Lc)
 |0,_,_=>none
 |_+1,[],_=>none
 |g+1,t::ts,acc=>
  if t.kind=4 then some acc
  else match Dn (t::ts)with
   |none=>none
   |some r=>C2 g r.2 (acc++[r.1])
theorem Eg.keep{lo:Nat}{xs:List (Lv)}(h:Eg w lo lv cs xs)(e:Cw w w')(f:w'.ownsRow lo 185 5 lv cs.length xs.flatten):Eg w' lo lv cs xs:=
 ⟨f,h.len,h.five,fun i c d=>by obtain⟨x,a,b⟩:=h.all i c d;exact⟨x,a,b.keep e⟩⟩
theorem Eg.add{lo:Nat}{e:Value}{xs:List (Lv)}{x:Lv}(h:Eg w lo lv cs xs)(l:LK w x c)(m:x.length=5)(b:Cw w w')
  (k:w'.ownsRow lo 185 5 e (cs.length+1) (xs.flatten++x)):Eg w' lo e (cs++[c]) (xs++[x]):=by
 refine⟨by simpa using k,by simp[h.len],?_,?_⟩
 ·intro y a;simp at a;rcases a with a|rfl
  ·exact h.five y a
  ·exact m
 ·intro i d hd;rcases QB i cs.length with hi|hi
  ·rw[Qc hi]at hd;obtain⟨y,f,g⟩:=h.all i d hd;exact⟨y,by rw[Qc (by rw[h.len];exact hi)];exact f,g.keep b⟩
  ·have j:i=cs.length:=by
    have:i<(cs++[c]).length:=(Qa.1 hd).1;simp at this;omega
   subst j;simp at hd;subst hd;exact⟨x,by rw[<-h.len];simp,l.keep b⟩
theorem Ti{n m:Int}{ca b:Oa}{cl cc bl c:Nat}:∀u∈(#[Value.string s,Vi n,.slice ca cl cc,.slice b bl c,Vi m]:Av).toList,u.oneCell'=true:=by
 intro u a;simp at a;rcases a with rfl|rfl|rfl|rfl|rfl<;>rfl
abbrev CC:=Dt
structure RS where
 query:Bool
 next:Nat
 inBody:Bool
 atom:List BL
 opn:List Nat
 head:List BL
 body:List (List BL)
 vars:At
 clauses:List CC
structure RV where
 a:Value
 o:Value
 h:Value
 b:Value
 v:Value
 c:Value
def Bz(s:BL):Lv:=[.string ⟨s.name.toArray⟩,.int .i64 s.num,.int .i64 s.args]
def Aq(l:Ly):Lv:=l.flatMap Bz
theorem AV(l:Ly)(k:Nat)(t:BL)(h:l[k]?=some t)(j:Nat)(c:j<3):(Aq l)[k*3+j]?=(Bz t)[j]?:=by
 induction l generalizing k with
 |nil=>simp at h
 |cons a l b=>
  cases k with
  |zero=>
   simp at h;subst h;show(Bz a++Aq l)[_]?=_;rw[Qc (by simp[Bz];omega)];simp
  |succ k=>
   show(Bz a++Aq l)[_]?=_;rw[Qd (by simp[Bz];omega)];rw[<-b k (by simpa using h)]
   congr 1
   simp[Bz];omega
def Cq(st:RS)(V:RV):Av:=#[.bool st.query,.int .i64 st.next,.bool st.inBody,V.a,V.o,V.h,V.b,V.v,V.c]
structure Fk(w:World)(B rb:Nat)(st:RS)(V:RV):Prop where
 blk:w.heap[rb]?=some (.cells (Cq st V) 169 (0,0))
 atom:w.ownsRow B 133 3 V.a st.atom.length (Aq st.atom)
 opn:w.ownsRow B 3 1 V.o st.opn.length (AM st.opn.reverse)
 body:∃x c,V.b= .slice x st.body.length c
 cls:∃x c,V.c= .slice x st.clauses.length c
theorem Fk.facts{st:RS}{V:RV}(h:Fk w B rb st V):
  w.cell? ⟨rb,0,none⟩=some (.bool st.query)/\w.cell? ⟨rb,1,none⟩=some (Vi st.next)/\w.cell? ⟨rb,2,none⟩=some (.bool st.inBody)/\w.cell? ⟨rb,3,none⟩=some V.a/\w.cell? ⟨rb,4,none⟩=some V.o/\
  w.cell? ⟨rb,5,none⟩=some V.h/\w.cell? ⟨rb,6,none⟩=some V.b/\w.cell? ⟨rb,7,none⟩=some V.v/\w.cell? ⟨rb,8,none⟩=some V.c:=
 ⟨Aa h.blk 0 _ rfl,Aa h.blk 1 _ rfl,Aa h.blk 2 _ rfl,Aa h.blk 3 _ rfl,Aa h.blk 4 _ rfl,Aa h.blk 5 _ rfl,Aa h.blk 6 _ rfl,Aa h.blk 7 _ rfl,Aa h.blk 8 _ rfl⟩
def DZ(st:RS):Int:=match st.opn with
 |[]=> -1
 |n::_=>if st.atom.length<=n then-1 else n
theorem Jz(w:World)(B m:Nat)(st:RS)(V:RV)(h:Fk w B m st V)(hl:st.opn.length<=4096)(ha:st.atom.length<=4096):
  Calls prog 200 #[Pt m] w fun e w'=>e= .returned (Vi (DZ st))/\∃n,w'=w.drewN n:=by
 obtain⟨t,u,v,p,i,x,y,z,A⟩:=h.facts;obtain⟨aa,s,f⟩:=Ac h.atom;obtain⟨I,J,d⟩:=Ac h.opn;rw[f]at p;rw[d]at i
 cases a:st.opn with
 |nil=>
  have b:Hd (DZ st= -1):=by show _=_;simp[DZ,a]
  simp only[a,Qt]at i;clear f d a h;go_enter func200,l;go_wp2;go_ret;rw[b.o];exact⟨rfl,0,rfl⟩
 |C n r=>
  have H:r.length+1<=4096:=by rw[a]at hl;simpa using hl
  have c:=h.opn;rw[a,d,a]at c;obtain⟨g,D,E,j,F,k,q⟩:=An c Ys;simp only[QH]at j;obtain⟨rfl,_,rfl⟩:=j;have cg:w.cell? ⟨g,r.length,none⟩=some (Vi n):=Ag c r.length _ (by simp[AM]);simp only[a,Qf]at i;simp only[Qf]at q;have G:(((r.length:Nat):Int)+1==0)=false:=by rw[Qu];omega
  by_cases hn:st.atom.length<=n
  ·have b:Hd (DZ st= -1):=by show _=_;simp[DZ,a,hn]
   clear f d a h c k;go_enter func200,l;go_wp2_with fail;go_quiet (fail);go_wp2;go_ret;rw[b.o];exact⟨rfl,_,rfl⟩
  ·have b:Hd (DZ st=n):=by show _=_;simp[DZ,a,hn]
   clear f d a h c k;go_enter func200,l;go_wp2_with fail;go_quiet (fail);go_wp2;go_ret;rw[b.o];exact⟨rfl,_,rfl⟩
variable{st:RS}
theorem nb(kd k:Nat):((kd:Int)==(k:Int))=(kd==k):=by
 rw[Bool.eq_iff_iff,beq_iff_eq,beq_iff_eq];omega
def Gq(st:RS):Nat:=match st.opn with
 |[]=>0
 |n::_=>match st.atom[n]? with
  |none=>0
  |some s=>s.args
def Bp(st:RS)(kd:Nat):Bool:=if st.opn.isEmpty then(if st.inBody then(kd==5||kd==6)else(kd==7||kd==6))else(kd==5||kd==4)
def A2(st:RS)(kd:Nat):Bool:=
 if st.next=0\/st.next=1 then kd==1 else if st.next=2 then(kd==1||kd==2)else if st.next=3 then(kd==3||Bp st kd)else if st.next=4 then Bp st kd else false
def Di(st:RS):Bool:=
 if st.next=0 then decide (24<=st.clauses.length)else if st.next=1 then decide (6<=st.body.length)else if st.next=2 then(decide (30<=st.atom.length)||decide (4<=Gq st))else false
def Bi(st:RS)(kd len:Nat):Nat:=if A2 st kd=false then 2 else if(kd=1\/kd=2)/\(8<len\/Di st=true)then 3 else 0
structure L7(st:RS):Prop where
 opn:st.opn.length<=4096
 atom:st.atom.length<=4096
 body:st.body.length<=4096
 cls:st.clauses.length<=4096
 args:∀s∈st.atom,s.args<=4096
theorem UN(w:World)(B l:Nat)(st:RS)(V:RV)(h:Fk w B l st V)(hb:L7 st):
  Calls prog 199 #[Pt l] w fun e w'=>e= .returned (Vi (Gq st))/\∃n,w'=w.drewN n:=by
 obtain⟨y,z,A,q,C,D,E,F,G⟩:=h.facts;obtain⟨aa,x,d⟩:=Ac h.atom;rw[d]at q;have m:=hd (Jz w B l st V h hb.opn hb.atom)
 by_cases a:DZ st= -1
 ·have f:Hd (Gq st=0):=by
   show _=_
   cases b:st.opn with
   |nil=>simp[Gq,b]
   |cons n r=>
    have v:st.atom.length<=n:=by
     unfold DZ at a;rw[b]at a;simp only at a;split at a
     ·assumption
     ·omega
    simp[Gq,b,List.getElem?_eq_none v]
  have i:=hd a;clear a h d;go_enter func199,ntmps199;go_wp2_with fail;apply m.o.mono;rintro e w1 ⟨rfl,n,rfl⟩;rw[i.o];go_wp2;go_ret;rw[f.o];exact⟨rfl,n,rfl⟩
 ·obtain⟨k,r,b,u⟩:∃k r,st.opn=k::r/\k<st.atom.length:=by
   unfold DZ at a;split at a
   ·exact absurd rfl a
   ·rename_i k r hn;split at a
    ·exact absurd rfl a
    ·exact⟨k,r,hn,Yo⟩
  obtain⟨s,j⟩:∃s,st.atom[k]?=some s:=⟨_,Qb u⟩;have f:Hd (Gq st=s.args):=by show _=_;simp[Gq,b,j]
  have i:Hd (DZ st=k):=by show _=_;simp[DZ,b];omega
  have c:=h.atom;rw[d]at c;obtain⟨g,H,I,p,J,t,K⟩:=An c Yo;simp only[QH]at p;obtain⟨rfl,_,rfl⟩:=p;have cg:w.cell? ⟨g,k*3+2,none⟩=some (Vi s.args):=Ag c _ _ (by rw[AV _ k s j 2 Yo];rfl);have L:=hb.atom;clear a h d c b j t;go_enter func199,ntmps199;go_wp2_with fail;apply m.o.mono;rintro e w1 ⟨rfl,n,rfl⟩;rw[i.o];go_wp2;go_ret;rw[f.o];exact⟨rfl,n,rfl⟩
theorem SI(w:World)(B q:Nat)(st:RS)(V:RV)(kd:Nat)(h:Fk w B q st V)(hb:L7 st):
  Calls prog 198 #[Pt q,Vi kd] w fun e w'=>e= .returned (.bool (Bp st kd))/\w'=w:=by
 obtain⟨t,u,l,v,k,x,y,z,A⟩:=h.facts;obtain⟨E,F,m⟩:=Ac h.opn;have hl:=hb.opn;rw[m]at k;clear h m;have i:=nb kd 4;have d:=nb kd 5;have f:=nb kd 6;have j:=nb kd 7
 cases a:st.opn with
 |nil=>
  simp only[a,Qt]at k
  cases b:st.inBody
  ·rw[b]at l;have c:Hd (Bp st kd=(kd==7||kd==6)):=by show _=_;simp[Bp,a,b]
   rw[c.o,<-j,<-f];clear i d f j a b
   cases g:((kd:Int)==(7:Nat))
   all_goals
    have s:((kd:Int)==7)=_:=g;go_enter func198,p;go_wp2;go_ret;exact⟨rfl,rfl⟩
  ·rw[b]at l;have c:Hd (Bp st kd=(kd==5||kd==6)):=by show _=_;simp[Bp,a,b]
   rw[c.o,<-d,<-f];clear i d f j a b
   cases g:((kd:Int)==(5:Nat))
   all_goals
    have s:((kd:Int)==5)=_:=g;go_enter func198,p;go_wp2;go_ret;exact⟨rfl,rfl⟩
 |C n r=>
  have c:Hd (Bp st kd=(kd==5||kd==4)):=by show _=_;simp[Bp,a]
  rw[c.o,<-d,<-i];have D:r.length+1<=4096:=by rw[a]at hl;simpa using hl
  simp only[a,Qf]at k;clear i d f j a
  cases g:((kd:Int)==(5:Nat))
  all_goals
   have s:((kd:Int)==5)=_:=g;go_enter func198,p;go_wp2;go_ret;exact⟨rfl,rfl⟩
theorem Uf(w:World)(B i:Nat)(st:RS)(V:RV)(kd:Nat)(h:Fk w B i st V)(hb:L7 st)(hn:st.next<=5):
  Calls prog 166 #[Pt i,Vi kd] w fun e w'=>e= .returned (.bool (A2 st kd))/\w'=w:=by
 obtain⟨l,g,m,n,p,q,r,s,t⟩:=h.facts;have k:=hd (SI w B i st V kd h hb);have c:=nb kd 1;have d:=nb kd 2;have f:=nb kd 3;clear h hb l m n p q r s t;have a:st.next=0\/st.next=1\/st.next=2\/st.next=3\/st.next=4\/st.next=5:=Yo
 rcases a with a|a|a|a|a|a
 ·rw[a]at g;have b:Hd (A2 st kd=(kd==1)):=by show _=_;simp[A2,a]
  rw[b.o];rw[<-c];clear a c d f;go_enter func166,ntmps166;go_wp2;go_ret;exact⟨rfl,rfl⟩
 ·rw[a]at g;have b:Hd (A2 st kd=(kd==1)):=by show _=_;simp[A2,a]
  rw[b.o];rw[<-c];clear a c d f;go_enter func166,ntmps166;go_wp2;go_ret;exact⟨rfl,rfl⟩
 ·rw[a]at g;have b:Hd (A2 st kd=(kd==1||kd==2)):=by show _=_;simp[A2,a]
  rw[b.o];rw[<-c,<-d];clear a c d f
  cases j:((kd:Int)==(1:Nat))
  all_goals
   have u:((kd:Int)==1)=_:=j;go_enter func166,ntmps166;go_wp2;go_ret;exact⟨rfl,rfl⟩
 ·rw[a]at g;have b:Hd (A2 st kd=(kd==3||Bp st kd)):=by show _=_;simp[A2,a]
  rw[b.o];rw[<-f];clear a c d f
  cases j:((kd:Int)==(3:Nat))
  all_goals
   have u:((kd:Int)==3)=_:=j;go_enter func166,ntmps166
   go_wp2_with (go_at_call 198;apply k.o.mono;rintro e w' ⟨rfl,rfl⟩)
   go_ret;exact⟨rfl,rfl⟩
 ·rw[a]at g;have b:Hd (A2 st kd=Bp st kd):=by show _=_;simp[A2,a]
  rw[b.o];clear a c d f;go_enter func166,ntmps166
  go_wp2_with (go_at_call 198;apply k.o.mono;rintro e w' ⟨rfl,rfl⟩)
  go_ret;exact⟨rfl,rfl⟩
 ·rw[a]at g;have b:Hd (A2 st kd=false):=by show _=_;simp[A2,a]
  rw[b.o];clear a c d f;go_enter func166,ntmps166;go_wp2;go_ret;exact⟨rfl,rfl⟩
theorem VH(w:World)(B d:Nat)(st:RS)(V:RV)(h:Fk w B d st V)(hb:L7 st)(hn:st.next<=5):
  Calls prog 167 #[Pt d] w fun e w'=>e= .returned (.bool (Di st))/\∃n,w'=w.drewN n:=by
 obtain⟨t,c,u,k,v,x,l,y,m⟩:=h.facts;have j:=hd (UN w B d st V h hb);obtain⟨aa,q,f⟩:=Ac h.atom;obtain⟨r,s,g⟩:=h.body;obtain⟨ca,z,i⟩:=h.cls;rw[f]at k;rw[g]at l;rw[i]at m;have A:=hb.atom;have C:=hb.body;have D:=hb.cls;clear h hb f g i;have a:st.next=0\/st.next=1\/st.next=2\/(st.next≠0/\st.next≠1/\st.next≠2):=Yo
 rcases a with a|a|a|a
 ·rw[a]at c;have b:Hd (Di st=decide (24<=st.clauses.length)):=by show _=_;simp[Di,a]
  clear a;go_enter func167,ntmps167;go_wp2;go_ret;rw[b.o];exact⟨DI (by rw[Bool.eq_iff_iff];simp;try omega),0,rfl⟩
 ·rw[a]at c;have b:Hd (Di st=decide (6<=st.body.length)):=by show _=_;simp[Di,a]
  clear a;go_enter func167,ntmps167;go_wp2;go_ret;rw[b.o];exact⟨DI (by rw[Bool.eq_iff_iff];simp;try omega),0,rfl⟩
 ·rw[a]at c
  by_cases p:(30:Int)<=(st.atom.length:Int)
  ·have b:Hd (Di st=true):=by show _=_;simp[Di,a];left;omega
   clear a;go_enter func167,ntmps167;go_wp2;go_ret;rw[b.o];exact⟨rfl,0,rfl⟩
  ·have b:Hd (Di st=decide (4<=Gq st)):=by show _=_;simp[Di,a];omega
   have hd:decide ((30:Int)<=(st.atom.length:Int))=false:=by simpa using p
   clear a;go_enter func167,ntmps167
   go_wp2_with (go_at_call 199;apply j.o.mono;rintro e w' ⟨rfl,n,rfl⟩)
   go_ret;rw[b.o];exact⟨DI (by rw[Bool.eq_iff_iff];simp;try omega),_,rfl⟩
 ·have E:((st.next:Int)==0)=false:=by rw[Qu];omega
  have F:((st.next:Int)==1)=false:=by rw[Qu];omega
  have G:((st.next:Int)==2)=false:=by rw[Qu];omega
  have b:Hd (Di st=false):=by show _=_;simp[Di,a]
  clear a;go_enter func167,ntmps167;go_wp2;go_ret;rw[b.o];exact⟨rfl,0,rfl⟩
theorem Fk.later{V:RV}(h:Fk w B rb st V)(b:Ad S w w')(c:¬S rb)(d:∀k,V.a.ownBlock=some k->¬S k)(e:∀k,V.o.ownBlock=some k->¬S k):Fk w' B rb st V:=
 ⟨(b.block rb (Ab h.blk) c).trans h.blk,b.owns h.atom d,b.owns h.opn e,h.body,h.cls⟩
theorem T3(w:World)(B g:Nat)(st:RS)(V:RV)(kd p q:Nat)(h:Fk w B g st V)(hb:L7 st)(hn:st.next<=5)(x:p<=q)(y:q<=4096):
  Calls prog 131 #[Pt g,.agg #[Vi kd,Vi p,Vi q]] w fun e w'=>e= .returned (Vi (Bi st kd (q-p)))/\Ad A4 w w':=by
 have k:∀o,Fk (w.alloc o) B g st V:=fun o=>h.later (S:=A4) ((Ad.refl _ w).alloc o) (fun h=>h) (fun _ _ h=>h) (fun _ _ h=>h);have d:=hd (fun o=>Uf (w.alloc o) B g st V kd (k o) hb hn);have r:=hd (fun o=>VH (w.alloc o) B g st V (k o) hb hn);have i:=nb kd 1;have j:=nb kd 2;clear h k
 cases f:A2 st kd
 ·have a:Hd (Bi st kd (q-p)=2):=by show _=_;simp[Bi,f]
  go_enter func131,ntmps131
  go_wp2_with (go_at_call 166;apply(d.o _).mono;rintro e w' ⟨rfl,rfl⟩)
  go_ret;rw[a.o];exact⟨rfl,(Ad.refl _ w).alloc _⟩
 ·by_cases b:kd=1\/kd=2
  ·have l:((kd:Int)==1)=true\/(((kd:Int)==1)=false/\((kd:Int)==2)=true):=by
    rcases b with rfl|rfl
    ·exact Or.inl rfl
    ·exact Or.inr ⟨rfl,rfl⟩
   by_cases s:8<q-p
   ·have t:(8:Int)<(q:Int)-(p:Int):=Yo
    have a:Hd (Bi st kd (q-p)=3):=by show _=_;simp[Bi,f,b,s]
    clear b i j;rcases l with c|⟨c,m⟩
    all_goals
     go_enter func131,ntmps131
     go_wp2_with (go_at_call 166;apply(d.o _).mono;rintro e w' ⟨rfl,rfl⟩)
     go_ret;rw[a.o];exact⟨rfl,(Ad.refl _ w).alloc _⟩
   ·have t:¬(8:Int)<(q:Int)-(p:Int):=Yo
    have v:decide ((8:Int)<(q:Int)-(p:Int))=false:=by simpa using t
    cases u:Di st
    ·have a:Hd (Bi st kd (q-p)=0):=by show _=_;simp[Bi,f,s,u]
     clear b i j;rcases l with c|⟨c,m⟩
     all_goals
      go_enter func131,ntmps131
      go_wp2_with (first|(go_at_call 166;apply(d.o _).mono;rintro e w' ⟨rfl,rfl⟩)|(go_at_call 167;apply(r.o _).mono;rintro e w' ⟨rfl,n,rfl⟩))
      go_ret;rw[a.o];exact⟨rfl,((Ad.refl _ w).alloc _).drewN _⟩
    ·have a:Hd (Bi st kd (q-p)=3):=by show _=_;simp[Bi,f,b,u]
     clear b i j;rcases l with c|⟨c,m⟩
     all_goals
      go_enter func131,ntmps131
      go_wp2_with (first|(go_at_call 166;apply(d.o _).mono;rintro e w' ⟨rfl,rfl⟩)|(go_at_call 167;apply(r.o _).mono;rintro e w' ⟨rfl,n,rfl⟩))
      go_ret;rw[a.o];exact⟨rfl,((Ad.refl _ w).alloc _).drewN _⟩
  ·have c:((kd:Int)==1)=false:=by rw[Qu];omega
   have m:((kd:Int)==2)=false:=by rw[Qu];omega
   have a:Hd (Bi st kd (q-p)=0):=by show _=_;simp[Bi,f,b]
   clear b i j;go_enter func131,ntmps131
   go_wp2_with (go_at_call 166;apply(d.o _).mono;rintro e w' ⟨rfl,rfl⟩)
   go_ret;rw[a.o];exact⟨rfl,(Ad.refl _ w).alloc _⟩
theorem RZ(s:ByteArray)(kd:Int)(p q:Nat)(w:World)(c:p<=q)(d:q<=s.size)(f:s.size<=4096):
  Calls prog 133 #[.string s,.agg #[Vi kd,Vi p,Vi q]] w fun e w'=>e= .returned (.string (s.extract p q))/\Ad A4 w w':=by
 have a:decide (((p:Nat):Int)<0)=false:=Ys
 have b:decide ((q:Int)<(p:Int))=false:=by simp;omega
 go_enter func133,ntmps133;go_wp2;go_ret;exact⟨rfl,(Ad.refl _ w).alloc _⟩
theorem infoSym:(prog.info? 133).map (fun i=>(i.zero,i.size,i.bytes))=some (some (.agg #[.string ⟨#[]⟩,Vi 0,Vi 0]),3,32):=by kernel_rfl
theorem infoSyms:(prog.info? 105).map (fun i=>(i.zero,i.size,i.bytes))=some (some Nl,1,24):=by kernel_rfl
theorem infoCls:(prog.info? 107).map (fun i=>(i.zero,i.size,i.bytes))=some (some (.agg #[Nl,Nl,Nl]),3,72):=by kernel_rfl
def D0(w:World)(B Sa:Nat)(v:Value)(l:Ly):Prop:=w.ownsRow B 133 3 v l.length (Aq l)/\∀k,v.ownBlock=some k->k<Sa
def Cp(w:World)(B Sa:Nat)(v:Value)(ls:Ll)(vs:Lv):Prop:=
 w.ownsRow B 105 1 v ls.length vs/\∀(i:Nat)(l:Ly),ls[i]?=some l->∃x,vs[i]?=some x/\D0 w B Sa x l
def Fm(w:World)(B Sa Sb:Nat)(v:Value)(cs:List CC)(xs:List (Lv)):Prop:=
 w.ownsRow B 107 3 v cs.length xs.flatten/\xs.length=cs.length/\(∀x∈xs,x.length=3)/\
 ∀(i:Nat)(c:CC),cs[i]?=some c->∃hv bv vv vs,xs[i]?=some [hv,bv,vv]/\D0 w B Sa hv c.head/\Cp w B Sa bv c.body vs/\(∀k,bv.ownBlock=some k->k<Sb)/\w.ownsRow B 9 1 vv c.names.length (Ba c.names)/\∀k,vv.ownBlock=some k->k<Sb
structure XK(w:World)(B:Nat)(st:RS)(V:RV)(Sa Sb:Nat)(vs:List Value)(xs:List (List Value)):Prop where
 atom:w.ownsRow B 133 3 V.a st.atom.length (Aq st.atom)
 opn:w.ownsRow B 3 1 V.o st.opn.length (AM st.opn.reverse)
 vars:w.ownsRow B 9 1 V.v st.vars.length (Ba st.vars)
 head:D0 w B Sa V.h st.head
 body:Cp w B Sa V.b st.body vs
 cls:Fm w B Sa Sb V.c st.clauses xs
 ta:∀k,V.a.ownBlock=some k->Sa<=k
 tb:∀k,V.b.ownBlock=some k->Sb<=k
 tv:∀k,V.v.ownBlock=some k->Sb<=k
 la:Sa<=w.heap.size
 lb:Sb<=w.heap.size
structure Ho(w:World)(B rb:Nat)(st:RS)(V:RV)(Sa Sb:Nat)(vs:List Value)(xs:List (List Value)):Prop where
 blk:w.heap[rb]?=some (.cells (Cq st V) 169 (0,0))
 rest:XK w B st V Sa Sb vs xs
 le:B<=rb
theorem Ho.opens{V:RV}{a b:Nat}{xs:List (Lv)}(h:Ho w B rb st V a b vs xs):Fk w B rb st V:=by
 obtain⟨c,d,hb⟩:=Ac h.rest.body.1;obtain⟨ca,cc,e⟩:=Ac h.rest.cls.1;exact⟨h.blk,h.rest.atom,h.rest.opn,⟨c,d,hb⟩,⟨ca,cc,e⟩⟩
def C1(rb:Nat)(X:Value):Nat->Prop:=fun k=>k=rb\/Ak X k
section
variable {w w':World} {B rb:Nat} {st:RS} {V:RV} {Sa Sb:Nat} {vs:List Value} {xs:List (List Value)} {X:Value}
theorem BE{c:Nat}{d:TypeId}{s p o:Nat}{q:Lv}{cs:Av}(a:w.ownsRow c e s v n ys)(m:Ad (C1 rb X) w w')(j:w.heap[rb]?=some (.cells cs 169 fr))
  (i:w.ownsRow B d p X o q) (g:e≠169) (h:e≠d):w'.ownsRow c e s v n ys:=
 m.owns a (fun k f b=>by
  rcases b with rfl|b
  ·exact Ai a g j f
  ·obtain⟨r,l⟩:=Ay i k b;exact Ai a h l f)
theorem D3{c:TypeId}{j i:Nat}{m:Lv}{cs:Av}(h:D0 w B Sa v l)(e:Ad (C1 rb X) w w')(d:w.heap[rb]?=some (.cells cs 169 fr))
  (g:w.ownsRow B c j X i m) (a:133≠c\/∀k,X.ownBlock=some k->Sa<=k):D0 w' B Sa v l:=by
 refine⟨?_,h.2⟩;rcases a with a|a
 ·exact BE h.1 e d g Yd a
 ·exact e.owns h.1 (fun k f b=>by
   rcases b with rfl|b
   ·exact Ai h.1 Yd d f
   ·have n:=h.2 k f;have o:=a k b;omega)
theorem En{j:Lv}{c:TypeId}{p o:Nat}{q:Lv}{cs:Av}(h:Cp w B Sa v ls j)(e:Ad (C1 rb X) w w')(d:w.heap[rb]?=some (.cells cs 169 fr))
  (f:w.ownsRow B c p X o q) (m:133≠c\/∀k,X.ownBlock=some k->Sa<=k) (a:105≠c\/∀k,v.ownBlock=some k->¬Ak X k):Cp w' B Sa v ls j:=by
 refine⟨?_,fun i l hl=> ?_⟩
 ·rcases a with a|a
  ·exact BE h.1 e d f Yd a
  ·exact e.owns h.1 (fun k g b=>by
    rcases b with rfl|b
    ·exact Ai h.1 Yd d g
    ·exact a k g b)
 ·obtain⟨x,n,b⟩:=h.2 i l hl;exact⟨x,n,D3 b e d f m⟩
theorem Gh{cs:List CC}{p:List (Lv)}{d:TypeId}{A z:Nat}{E:Lv}{cl:Av}(h:Fm w B Sa Sb v cs p)(m:Ad (C1 rb X) w w')(l:w.heap[rb]?=some (.cells cl 169 fr))
  (j:w.ownsRow B d A X z E) (o:133≠d\/∀k,X.ownBlock=some k->Sa<=k) (e:105≠d\/∀k,X.ownBlock=some k->Sb<=k) (y:107≠d) (f:9≠d\/∀k,X.ownBlock=some k->Sb<=k):Fm w' B Sa Sb v cs p:=by
 refine⟨BE h.1 m l j Yd y,h.2.1,h.2.2.1,fun i c n=> ?_⟩;obtain⟨g,s,D,C,t,u,x,a⟩:=h.2.2.2 i c n;refine⟨g,s,D,C,t,D3 u m l j o,En x m l j o ?_,a.1,m.owns a.2.1 (fun k g b=> ?_),a.2.2⟩
 rotate_left
 ·rcases b with rfl|b
  ·exact Ai a.2.1 Yd l g
  ·rcases f with f|f
   ·obtain⟨F,n⟩:=Ay j k b;exact Ai a.2.1 f n g
   ·have q:=a.2.2 k g;have r:=f k b;omega
 rcases e with e|e
 ·exact Or.inl e
 ·exact Or.inr (fun k hb b=>by
   have q:=a.1 k hb;have r:=e k b;omega)
end
structure Dp(B:Nat)(w w':World):Prop where
 below:Below B w w'
 other:∀(k:Nat)(cs:Array Value)(T:TypeId)(fr:Nat×Nat),w.heap[k]?=some (.cells cs T fr)->(T=224\/T=91)->w'.heap[k]?=w.heap[k]?
theorem Dp.refl(B:Nat)(w:World):Dp B w w:=⟨Below.refl _ _,fun _ _ _ _ _ _=>rfl⟩
theorem Dp.trans{a b c:World}(h:Dp B a b)(k:Dp B b c):Dp B a c:=
 ⟨h.below.trans k.below,fun i cs T fr hb d=>(k.other i cs T fr ((h.other i cs T fr hb d).trans hb) d).trans (h.other i cs T fr hb d)⟩
theorem Dp.drew{a:World}(h:Dp B a w):Dp B a w.drew:=⟨h.below.drew,h.other⟩
theorem Dp.fresh(h:Ad A4 w w')(a:B<=w.hz):Dp B w w':=⟨h.below a (fun _ h=>h.elim),fun k _ _ _ hb _=>h.block k (Ab hb) (fun h=>h)⟩
section
variable {w w':World} {B rb:Nat} {st:RS} {V:RV} {Sa Sb:Nat} {vs:List Value} {xs:List (List Value)}
theorem Ho.below(h:Ho w B rb st V Sa Sb vs xs){X:Value}{d:TypeId}{m l:Nat}{n:Lv}(j:Ad (C1 rb X) w w')(g:w.ownsRow B d m X l n)(i:d≠224/\d≠91):Dp B w w':=
 ⟨j.below (Nat.le_of_lt (Nat.lt_of_le_of_lt h.le (Ab h.blk))) (fun k a=>by
  rcases a with rfl|a
  ·exact h.le
  ·exact(g.lt k a).1),fun k cs T fr hb f=>by
  refine j.block k (Ab hb) (fun a=> ?_);rcases a with rfl|a
  ·have e:=h.blk;rw[hb]at e;simp only[Qo,Obj.cells.injEq]at e;rcases f with b|b<;>exact absurd (e.2.1.symm.trans b) Yd
  ·obtain⟨o,c⟩:=Ay g k a;rw[hb]at c;simp only[Qo,Obj.cells.injEq]at c;rcases f with b|b
   ·exact i.1 (c.2.1.symm.trans b)
   ·exact i.2 (c.2.1.symm.trans b)⟩
theorem Ho.only(h:Ho w B rb st V Sa Sb vs xs)(a:Ad (C1 rb Nl) w w')(b:RS)(k:w'.heap[rb]?=some (.cells (Cq b V) 169 (0,0)))
  (d:b.atom=st.atom) (e:b.opn=st.opn) (f:b.vars=st.vars) (g:b.head=st.head) (i:b.body=st.body) (j:b.clauses=st.clauses):Ho w' B rb b V Sa Sb vs xs:=by
 have c:w.ownsRow B 169 1 Nl 0 []:=Q2 _ _ _ _;have r:=h.rest;refine⟨k,⟨?_,?_,?_,?_,?_,?_,r.ta,r.tb,r.tv,Qq r.la a.size,Qq r.lb a.size⟩,h.le⟩
 ·rw[d];exact BE r.atom a h.blk c Yd Yd
 ·rw[e];exact BE r.opn a h.blk c Yd Yd
 ·rw[f];exact BE r.vars a h.blk c Yd Yd
 ·rw[g];exact D3 r.head a h.blk c (Or.inl Yd)
 ·rw[i];exact En r.body a h.blk c (Or.inl Yd) (Or.inl Yd)
 ·rw[j];exact Gh r.cls a h.blk c (Or.inl Yd) (Or.inl Yd) Yd (Or.inl Yd)
theorem Ho.opened(h:Ho w B rb st V Sa Sb vs xs)(a:Ad (C1 rb V.o) w w')(l:List Nat)(b:Value)(c:w'.heap[rb]?=some (.cells (Cq {st with opn:=l} {V with o:=b}) 169 (0,0)))
  (d:w'.ownsRow B 3 1 b l.length (AM l.reverse)):Ho w' B rb {st with opn:=l} {V with o:=b} Sa Sb vs xs:=by
 have r:=h.rest;exact⟨c,⟨BE r.atom a h.blk r.opn Yd Yd,d,BE r.vars a h.blk r.opn Yd Yd,D3 r.head a h.blk r.opn (Or.inl Yd),
  En r.body a h.blk r.opn (Or.inl Yd) (Or.inl Yd),Gh r.cls a h.blk r.opn (Or.inl Yd) (Or.inl Yd) Yd (Or.inl Yd),r.ta,r.tb,r.tv,Qq r.la a.size,Qq r.lb a.size⟩,h.le⟩
theorem Ho.named(h:Ho w B rb st V Sa Sb vs xs)(a:Ad (C1 rb V.v) w w')(l:At)(b:Value)(c:w'.heap[rb]?=some (.cells (Cq {st with vars:=l} {V with v:=b}) 169 (0,0)))
  (d:w'.ownsRow B 9 1 b l.length (Ba l)) (e:∀k,b.ownBlock=some k->Sb<=k):Ho w' B rb {st with vars:=l} {V with v:=b} Sa Sb vs xs:=by
 have r:=h.rest;exact⟨c,⟨BE r.atom a h.blk r.vars Yd Yd,BE r.opn a h.blk r.vars Yd Yd,d,D3 r.head a h.blk r.vars (Or.inl Yd),
  En r.body a h.blk r.vars (Or.inl Yd) (Or.inl Yd),Gh r.cls a h.blk r.vars (Or.inl Yd) (Or.inl Yd) Yd (Or.inr r.tv),r.ta,r.tb,e,Qq r.la a.size,Qq r.lb a.size⟩,h.le⟩
theorem Ho.atoms(h:Ho w B rb st V Sa Sb vs xs)(b:Ad (C1 rb V.a) w w')(l:Ly)(c:Value)(d:w'.heap[rb]?=some (.cells (Cq {st with atom:=l} {V with a:=c}) 169 (0,0)))
  (e:w'.ownsRow B 133 3 c l.length (Aq l)) (f:∀k,c.ownBlock=some k->Sa<=k):Ho w' B rb {st with atom:=l} {V with a:=c} Sa Sb vs xs:=by
 have r:=h.rest;exact⟨d,⟨e,BE r.opn b h.blk r.atom Yd Yd,BE r.vars b h.blk r.atom Yd Yd,D3 r.head b h.blk r.atom (Or.inr r.ta),
  En r.body b h.blk r.atom (Or.inr r.ta) (Or.inl Yd),Gh r.cls b h.blk r.atom (Or.inr r.ta) (Or.inl Yd) Yd (Or.inl Yd),f,r.tb,r.tv,Qq r.la b.size,Qq r.lb b.size⟩,h.le⟩
theorem D0.more{S':Nat}(h:D0 w B Sa v l)(a:Sa<=S'):D0 w B S' v l:=⟨h.1,fun k b=>Nat.lt_of_lt_of_le (h.2 k b) a⟩
theorem Cp.more{a:Lv}{S':Nat}(h:Cp w B Sa v ls a)(d:Sa<=S'):Cp w B S' v ls a:=
 ⟨h.1,fun i l hl=>by obtain⟨x,b,c⟩:=h.2 i l hl;exact⟨x,b,c.more d⟩⟩
theorem Fm.more{cs:List CC}{g:List (Lv)}{S' d:Nat}(h:Fm w B Sa Sb v cs g)(e:Sa<=S')(f:Sb<=d):Fm w B S' d v cs g:=
 ⟨h.1,h.2.1,h.2.2.1,fun i c o=>by
  obtain⟨p,j,r,q,l,m,n,a⟩:=h.2.2.2 i c o;exact⟨p,j,r,q,l,m.more e,n.more e,fun k b=>Nat.lt_of_lt_of_le (a.1 k b) f,a.2.1,fun k b=>Nat.lt_of_lt_of_le (a.2.2 k b) f⟩⟩
theorem Ho.headed(h:Ho w B rb st V Sa Sb vs xs)(b:Ad (C1 rb Nl) w w')(f:w'.heap[rb]?=some (.cells (Cq {st with head:=st.atom,atom:=[]} {V with h:=V.a,a:=Nl}) 169 (0,0))):
  Ho w' B rb {st with head:=st.atom,atom:=[]} {V with h:=V.a,a:=Nl} w'.hz Sb vs xs:=by
 have c:w.ownsRow B 169 1 Nl 0 []:=Q2 _ _ _ _;have r:=h.rest;have d:Sa<=w'.hz:=Qq r.la b.size;have ha:=BE r.atom b h.blk c Yd Yd;exact⟨f,⟨Q2 _ _ _ _,BE r.opn b h.blk c Yd Yd,BE r.vars b h.blk c Yd Yd,⟨ha,fun k e=>(ha.lt k e).2⟩,
  (En r.body b h.blk c (Or.inl Yd) (Or.inl Yd)).more d,(Gh r.cls b h.blk c (Or.inl Yd) (Or.inl Yd) Yd (Or.inl Yd)).more d (Qe _),fun k e=>by simp[Value.ownBlock]at e,r.tb,r.tv,Qe _,Qq r.lb b.size⟩,h.le⟩
theorem Ho.bodied(h:Ho w B rb st V Sa Sb vs xs)(c:Ad (C1 rb V.b) w w')(d:Value)(m:w'.heap[rb]?=some (.cells (Cq {st with body:=st.body++[st.atom],atom:=[]} {V with b:=d,a:=Nl}) 169 (0,0)))
  (o:w'.ownsRow B 105 1 d (st.body.length+1) (vs++[V.a])) (p:∀k,d.ownBlock=some k->Sb<=k):
  Ho w' B rb {st with body:=st.body++[st.atom],atom:=[]} {V with b:=d,a:=Nl} w'.hz Sb (vs++[V.a]) xs:=by
 have r:=h.rest;have f:Sa<=w'.hz:=Qq r.la c.size;have ha:=BE r.atom c h.blk r.body.1 Yd Yd;have q:vs.length=st.body.length:=by have:=r.body.1.1;omega
 refine⟨m,⟨Q2 _ _ _ _,BE r.opn c h.blk r.body.1 Yd Yd,BE r.vars c h.blk r.body.1 Yd Yd,(D3 r.head c h.blk r.body.1 (Or.inl Yd)).more f,?_,
  (Gh r.cls c h.blk r.body.1 (Or.inl Yd) (Or.inr r.tb) Yd (Or.inl Yd)).more f (Qe _),fun k e=>by simp[Value.ownBlock]at e,p,r.tv,Qe _,Qq r.lb c.size⟩,h.le⟩
 refine⟨by simpa using o,fun i l hl=> ?_⟩;rcases QB i st.body.length with hi|hi
 ·simp only at hl;rw[Qc hi]at hl;obtain⟨x,g,j⟩:=r.body.2 i l hl;exact⟨x,by rw[Qc Yo];exact g,(D3 j c h.blk r.body.1 (Or.inl Yd)).more f⟩
 ·have n:i=st.body.length:=by
   have:i<(st.body++[st.atom]).length:=(Qa.1 hl).1;simp at this;omega
  subst n;simp at hl;subst hl;exact⟨V.a,by rw[<-q];simp,ha,fun k e=>(ha.lt k e).2⟩
theorem Ho.clausd(h:Ho w B rb st V Sa Sb vs xs)(a:Ad (C1 rb V.c) w w')(j:Value)(d:RS)(F:w'.heap[rb]?=some (.cells (Cq d {V with c:=j,h:=Nl,b:=Nl,v:=Nl}) 169 (0,0)))
  (H:w'.ownsRow B 107 3 j (st.clauses.length+1) (xs.flatten++[V.h,V.b,V.v]))
  (y:d.atom=st.atom) (z:d.opn=st.opn) (A:d.vars=[]) (C:d.head=[]) (D:d.body=[]) (E:d.clauses=st.clauses++[⟨st.head,st.body,st.vars⟩]):
  Ho w' B rb d {V with c:=j,h:=Nl,b:=Nl,v:=Nl} Sa w'.hz [] (xs++[[V.h,V.b,V.v]]):=by
 have r:=h.rest;have o:Sb<=w'.hz:=Qq r.lb a.size;have n:=En r.body a h.blk r.cls.1 (Or.inl Yd) (Or.inl Yd);have p:=BE r.vars a h.blk r.cls.1 Yd Yd;refine⟨F,⟨?_,?_,?_,?_,?_,?_,r.ta,fun k e=>by simp[Value.ownBlock]at e,fun k e=>by simp[Value.ownBlock]at e,Qq r.la a.size,Qe _⟩,h.le⟩
 ·rw[y];exact BE r.atom a h.blk r.cls.1 Yd Yd
 ·rw[z];exact BE r.opn a h.blk r.cls.1 Yd Yd
 ·rw[A];exact Q2 _ _ _ _
 ·rw[C];exact⟨Q2 _ _ _ _,fun k e=>by simp[Value.ownBlock]at e⟩
 ·rw[D];exact⟨Q2 _ _ _ _,fun i l hl=>by simp at hl⟩
 ·rw[E];refine⟨by simpa using H,by simp[r.cls.2.1],?_,fun i c f=> ?_⟩
  ·intro x g;simp at g;rcases g with g|rfl
   ·exact r.cls.2.2.1 x g
   ·rfl
  ·rcases QB i st.clauses.length with hi|hi
   ·rw[Qc hi]at f;obtain⟨I,q,K,J,s,t,u,m⟩:=r.cls.2.2.2 i c f;exact⟨I,q,K,J,by rw[Qc (by rw[r.cls.2.1];exact hi)];exact s,D3 t a h.blk r.cls.1 (Or.inl Yd),En u a h.blk r.cls.1 (Or.inl Yd) (Or.inl Yd),fun k e=>Nat.lt_of_lt_of_le (m.1 k e) o,BE m.2.1 a h.blk r.cls.1 Yd Yd,fun k e=>Nat.lt_of_lt_of_le (m.2.2 k e) o⟩
   ·have G:i=st.clauses.length:=by
     have:i<(st.clauses++[(⟨st.head,st.body,st.vars⟩:CC)]).length:=(Qa.1 f).1;simp at this;omega
    subst G;simp at f;subst f;exact⟨V.h,V.b,V.v,vs,by rw[<-r.cls.2.1];simp,D3 r.head a h.blk r.cls.1 (Or.inl Yd),n,fun k e=>(n.1.lt k e).2,p,fun k e=>(p.lt k e).2⟩
end
def B1(w:World)(B rb:Nat)(st:RS):Prop:=∃V Sa Sb vs xs,Ho w B rb st V Sa Sb vs xs
theorem Fw{X:Value}(h:Ad (Ak X) w w1)(i:Nat)(u:Value):Ad (C1 rb X) w (w1.setCell ⟨rb,i,none⟩ u):=
 Ad.setCell (S:=C1 rb X) (h.mono (fun _ _ e=>Or.inr e)) (p:=⟨rb,i,none⟩) (fun _=>Or.inl rfl) u
theorem C0{X:Value}(h:Ad (C1 rb X) w w1)(i:Nat)(u:Value):Ad (C1 rb X) w (w1.setCell ⟨rb,i,none⟩ u):=
 Ad.setCell (S:=C1 rb X) h (p:=⟨rb,i,none⟩) (fun _=>Or.inl rfl) u
def F7(st:RS):RS:={st with opn:=st.opn.tail}
theorem Ui(w:World)(B c:Nat)(st:RS)(h:B1 w B c st)(hl:st.opn.length<=4096):
  Calls prog 170 #[Pt c] w fun e w'=>e=Rq #[]/\B1 w' B c (F7 st)/\Dp B w w':=by
 obtain⟨V,s,t,vs,xs,h⟩:=h;obtain⟨K,L,M,N,m,O,P,Q,R⟩:=h.opens.facts;have X:=fun i=>Ae h.blk i;have Y:=Ab h.blk;obtain⟨aa,l,f⟩:=Ac h.rest.opn
 cases b:st.opn with
 |nil=>
  rw[f]at m;simp only[b,Qt]at m;have C:Hd (F7 st=st):=by
   show _=_
   cases st
   simp only at b;subst b;rfl
  have d:=hd h;clear h f b;go_enter func170,I;go_wp2;go_end0;rw[C.o];exact⟨rfl,⟨V,s,t,vs,xs,d.o⟩,Dp.refl _ _⟩
 |S n r=>
  have Z:r.length+1<=4096:=by rw[b]at hl;simpa using hl
  have j:=h.rest.opn;rw[b,f,b]at j;obtain⟨g,T,U,u,W,G,F⟩:=An j Ys;simp only[QH]at u;obtain⟨rfl,_,rfl⟩:=u;rw[f]at m;simp only[b,Qf]at m F j;have y:=IW (n:=r.length) j;have z:V.o= .slice (some ⟨g,0,none⟩) (r.length+1) l:=by rw[f,b];rfl
  have d:=hd h;have D:=hd b;have A:=hd y;have J:=hd z;clear h f b j G y z;go_enter func170,I;go_wp2_with fail;go_region;go_end0;have v:Ad (C1 c V.o) w (w.setCell ⟨c,4,none⟩ (.slice (some ⟨g,0,none⟩) r.length l)):=(Ad.refl _ w).setCell (p:=⟨c,4,none⟩) (fun _=>Or.inl rfl) _;have H:(w.setCell ⟨c,4,none⟩ (.slice (some ⟨g,0,none⟩) r.length l)).ownsRow B 3 1 (.slice (some ⟨g,0,none⟩) r.length l) r.length (AM r.reverse):=by
   have e:(AM (n::r).reverse).take r.length=AM r.reverse:=by simp[AM]
   have q:=A.o;rw[e]at q;exact((Ad.refl (only c) w).put 4 _).owns q (fun k x e=>by
    have e:k=c:=e;rw[e]at x;exact Ai q Yd d.o.blk x)
  have a:=d.o.opened v r (.slice (some ⟨g,0,none⟩) r.length l) (Af d.o.blk 4 _) H;have E:F7 st={st with opn:=r}:=by simp[F7,D.o]
  rw[E];refine⟨rfl,⟨_,s,t,vs,xs,⟨a.blk,⟨a.rest.atom,a.rest.opn,a.rest.vars,a.rest.head,a.rest.body,a.rest.cls,a.rest.ta,a.rest.tb,a.rest.tv,a.rest.la,a.rest.lb⟩,a.le⟩⟩,?_⟩;exact(d.o.below v d.o.rest.opn Yd).drew
def Mg(st:RS)(t:Lu):RS:={st with vars:=(A8 st.vars t).1}
theorem Oy(w:World)(B a:Nat)(st:RS)(t:Lu)(h:B1 w B a st)(hl:st.vars.length<=4096):
  Calls prog 169 #[Pt a,.string ⟨t.toArray⟩] w fun e w'=>e= .returned (Vi (A8 st.vars t).2)/\B1 w' B a (Mg st t)/\Dp B w w':=by
 obtain⟨V,D,E,vs,xs,h⟩:=h;obtain⟨M,N,O,P,Q,R,S,F,T⟩:=h.opens.facts;have ac:=Ab h.blk;obtain⟨va,ae,y⟩:=Ac h.rest.vars;have u:=h.rest.vars;rw[y]at F u;have b:=hd h;have f:=hd u;have q:=hd y;have Y:B<=w.hz:=by have:=h.le;omega
 clear h u y;go_enter func169,al;go_wp2
 go_loop [13] (fun i=>∃k:Nat,k<=st.vars.length/\i=Vi k/\t∉st.vars.take k) (fun i=>st.vars.length-(intOf i).toNat)
 case atStart=>exact⟨0,Qm _,rfl,Ys⟩
 case round=>
  obtain⟨k,r,rfl,K⟩:=hrel;have p:=hd K;clear K
  by_cases m:k<st.vars.length
  ·obtain⟨g,af,ag,H,ai,I,ak⟩:=An f.o Yo;simp only[QH]at H;obtain⟨rfl,_,rfl⟩:=H;obtain⟨nm,s⟩:=Ex (st.vars[k]);have aj:w.cell? ⟨g,k,none⟩=some (.string ⟨nm.toArray⟩):=Ag f.o k _ (by simp[Ba,m,s]);have C:=hd s;clear I s;go_wp2
   ·have x:nm=t:=eq_of_beq (by assumption);go_ret;have ab:=I3 m (C.o.symm.trans x) p.o;rw[Mg,ab];exact⟨rfl,⟨V,D,E,vs,xs,b.o⟩,Dp.refl _ _⟩
   ·have x:nm≠t:=ne_of_beq_false (by assumption)
    go_round
    case rel=>exact⟨k+1,Yo,Yg,U3 m (fun h=>x (C.o.trans h)) p.o⟩
    case measure=>simp[intOf];omega
  ·have L:=hd (In m p.o)
   go_wp2_with (at_builtin;refine Am _ rfl (.tmp 28) (.tmp 30) 47 rfl B 9 infoStr underlying47 rfl Yd _ st.vars.length (Ba st.vars) rfl f.o _ rfl rfl rfl (NC _) ?_ Y ?_)
   ·omega
   intro am w1 j;obtain⟨c,d,rfl⟩:=Ac j.owns;have aa:¬Ak (.slice va st.vars.length ae) a:=Ai f.o Yd b.o.blk;have l:=(j.kept.block a ac aa).trans b.o.blk;have U:w1.cell? ⟨a,7,none⟩=some V.v:=Aa l 7 _ rfl;rw[q.o]at U;have ah:=fun i=>Ae l i;have n:=hd j;have A:=hd l;clear j l M N O P Q R S F T;go_wp2;go_ret;have r:Ad (C1 a V.v) w (w1.setCell ⟨a,7,none⟩ (.slice c (st.vars.length+1) d)):=by
    rw[q.o];exact Fw n.o.kept 7 _
   have ad:(w1.setCell ⟨a,7,none⟩ (.slice c (st.vars.length+1) d)).ownsRow B 9 1 (.slice c (st.vars.length+1) d) (st.vars++[t]).length (Ba (st.vars++[t])):=by
    have G:=n.o.owns;have X:=((Ad.refl (only a) w1).put 7 (.slice c (st.vars.length+1) d)).owns G (fun k J e=>by
     have e:k=a:=e;rw[e]at J;exact Ai G Yd A.o J)
    simpa[Ba]using X
   have Z:=b.o.named r (st.vars++[t]) (.slice c (st.vars.length+1) d) (Af A.o 7 _) ad (fun k e=>by
    rcases n.o.where_ with z|⟨g,z,I⟩
    ·exact b.o.rest.tv k (by rw[q.o];exact z.symm.trans e)
    ·have W:=z.symm.trans e;simp only[Qo]at W;have:=b.o.rest.lb;omega)
   rw[Mg,L.o];refine⟨F6 ?_,⟨_,D,E,vs,xs,Z⟩,b.o.below r b.o.rest.vars Yd⟩;omega
theorem BC{ops:Array Oper}{o:Oper}{a:Act}{c:Act->World->Prop}{l:Exit->Act->World->Prop}{k:Prop}{d:World}(w:World)(z:o.guard=none)(s x:Operand)(t:TypeId)
  (B:o.op= .call {callee:= .builtin .append,args:=#[s,x],argTypes:=#[t,t]})
  (base:Nat) (e:TypeId) {j:Value} {f:Nat}
  (A:(P.info? e).map (fun i=>(i.zero,i.size,i.bytes))=some (some j,size,f)) (F:P.underlying t=some (.slice e)) (I:j.cells.size=size) (E:0<size)
  (v:Value) (n:Nat) (xs:Lv) (D:a.eval s=v) (C:w.ownsRow base e size v n xs)
  (b:Av) {N:Nat} (H:a.eval x= .slice (some ⟨N,0,none⟩) 1 1) (p:N=w.hz) (hl:b.size=size) (m:∀u∈b.toList,u.oneCell'=true)
  (y:(n+1)*(f+1)<=140737488355328) (r:base<=w.hz) (q:d=w.alloc (.cells b e))
  (h:∀g w',Ar w base e size v (n+1) (xs++b.toList) g w'->c (a.put o.dst g) w'):if Region.wanted o (yielded ops a.tmps)=true then Oper.wp P o a d c l else k:=by
 have G:Region.wanted o (yielded ops a.tmps)=true:=by simp[Region.wanted,z]
 rw[if_pos G,q];exact LV w s x t B base e A F I E v n xs D C b H p hl m y r h
theorem Nc{o:Obj}{X:Value}{cs:Av}{T:TypeId}(h:Ad (Ak X) ((w.alloc o).drewN n) w1)(hb:w.heap[rb]?=some (.cells cs T (0,0)))(a:¬Ak X rb):w1.heap[rb]?=some (.cells cs T (0,0)):=
 (h.block rb (by have:=Ab hb;show rb<(w.alloc o).hz;simp;omega) a).trans (Ah hb o)
def Br(st:RS):Ly:=match st.opn with
 |[]=>st.atom
 |n::_=>st.atom.modify n (fun s=>{s with args:=s.args+1})
def Fr(st:RS)(s:BL):RS:={st with atom:=Br st++[s]}
theorem Fu(x:ByteArray)(y b:Int):∀u∈(#[Value.string x,Vi y,Vi b]:Av).toList,u.oneCell'=true:=by
 intro u a;simp at a;rcases a with rfl|rfl|rfl<;>rfl
theorem VN{nd:Nat}{V:RV}{j l:Nat}{xs:List (Lv)}{s:BL}{o:Obj}{b:Oa}{c:Nat}(d:Ho w B rb st V j l vs xs)
  (h:Ar ((w.alloc o).drewN nd) B 133 3 V.a (st.atom.length+1) (Aq st.atom++[.string ⟨s.name.toArray⟩,Vi s.num,Vi s.args]) (.slice b (st.atom.length+1) c) w1):
  Ho (w1.setCell ⟨rb,3,none⟩ (.slice b (st.atom.length+1) c)) B rb {st with atom:=st.atom++[s]} {V with a:= .slice b (st.atom.length+1) c} j l vs xs/\Dp B w (w1.setCell ⟨rb,3,none⟩ (.slice b (st.atom.length+1) c)):=by
 have n:=d.rest.atom;have p:=Nc h.kept d.blk (Ai n Yd d.blk);have f:Ad (C1 rb V.a) w (w1.setCell ⟨rb,3,none⟩ (.slice b (st.atom.length+1) c)):=Fw ((((Ad.refl _ w).alloc _).drewN _).trans h.kept) 3 _;have u:(w1.setCell ⟨rb,3,none⟩ (.slice b (st.atom.length+1) c)).ownsRow B 133 3 (.slice b (st.atom.length+1) c) (st.atom++[s]).length (Aq (st.atom++[s])):=by
  have m:=h.owns;have r:=((Ad.refl (only rb) w1).put 3 (.slice b (st.atom.length+1) c)).owns m (fun k q e=>by
   have e:k=rb:=e;rw[e]at q;exact Ai m Yd p q)
  simpa[Aq,Bz]using r
 have v:∀k,(Value.slice b (st.atom.length+1) c).ownBlock=some k->j<=k:=by
  intro k f;rcases h.where_ with i|⟨g,i,t⟩
  ·exact d.rest.ta k (by rw[<-i];exact f)
  ·rw[f]at i;simp at i;have:=d.rest.la;have x:w.hz+1<=g:=by simpa using t
   omega
 exact⟨d.atoms f (st.atom++[s]) (.slice b (st.atom.length+1) c) (Af p 3 _) u v,d.below f n Yd⟩
theorem BY{g:Nat}(h:w.ownsRow B e size (.slice (some ⟨g,0,none⟩) n cap) n xs)(i:Nat)(u:Value):
  (w.setCell ⟨g,i,none⟩ u).ownsRow B e size (.slice (some ⟨g,0,none⟩) n cap) n (xs.set i u):=by
 refine⟨by simpa using h.1,?_⟩;rcases h.2 with⟨a,_⟩|⟨l,k,b,a,hb,d,hn,c,f,j⟩
 ·simp at a
 ·simp at a;obtain⟨rfl,rfl⟩:=a;refine .inr ⟨g,cap,b.setIfInBounds i u,rfl,hb,Af d i u,hn,c,by simpa using f,?_⟩;rw[<-j];simp[List.take_set]
theorem Uw(l:Ly)(n:Nat)(s:BL)(h:l[n]?=some s):Aq (l.modify n (fun s=>{s with args:=s.args+1}))=(Aq l).set (n*3+2) (Vi ((s.args:Int)+1)):=by
 induction l generalizing n with
 |nil=>simp at h
 |cons a l b=>
  cases n with
  |zero=>
   simp at h;subst h;simp[Aq,Bz,List.modify]
  |succ n=>
   have:=b n (by simpa using h);simp only[List.modify_succ_cons];show Bz a++Aq _=(Bz a++Aq l).set _ _;rw[this,List.set_append_right _ _ (by simp[Bz];omega)]
   congr 2
   simp[Bz];omega
theorem WV(w:World)(B c:Nat)(st:RS)(s:BL)(h:B1 w B c st)(hb:L7 st)(k:st.opn=[]):
  Calls prog 168 #[Pt c,.agg #[.string ⟨s.name.toArray⟩,Vi s.num,Vi s.args]] w fun e w'=>e=Rq #[]/\B1 w' B c (Fr st s)/\Dp B w w':=by
 obtain⟨V,v,x,vs,xs,h⟩:=h;have U:=Ab h.blk;have Q:B<=w.hz:=by have:=h.le;omega
 obtain⟨aa,y,f⟩:=Ac h.rest.atom;have j:=h.rest.atom;rw[f]at j;have T:=hb.atom;have l:∀o,Fk (w.alloc o) B c st V:=fun o=>h.opens.later (S:=A4) ((Ad.refl _ w).alloc o) (fun h=>h) (fun _ _ h=>h) (fun _ _ h=>h);have p:=hd (fun o=>Jz (w.alloc o) B c st V (l o) hb.opn hb.atom);have n:DZ st= -1:=by simp[DZ,k]
 have t:=hd n;obtain⟨G,H,I,z,J,K,L,M,N⟩:=h.opens.facts;have R:=fun i=>Ae h.blk i;rw[f]at z;have g:=hd h;have m:=hd j;have u:=hd f;have q:Hd (Fr st s={st with atom:=st.atom++[s]}):=by show _=_;simp[Fr,Br,k]
 clear h j f l k n;go_enter func168,ntmps168;go_wp2_with fail;apply(p.o _).mono;rintro e w1 ⟨rfl,nd,rfl⟩;rw[t.o];go_wp2_with fail
 go_region_law (refine BC ((w.alloc (.cells #[.string ⟨s.name.toArray⟩,Vi s.num,Vi s.args] 133)).drewN (nd+1)) rfl (.tmp 24) (.tmp 26) 105 rfl B 133 infoSym underlying105 rfl Yd (.slice aa st.atom.length y) st.atom.length (Aq st.atom) rfl (m.o.alloc _) #[.string ⟨s.name.toArray⟩,Vi s.num,Vi s.args] rfl Ys rfl (Fu _ _ _) Yo Yp rfl ?_;intro W w1 b;obtain⟨E,F,rfl⟩:=Ac b.owns;have d:=Nc b.kept g.o.blk (Ai m.o Yd g.o.blk);have O:w1.cell? ⟨c,3,none⟩=some V.a:=Aa d 3 _ rfl;have P:=fun i=>Ae d i;have r:=hd b;have D:=hd d;clear b d)
 all_goals
  go_end0;rw[q.o];have b:=r.o;rw[<-u.o]at b;obtain⟨C,A⟩:=VN g.o b;exact⟨rfl,⟨_,v,x,vs,xs,C⟩,A⟩
theorem Ho.fresh{V:RV}{a b:Nat}{xs:List (Lv)}(h:Ho w B rb st V a b vs xs)(c:Ad A4 w w'):Ho w' B rb st V a b vs xs:=
 h.only (c.mono (fun _ _ h=>h.elim)) st ((c.block rb (Ab h.blk) (fun h=>h)).trans h.blk) rfl rfl rfl rfl rfl rfl
theorem Ho.counted{V:RV}{d f:Nat}{xs:List (Lv)}{g l:Nat}{r:List Nat}{so:BL}(h:Ho w B rb st V d f vs xs)(j:st.opn=n::r)(u:st.atom[n]?=some so)
  (c:V.a= .slice (some ⟨g,0,none⟩) st.atom.length l):Ho (w.setCell ⟨g,n*3+2,none⟩ (Vi ((so.args:Int)+1))) B rb {st with atom:=Br st} V d f vs xs/\Dp B w (w.setCell ⟨g,n*3+2,none⟩ (Vi ((so.args:Int)+1))):=by
 have b:=h.rest.atom;rw[c]at b;have t:¬rb=g:=fun e=>by subst e;exact Ai b Yd h.blk rfl
 have k:=BY b (n*3+2) (Vi ((so.args:Int)+1));rw[<-Uw st.atom n so u]at k;have o:(w.setCell ⟨g,n*3+2,none⟩ (Vi ((so.args:Int)+1))).heap[rb]?=some (.cells (Cq st V) 169 (0,0)):=by
  rw[Below.heap_setCell _ _ _ _ t];exact h.blk
 have i:Ad (C1 rb V.a) w (w.setCell ⟨g,n*3+2,none⟩ (Vi ((so.args:Int)+1))):=(Ad.refl _ w).setCell (p:=⟨g,n*3+2,none⟩) (fun _=>Or.inr (by rw[c];rfl)) _;have m:(Br st).length=st.atom.length:=by simp[Br,j]
 have q:Br st=st.atom.modify n (fun s=>{s with args:=s.args+1}):=by simp[Br,j]
 exact⟨h.atoms i (Br st) V.a o (by rw[m,q,c];exact k) h.rest.ta,h.below i h.rest.atom Yd⟩
theorem EO{X:Value}{cs:Av}{T:TypeId}(h:Ad (Ak X) (w.drewN n) w1)(hb:w.heap[rb]?=some (.cells cs T (0,0)))(a:¬Ak X rb):w1.heap[rb]?=some (.cells cs T (0,0)):=
 (h.block rb (Ab hb) a).trans hb
theorem Um{nd:Nat}{V:RV}{j l:Nat}{xs:List (Lv)}{s:BL}{b:Oa}{c:Nat}(d:Ho w B rb st V j l vs xs)
  (h:Ar (w.drewN nd) B 133 3 V.a (st.atom.length+1) (Aq st.atom++[.string ⟨s.name.toArray⟩,Vi s.num,Vi s.args]) (.slice b (st.atom.length+1) c) w1):
  Ho (w1.setCell ⟨rb,3,none⟩ (.slice b (st.atom.length+1) c)) B rb {st with atom:=st.atom++[s]} {V with a:= .slice b (st.atom.length+1) c} j l vs xs/\Dp B w (w1.setCell ⟨rb,3,none⟩ (.slice b (st.atom.length+1) c)):=by
 have n:=d.rest.atom;have o:=EO h.kept d.blk (Ai n Yd d.blk);have f:Ad (C1 rb V.a) w (w1.setCell ⟨rb,3,none⟩ (.slice b (st.atom.length+1) c)):=Fw (((Ad.refl _ w).drewN _).trans h.kept) 3 _;have t:(w1.setCell ⟨rb,3,none⟩ (.slice b (st.atom.length+1) c)).ownsRow B 133 3 (.slice b (st.atom.length+1) c) (st.atom++[s]).length (Aq (st.atom++[s])):=by
  have m:=h.owns;have q:=((Ad.refl (only rb) w1).put 3 (.slice b (st.atom.length+1) c)).owns m (fun k p e=>by
   have e:k=rb:=e;rw[e]at p;exact Ai m Yd o p)
  simpa[Aq,Bz]using q
 have u:∀k,(Value.slice b (st.atom.length+1) c).ownBlock=some k->j<=k:=by
  intro k f;rcases h.where_ with i|⟨g,i,r⟩
  ·exact d.rest.ta k (by rw[<-i];exact f)
  ·rw[f]at i;simp at i;have:=d.rest.la;have v:w.hz<=g:=by simpa using r
   omega
 exact⟨d.atoms f (st.atom++[s]) (.slice b (st.atom.length+1) c) (Af o 3 _) t u,d.below f n Yd⟩
theorem Xx(w:World)(B b:Nat)(st:RS)(s:BL)(n:Nat)(r:List Nat)(h:B1 w B b st)(hb:L7 st)(x:st.opn=n::r)(hn:n<st.atom.length):
  Calls prog 168 #[Pt b,.agg #[.string ⟨s.name.toArray⟩,Vi s.num,Vi s.args]] w fun e w'=>e=Rq #[]/\B1 w' B b (Fr st s)/\Dp B w w':=by
 obtain⟨V,T,U,vs,xs,h⟩:=h;have ao:=Ab h.blk;have X:B<=w.hz:=by have:=h.le;omega
 have an:=hb.atom;obtain⟨so,y⟩:∃so,st.atom[n]?=some so:=⟨_,Qb hn⟩;have ai:=hb.args so (Qh y);have C:∀o,Fk (w.alloc o) B b st V:=fun o=>h.opens.later (S:=A4) ((Ad.refl _ w).alloc o) (fun h=>h) (fun _ _ h=>h) (fun _ _ h=>h);have O:=hd (fun o=>Jz (w.alloc o) B b st V (C o) hb.opn hb.atom);have Q:Hd (DZ st=n):=by show _=_;simp[DZ,x];omega
 have z:=hd h;have F:=hd x;have G:=hd y;clear h C x y;go_enter func168,ntmps168;go_wp2_with fail;apply(O.o _).mono;rintro e w1 ⟨rfl,nd,j⟩;rw[Q.o];have v:Ad A4 w w1:=by rw[j];exact((Ad.refl _ w).alloc _).drewN _
 have ab:w1.cell? ⟨w.hz,0,none⟩=some (.string ⟨s.name.toArray⟩):=by rw[j];exact AZ w _ _ 0 _ rfl
 have b1:w1.cell? ⟨w.hz,1,none⟩=some (Vi s.num):=by rw[j];exact AZ w _ _ 1 _ rfl
 have b2:w1.cell? ⟨w.hz,2,none⟩=some (Vi s.args):=by rw[j];exact AZ w _ _ 2 _ rfl
 have aq:w.hz<w1.hz:=by rw[j];show w.hz<(w.alloc _).hz;simp
 clear j;have f:=z.o.fresh v;obtain⟨aa,H,d⟩:=Ac f.rest.atom;have k:=f.rest.atom;rw[d]at k;obtain⟨g,af,ag,L,ah,M,aj⟩:=An k Yo;simp only[QH]at L;obtain⟨rfl,_,rfl⟩:=L;have am:g<w.hz:=(z.o.rest.atom.lt g (by rw[d];rfl)).2;have al:¬b=g:=fun e=>by subst e;exact Ai k Yd f.blk rfl
 have cg:w1.cell? ⟨g,n*3+2,none⟩=some (Vi so.args):=Ag k _ _ (by rw[AV _ n so G.o 2 Yo];rfl);have ae:=Ae M (n*3+2);have W:w1.cell? ⟨b,3,none⟩=some V.a:=f.opens.facts.2.2.2.1;rw[d]at W;obtain⟨q,J⟩:=f.counted F.o G.o d;have D:Hd ((w1.setCell ⟨g,n*3+2,none⟩ (Vi ((so.args:Int)+1))).ownsRow B 133 3 (.slice (some ⟨g,0,none⟩) st.atom.length H) (Br st).length (Aq (Br st))):=by
  have p:=q.rest.atom;simp only at p;rw[d]at p;exact p
 have t:(Br st).length=st.atom.length:=by simp[Br,F.o]
 have E:=hd t;have m:=D.o;rw[t]at m;have A:=hd m;have N:=hd ((Dp.fresh v X).trans J);have l:=hd q;have R:=hd d;have ar:B<=w1.hz:=Yo
 have ap:b<w1.hz:=Yo
 have ak:g<w1.hz:=Yo
 clear f k d M q J D m t v;go_wp2_with fail
 go_region_law (refine BC ((w1.setCell ⟨g,n*3+2,none⟩ (Vi ((so.args:Int)+1))).drewN 1) rfl (.tmp 24) (.tmp 26) 105 rfl B 133 infoSym underlying105 rfl Yd (.slice (some ⟨g,0,none⟩) st.atom.length H) st.atom.length (Aq (Br st)) rfl A.o #[.string ⟨s.name.toArray⟩,Vi s.num,Vi s.args] rfl Ys rfl (Fu _ _ _) Yo Yp rfl ?_;intro au w2 c;obtain⟨Y,Z,rfl⟩:=Ac c.owns;have u:=EO c.kept l.o.blk (Ai A.o Yd l.o.blk);have ac:w2.cell? ⟨b,3,none⟩=some V.a:=Aa u 3 _ rfl;have ad:=fun i=>Ae u i;have P:=hd c;clear c u)
 all_goals
  go_end0;have c:=P.o;rw[<-R.o]at c;rw[<-E.o]at c;obtain⟨K,I⟩:=Um l.o c;simp only[E.o]at K I;exact⟨rfl,⟨_,T,U,vs,xs,K⟩,N.o.trans I⟩
def AG(st:RS):RS:=if st.inBody then{st with body:=st.body++[st.atom],atom:=[]}else{st with head:=st.atom,atom:=[]}
theorem DB(a:Oa)(n c:Nat):∀u∈(#[Value.slice a n c]:Av).toList,u.oneCell'=true:=by
 intro u b;simp at b;subst b;rfl
theorem HO(w:World)(B c:Nat)(st:RS)(h:B1 w B c st)(hb:L7 st):
  Calls prog 172 #[Pt c] w fun e w'=>e=Rq #[]/\B1 w' B c (AG st)/\Dp B w w':=by
 obtain⟨V,T,H,vs,xs,h⟩:=h;have ah:=Ab h.blk;have ac:B<=w.hz:=by have:=h.le;omega
 obtain⟨U,W,E,K,X,L,M,Y,Z⟩:=h.opens.facts;have ae:=fun i=>Ae h.blk i;obtain⟨aa,y,q⟩:=Ac h.rest.atom;obtain⟨I,J,r⟩:=Ac h.rest.body.1;have ag:=hb.body;have p:=h.rest.body.1;rw[r]at p M;rw[q]at K;obtain⟨ha,ad,A⟩:=Ac h.rest.head.1;rw[A]at L;have d:=hd h;have D:=hd p;have v:=hd q;have x:=hd r
 cases l:st.inBody
 ·rw[l]at E;have u:Hd (AG st={st with head:=st.atom,atom:=[]}):=by show _=_;simp[AG,l]
  clear h q r p A l;go_enter func172,ntmps172;go_wp2;go_end0;have f:Ad (C1 c Nl) w ((w.setCell ⟨c,5,none⟩ (.slice aa st.atom.length y)).setCell ⟨c,3,none⟩ Nl):=C0 (C0 (Ad.refl _ w) 5 _) 3 _;have z:((w.setCell ⟨c,5,none⟩ (.slice aa st.atom.length y)).setCell ⟨c,3,none⟩ Nl).heap[c]?=some (.cells (Cq {st with head:=st.atom,atom:=[]} {V with h:=V.a,a:=Nl}) 169 (0,0)):=by
   rw[Af (Af d.o.blk 5 _) 3 _];simp[Cq,v.o]
  rw[u.o];exact⟨rfl,⟨_,_,_,_,_,d.o.headed f z⟩,d.o.below f (Q2 w B 169 1) Yd⟩
 ·rw[l]at E;have u:Hd (AG st={st with body:=st.body++[st.atom],atom:=[]}):=by show _=_;simp[AG,l]
  clear h q r p A l;go_enter func172,ntmps172;go_wp2_with fail
  go_region_law (refine BC (w.drewN 1) rfl (.tmp 11) (.tmp 16) 85 rfl B 105 infoSyms underlying85 rfl Yd (.slice I st.body.length J) st.body.length vs rfl D.o #[.slice aa st.atom.length y] rfl Ys rfl (DB _ _ _) Yo Yp rfl ?_;intro ai w2 n;obtain⟨b1,j,rfl⟩:=Ac n.owns;have m:=EO n.kept d.o.blk (Ai D.o Yd d.o.blk);have N:w2.cell? ⟨c,3,none⟩=some V.a:=Aa m 3 _ rfl;have O:w2.cell? ⟨c,6,none⟩=some V.b:=Aa m 6 _ rfl;have ab:=fun i=>Ae m i;have t:=hd n;have C:=hd m;clear n m)
  all_goals
   rw[v.o]at N;rw[x.o]at O;go_wp2;go_end0;have f:Ad (C1 c V.b) w ((w2.setCell ⟨c,6,none⟩ (.slice b1 (st.body.length+1) j)).setCell ⟨c,3,none⟩ Nl):=by
    rw[x.o];exact C0 (Fw (((Ad.refl _ w).drewN _).trans t.o.kept) 6 _) 3 _
   have z:((w2.setCell ⟨c,6,none⟩ (.slice b1 (st.body.length+1) j)).setCell ⟨c,3,none⟩ Nl).heap[c]?=some (.cells (Cq {st with body:=st.body++[st.atom],atom:=[]} {V with b:= .slice b1 (st.body.length+1) j,a:=Nl}) 169 (0,0)):=by
    rw[Af (Af C.o 6 _) 3 _];simp[Cq]
   have R:((w2.setCell ⟨c,6,none⟩ (.slice b1 (st.body.length+1) j)).setCell ⟨c,3,none⟩ Nl).ownsRow B 105 1 (.slice b1 (st.body.length+1) j) (st.body.length+1) (vs++[V.a]):=by
    have F:=t.o.owns;have P:=(((Ad.refl (only c) w2).put 6 (.slice b1 (st.body.length+1) j)).put 3 Nl).owns F (fun k G e=>by
     have e:k=c:=e;rw[e]at G;exact Ai F Yd C.o G)
    rw[v.o];simpa using P
   have S:∀k,(Value.slice b1 (st.body.length+1) j).ownBlock=some k->H<=k:=by
    intro k f;rcases t.o.where_ with s|⟨g,s,Q⟩
    ·exact d.o.rest.tb k (by rw[x.o,<-s];exact f)
    ·rw[f]at s;simp at s;have:=d.o.rest.lb;have af:w.hz<=g:=by simpa using Q
     omega
   rw[u.o];exact⟨rfl,⟨_,_,_,_,_,d.o.bodied f _ z R S⟩,d.o.below f d.o.rest.body.1 Yd⟩
theorem B1.next(h:B1 w B rb st)(n:Nat):B1 (w.setCell ⟨rb,1,none⟩ (Vi n)) B rb {st with next:=n}/\Dp B w (w.setCell ⟨rb,1,none⟩ (Vi n)):=by
 obtain⟨V,b,c,vs,xs,h⟩:=h;have a:Ad (C1 rb Nl) w (w.setCell ⟨rb,1,none⟩ (Vi n)):=C0 (Ad.refl _ w) 1 _;exact⟨⟨V,b,c,vs,xs,h.only a {st with next:=n} (Af h.blk 1 _) rfl rfl rfl rfl rfl rfl⟩,h.below a (Q2 w B 169 1) Yd⟩
theorem B1.inb(h:B1 w B rb st)(b:Bool):B1 (w.setCell ⟨rb,2,none⟩ (.bool b)) B rb {st with inBody:=b}/\Dp B w (w.setCell ⟨rb,2,none⟩ (.bool b)):=by
 obtain⟨V,c,d,vs,xs,h⟩:=h;have a:Ad (C1 rb Nl) w (w.setCell ⟨rb,2,none⟩ (.bool b)):=C0 (Ad.refl _ w) 2 _;exact⟨⟨V,c,d,vs,xs,h.only a {st with inBody:=b} (Af h.blk 2 _) rfl rfl rfl rfl rfl rfl⟩,h.below a (Q2 w B 169 1) Yd⟩
theorem B1.cells(h:B1 w B rb st):rb<w.hz/\w.cell? ⟨rb,0,none⟩=some (.bool st.query)/\w.cell? ⟨rb,1,none⟩=some (Vi st.next)/\w.cell? ⟨rb,2,none⟩=some (.bool st.inBody)/\
  (∃a b,w.cell? ⟨rb,4,none⟩=some (.slice a st.opn.length b))/\∀i,w.frozen? ⟨rb,i,none⟩=false:=by
 obtain⟨V,j,k,vs,xs,h⟩:=h;obtain⟨d,e,f,l,c,m,n,o,p⟩:=h.opens.facts;obtain⟨a,b,g⟩:=Ac h.rest.opn;rw[g]at c;exact⟨Ab h.blk,d,e,f,⟨a,b,c⟩,fun i=>Ae h.blk i⟩
def EB(st:RS):RS:=if st.opn.isEmpty then{AG st with next:=1}else{st with next:=2}
theorem UE(w:World)(B b:Nat)(st:RS)(h:B1 w B b st)(hb:L7 st):
  Calls prog 171 #[Pt b] w fun e w'=>e=Rq #[]/\B1 w' B b (EB st)/\Dp B w w':=by
 obtain⟨A,q,s,t,⟨E,F,d⟩,u⟩:=h.cells;have hl:=hb.opn;have k:=hd h;have p:=hd (HO w B b st h hb)
 cases a:st.opn with
 |nil=>
  simp only[a,Qt]at d;have c:Hd (EB st={AG st with next:=1}):=by show _=_;simp[EB,a]
  clear h a;go_enter func171,ntmps171;go_wp2_with fail;apply p.o.mono;rintro e w1 ⟨rfl,f,j⟩;obtain⟨C,v,x,y,_,z⟩:=f.cells;have l:=hd f;have m:=hd j;clear f j q s t d u;go_wp2;go_end0;obtain⟨i,g⟩:=l.o.next 1;rw[c.o];exact⟨rfl,i,m.o.trans g⟩
 |cons n r=>
  have D:r.length+1<=4096:=by rw[a]at hl;simpa using hl
  simp only[a,Qf]at d;have c:Hd (EB st={st with next:=2}):=by show _=_;simp[EB,a]
  clear h a;go_enter func171,ntmps171;go_wp2;refine bodyPost_ret (results_none rfl _ _ _) rfl ?_;obtain⟨i,g⟩:=k.o.next 2;rw[c.o];exact⟨rfl,i,g⟩
def AE(st:RS):RS:={st with clauses:=st.clauses++[⟨st.head,st.body,st.vars⟩],head:=[],body:=[],vars:=[],inBody:=false,next:=if st.query then 5 else 0}
theorem VF(a b c:Oa)(n m k x y e:Nat):∀u∈(#[Value.slice a n x,.slice b m y,.slice c k e]:Av).toList,u.oneCell'=true:=by
 intro u d;simp at d;rcases d with rfl|rfl|rfl<;>rfl
def Jw(w:World)(rb:Nat)(c:Value):World:=(((((w.setCell ⟨rb,8,none⟩ c).setCell ⟨rb,5,none⟩ (.slice none 0 0)).setCell ⟨rb,6,none⟩ (.slice none 0 0)).setCell ⟨rb,7,none⟩ (.slice none 0 0)).setCell ⟨rb,2,none⟩ (.bool false)).setCell ⟨rb,1,none⟩ (.int .i64 0)
theorem Pk{nd:Nat}{V:RV}{n o:Nat}{xs:List (Lv)}{a:Oa}{d:Nat}(f:Ho w B rb st V n o vs xs)
  (g:Ar (w.drewN nd) B 107 3 V.c (st.clauses.length+1) (xs.flatten++[V.h,V.b,V.v]) (.slice a (st.clauses.length+1) d) w2):
  B1 (Jw w2 rb (.slice a (st.clauses.length+1) d)) B rb {AE st with next:=0}/\Dp B w (Jw w2 rb (.slice a (st.clauses.length+1) d)):=by
 have j:=EO g.kept f.blk (Ai f.rest.cls.1 Yd f.blk);have l:Ad (C1 rb V.c) w (Jw w2 rb (.slice a (st.clauses.length+1) d)):=
  C0 (C0 (C0 (C0 (C0 (Fw (((Ad.refl _ w).drewN _).trans g.kept) 8 _) 5 _) 6 _) 7 _) 2 _) 1 _
 have p:(Jw w2 rb (.slice a (st.clauses.length+1) d)).heap[rb]?=some (.cells (Cq {AE st with next:=0} {V with c:= .slice a (st.clauses.length+1) d,h:=Nl,b:=Nl,v:=Nl}) 169 (0,0)):=by
  unfold Jw;rw[Af (Af (Af (Af (Af (Af j 8 _) 5 _) 6 _) 7 _) 2 _) 1 _];simp[Cq,AE]
 have q:(Jw w2 rb (.slice a (st.clauses.length+1) d)).ownsRow B 107 3 (.slice a (st.clauses.length+1) d) (st.clauses.length+1) (xs.flatten++[V.h,V.b,V.v]):=by
  have i:=g.owns;exact((((((((Ad.refl (only rb) w2).put 8 _).put 5 _).put 6 _).put 7 _).put 2 _).put 1 _)).owns i (fun k m e=>by
   have e:k=rb:=e;rw[e]at m;exact Ai i Yd j m)
 exact⟨⟨_,_,_,_,_,f.clausd l _ {AE st with next:=0} p q rfl rfl rfl rfl rfl rfl⟩,f.below l f.rest.cls.1 Yd⟩
theorem Md(w:World)(B d:Nat)(st:RS)(h:B1 w B d st)(hb:L7 st):
    Calls prog 173 #[Pt d] w fun e w'=>e=Rq #[]/\B1 w' B d (AE st)/\Dp B w w':=by
  obtain⟨V,W,X,vs,xs,h⟩:=h;have ak:=Ab h.blk;have ah:B<=w.hz:=by have:=h.le;omega
  obtain⟨F,Y,ab,ac,ad,G,H,I,J⟩:=h.opens.facts;have ai:=fun i=>Ae h.blk i;obtain⟨ca,K,p⟩:=Ac h.rest.cls.1;obtain⟨ha,S,q⟩:=Ac h.rest.head.1;obtain⟨D,E,n⟩:=Ac h.rest.body.1;obtain⟨va,T,r⟩:=Ac h.rest.vars;have aj:=hb.cls;have l:=h.rest.cls.1;rw[p]at l J;rw[q]at G;rw[n]at H;rw[r]at I;have g:=hd h;have s:=hd l;have x:=hd q;have t:=hd n;have u:=hd p;have y:=hd r
  cases m:st.query
  all_goals
    rw[m]at F;have k:=hd m;clear h p q n r l m;go_enter func173,ntmps173;go_wp2_with fail
    go_region_law (refine BC (w.drewN 1) rfl (.tmp 6) (.tmp 11) 104 rfl B 107 infoCls underlying104 rfl Yd (.slice ca st.clauses.length K) st.clauses.length xs.flatten rfl s.o #[.slice ha st.head.length S,.slice D st.body.length E,.slice va st.vars.length T] rfl Ys rfl (VF _ _ _ _ _ _ _ _ _) Yo Yp rfl ?_;intro al w2 f;obtain⟨Z,aa,rfl⟩:=Ac f.owns;have a:=EO f.kept g.o.blk (Ai s.o Yd g.o.blk);have L:w2.cell? ⟨d,0,none⟩=some (.bool st.query):=Aa a 0 _ rfl;have ae:w2.cell? ⟨d,1,none⟩=some (Vi st.next):=Aa a 1 _ rfl;have af:w2.cell? ⟨d,2,none⟩=some (.bool st.inBody):=Aa a 2 _ rfl;have M:w2.cell? ⟨d,5,none⟩=some V.h:=Aa a 5 _ rfl;have N:w2.cell? ⟨d,6,none⟩=some V.b:=Aa a 6 _ rfl;have O:w2.cell? ⟨d,7,none⟩=some V.v:=Aa a 7 _ rfl;have P:w2.cell? ⟨d,8,none⟩=some V.c:=Aa a 8 _ rfl;have ag:=fun i=>Ae a i;have C:=hd f;have U:=hd a;clear f a)
  all_goals
    rw[x.o]at M;rw[t.o]at N;rw[y.o]at O;rw[u.o]at P;rw[k.o]at L;go_wp2;go_end0;have f:=C.o;rw[<-x.o,<-t.o,<-y.o,<-u.o]at f;obtain⟨A,z⟩:=Pk g.o f
    first
    | (have j:AE st={AE st with next:=0}:=by simp[AE,k.o]
       rw[j];exact⟨rfl,A,z⟩)
    | (have j:AE st={{AE st with next:=0}with next:=5}:=by simp[AE,k.o]
       obtain⟨R,Q⟩:=A.next 5;rw[j];exact⟨rfl,R,z.trans Q⟩)
def AT(st:RS)(kd:Nat)(t:Lu):RS:=
 if kd=1 then{Fr st ⟨t,0,0⟩with next:=3}
 else if kd=2 then{Fr (Mg st t) ⟨[],(A8 st.vars t).2,0⟩with next:=4}
 else if kd=3 then{st with opn:=(st.atom.length-1)::st.opn,next:=2}
 else if kd=4 then{F7 st with next:=4}
 else if kd=5 then EB st
 else if kd=7 then{AG st with inBody:=true,next:=1}
 else if kd=6 then AE (AG st)
 else st
theorem Tg(w:World)(B a:Nat)(st:RS)(s:BL)(h:B1 w B a st)(hb:L7 st)(c:∀n∈st.opn,n<st.atom.length):
  Calls prog 168 #[Pt a,.agg #[.string ⟨s.name.toArray⟩,Vi s.num,Vi s.args]] w fun e w'=>e=Rq #[]/\B1 w' B a (Fr st s)/\Dp B w w':=by
 cases b:st.opn with
 |nil=>exact WV w B a st s h hb b
 |cons n r=>exact Xx w B a st s n r h hb b (c n (by simp[b]))
theorem XO(w:World)(B a:Nat)(st:RS)(t:Lu)(h:B1 w B a st)(hb:L7 st)(d:∀n∈st.opn,n<st.atom.length):
  Calls prog 132 #[Pt a,Vi 1,.string ⟨t.toArray⟩] w fun e w'=>e=Rq #[]/\B1 w' B a (AT st 1 t)/\Dp B w w':=by
 have g:=hd (Tg w B a st ⟨t,0,0⟩ h hb d);clear h d;go_enter func132,ntmps132;go_wp2_with fail;apply g.o.mono;rintro e w1 ⟨rfl,b,c⟩;obtain⟨r,l,m,p,_,q⟩:=b.cells;have f:=hd b;have i:=hd c;clear b c;go_wp2;go_end0;obtain⟨k,j⟩:=f.o.next 3;exact⟨rfl,k,i.o.trans j⟩
theorem XN(w:World)(B b:Nat)(st:RS)(t:Lu)(h:B1 w B b st)(hb:L7 st)(s:st.vars.length<=4096)(g:∀n∈st.opn,n<st.atom.length):
  Calls prog 132 #[Pt b,Vi 2,.string ⟨t.toArray⟩] w fun e w'=>e=Rq #[]/\B1 w' B b (AT st 2 t)/\Dp B w w':=by
 have m:=hd (Oy w B b st t h s);have a:=hd hb;have p:=hd g;clear h g;go_enter func132,ntmps132;go_wp2_with fail;apply m.o.mono;rintro e u ⟨rfl,h0,d⟩;have j:=hd (Tg u B b (Mg st t) ⟨[],(A8 st.vars t).2,0⟩ h0 ⟨a.o.opn,a.o.atom,a.o.body,a.o.cls,a.o.args⟩ p.o);have k:=hd d;clear h0 d;go_wp2_with fail;apply j.o.mono;rintro e w1 ⟨rfl,c,f⟩;obtain⟨A,v,x,y,_,z⟩:=c.cells;have i:=hd c;have l:=hd f;clear c f;go_wp2;go_end0;obtain⟨r,q⟩:=i.o.next 4;exact⟨rfl,r,k.o.trans (l.o.trans q)⟩
theorem XT(w:World)(B a:Nat)(st:RS)(t:Lu)(h:B1 w B a st)(hb:L7 st):
  Calls prog 132 #[Pt a,Vi 4,.string ⟨t.toArray⟩] w fun e w'=>e=Rq #[]/\B1 w' B a (AT st 4 t)/\Dp B w w':=by
 have f:=hd (Ui w B a st h hb.opn);clear h;go_enter func132,ntmps132;go_wp2_with fail;apply f.o.mono;rintro e w1 ⟨rfl,b,c⟩;obtain⟨p,k,l,m,_,n⟩:=b.cells;have d:=hd b;have g:=hd c;clear b c;go_wp2;go_end0;obtain⟨j,i⟩:=d.o.next 4;exact⟨rfl,j,g.o.trans i⟩
theorem XF(w:World)(B a:Nat)(st:RS)(t:Lu)(h:B1 w B a st)(hb:L7 st):
  Calls prog 132 #[Pt a,Vi 5,.string ⟨t.toArray⟩] w fun e w'=>e=Rq #[]/\B1 w' B a (AT st 5 t)/\Dp B w w':=by
 have f:=hd (UE w B a st h hb);clear h;go_enter func132,ntmps132;go_wp2_with fail;apply f.o.mono;rintro e w1 ⟨rfl,b,c⟩;have d:=hd b;have g:=hd c;clear b c;go_wp2;go_end0;exact⟨rfl,d.o,g.o⟩
theorem XS(w:World)(B a:Nat)(st:RS)(t:Lu)(h:B1 w B a st)(hb:L7 st):
  Calls prog 132 #[Pt a,Vi 7,.string ⟨t.toArray⟩] w fun e w'=>e=Rq #[]/\B1 w' B a (AT st 7 t)/\Dp B w w':=by
 have f:=hd (HO w B a st h hb);clear h;go_enter func132,ntmps132;go_wp2_with fail;apply f.o.mono;rintro e w1 ⟨rfl,b,c⟩;obtain⟨r,m,n,p,_,q⟩:=b.cells;have d:=hd b;have g:=hd c;clear b c;go_wp2;go_end0;obtain⟨k,i⟩:=d.o.inb true;obtain⟨l,j⟩:=k.next 1;exact⟨rfl,l,g.o.trans (i.trans j)⟩
theorem L7.endAtom(hb:L7 st)(h:st.body.length+1<=4096):L7 (AG st):=by
 unfold AG;split
 ·exact⟨hb.opn,Ys,by simpa using h,hb.cls,Ys⟩
 ·exact⟨hb.opn,Ys,hb.body,hb.cls,Ys⟩
theorem XP(w:World)(B a:Nat)(st:RS)(t:Lu)(h:B1 w B a st)(hb:L7 st)(n:st.body.length+1<=4096):
  Calls prog 132 #[Pt a,Vi 6,.string ⟨t.toArray⟩] w fun e w'=>e=Rq #[]/\B1 w' B a (AT st 6 t)/\Dp B w w':=by
 have i:=hd (HO w B a st h hb);have m:=hd (hb.endAtom n);clear h;go_enter func132,ntmps132;go_wp2_with fail;apply i.o.mono;rintro e w1 ⟨rfl,b,d⟩;have l:=hd (Md w1 B a (AG st) b m.o);have j:=hd d;clear b d;go_wp2_with fail;apply l.o.mono;rintro e w2 ⟨rfl,c,f⟩;have g:=hd c;have k:=hd f;clear c f;go_wp2;go_end0;exact⟨rfl,g.o,j.o.trans k.o⟩
theorem XI(w:World)(B a:Nat)(st:RS)(t:Lu)(h:B1 w B a st)(hb:L7 st)(ac:0<st.atom.length):
  Calls prog 132 #[Pt a,Vi 3,.string ⟨t.toArray⟩] w fun e w'=>e=Rq #[]/\B1 w' B a (AT st 3 t)/\Dp B w w':=by
 obtain⟨V,x,y,vs,xs,h⟩:=h;have ad:=Ab h.blk;have X:B<=w.hz:=by have:=h.le;omega
 obtain⟨N,O,P,z,A,Q,R,S,T⟩:=h.opens.facts;have Y:=fun i=>Ae h.blk i;obtain⟨aa,M,v⟩:=Ac h.rest.atom;obtain⟨K,L,l⟩:=Ac h.rest.opn;have ab:=hb.opn;have Z:=hb.atom;have j:=h.rest.opn;rw[l]at j A;rw[v]at z;have b:=hd h;have p:=hd j;have q:=hd l;have I:IntKind.i64.wrap (((st.atom.length:Nat):Int)-1)=((st.atom.length-1:Nat):Int):=by rw[IntKind.wrap_i64];omega
 clear h v l j;go_enter func132,ntmps132;go_wp2_with fail
 go_region_law (refine BC (w.drewN 1) rfl (.tmp 35) (.tmp 42) 25 rfl B 3 infoInt underlying25 rfl Yd (.slice K st.opn.length L) st.opn.length (AM st.opn.reverse) rfl p.o #[Vi ((st.atom.length-1:Nat):Int)] rfl Ys rfl (DT _) Yo Yp rfl ?_;intro ae w2 g;obtain⟨d,f,rfl⟩:=Ac g.owns;have c:=EO g.kept b.o.blk (Ai p.o Yd b.o.blk);have U:w2.cell? ⟨a,1,none⟩=some (Vi st.next):=Aa c 1 _ rfl;have C:w2.cell? ⟨a,4,none⟩=some V.o:=Aa c 4 _ rfl;have W:=fun i=>Ae c i;have m:=hd g;have n:=hd c;clear g c)
 all_goals
  rw[q.o]at C;go_wp2;go_end0;have s:Ad (C1 a V.o) w (w2.setCell ⟨a,4,none⟩ (.slice d (st.opn.length+1) f)):=by
   rw[q.o];exact Fw (((Ad.refl _ w).drewN _).trans m.o.kept) 4 _
  have J:(w2.setCell ⟨a,4,none⟩ (.slice d (st.opn.length+1) f)).ownsRow B 3 1 (.slice d (st.opn.length+1) f) ((st.atom.length-1)::st.opn).length (AM ((st.atom.length-1)::st.opn).reverse):=by
   have r:=m.o.owns;have D:=((Ad.refl (only a) w2).put 4 (.slice d (st.opn.length+1) f)).owns r (fun k u e=>by
    have e:k=a:=e;rw[e]at u;exact Ai r Yd n.o u)
   simpa[AM,I]using D
  have G:=b.o.opened s ((st.atom.length-1)::st.opn) (.slice d (st.opn.length+1) f) (Af n.o 4 _) J;have E:=b.o.below s b.o.rest.opn Yd;obtain⟨H,F⟩:=B1.next ⟨_,x,y,vs,xs,G⟩ 2;exact⟨rfl,H,E.trans F⟩
structure VD(st:RS)(kd:Nat):Prop where
 bd:L7 st
 vars:st.vars.length<=4096
 body:st.body.length+1<=4096
 opn:∀n∈st.opn,n<st.atom.length
 lo:1<=kd
 hi:kd<=7
 bracket:kd=3->0<st.atom.length
theorem U8(w:World)(B a:Nat)(st:RS)(kd:Nat)(t:Lu)(h:B1 w B a st)(c:VD st kd):
  Calls prog 132 #[Pt a,Vi kd,.string ⟨t.toArray⟩] w fun e w'=>e=Rq #[]/\B1 w' B a (AT st kd t)/\Dp B w w':=by
 obtain⟨bd,vars,body,opn,lo,hi,bracket⟩:=c;have b:kd=1\/kd=2\/kd=3\/kd=4\/kd=5\/kd=6\/kd=7:=Yo
 rcases b with rfl|rfl|rfl|rfl|rfl|rfl|rfl
 ·exact XO w B a st t h bd opn
 ·exact XN w B a st t h bd vars opn
 ·exact XI w B a st t h bd (bracket rfl)
 ·exact XT w B a st t h bd
 ·exact XF w B a st t h bd
 ·exact XP w B a st t h bd body
 ·exact XS w B a st t h bd
theorem TX(f b:Nat)(w:World)(ts:List BZ)(k:Nat)(c:Int)(tv:Value)(a B:Nat)(names:At)(nv:Value)(q:Ll×List BZ×At)(l:c=(k:Int))
  (n:BI f b (ts.drop k) names []=some q) (p:w.ownsRow a 243 3 tv ts.length (AP ts)) (m:w.ownsRow B 9 1 nv names.length (Ba names)) (h:B<=w.hz)
  (hl:ts.length<=1000) (hn:names.length+(ts.length-k)<=1000) (r:∀t∈ts,t.text.length<=4096) (o:∀i t,ts[i]?=some t->i+1<ts.length->t.text≠[]):
  Calls prog 144 #[tv,Vi c,nv] w fun e w'=>∃d g j xs,e=Rq #[d,Vi (j:Nat),g]/\q.2.1=ts.drop j/\k<j/\j<=ts.length/\
   Fg f w' w.hz d q.1 xs/\Ar w B 9 1 nv q.2.2.length (Ba q.2.2) g w':=by
 subst l;exact Mx f b w ts k tv a B names nv q n p m h hl hn r o
theorem GG(s:ByteArray)(w:World)(a:s.size<=maxLen)(b:800<s.size):
  Calls prog 106 #[.string s] w fun e w'=>e=Rq #[Nl,Vi 1,Vi 0]/\Below w.hz w w':=by
 unfold maxLen at a;go_enter func106,ntmps106;go_wp2;go_ret3;exact⟨rfl,Below.refl _ _⟩
theorem Hf(s:ByteArray)(w:World)(j:s.size<=800)(h:(Bb (Ap s) (AD false)).1≠0):
  Calls prog 106 #[.string s] w fun e w'=>e=Rq #[Nl,Vi (Bb (Ap s) (AD false)).1,Vi (Bb (Ap s) (AD false)).2]/\Below w.hz w w':=by
 have i:(((Bb (Ap s) (AD false)).1:Int) !=0)=true:=by rw[bne_iff_ne];omega
 go_enter func106,ntmps106;go_wp2_with fail;apply(GK s _ Yo).mono;rintro e w1 ⟨v,rfl,b,d⟩;have g:=hd d;have a:=hd b;clear d b;go_wp2_with fail;apply(Jd w1 _ s v Yo g.o).mono;rintro e w2 ⟨rfl,c⟩;have f:=hd c;clear c;go_wp2;go_ret3;exact⟨rfl,a.o.trans (f.o.mono a.o.size)⟩
theorem Hx(s:ByteArray)(w:World)(cs:Lc)(c4:s.size<=800)(b6:(Bb (Ap s) (AD false)).1=0)(bd:C2 1000 (Ap s) []=some cs):
  Calls prog 106 #[.string s] w fun e w'=>∃ag xs,e=Rq #[ag,Vi 0,Vi 0]/\Eg w' w.hz ag cs xs/\Below w.hz w w':=by
 have cv:(((Bb (Ap s) (AD false)).1:Int) !=0)=false:=by rw[b6];rfl
 have cu:=BP s;have bz:=hd bd;have a7:Hd (∀t∈Ap s,t.text.length<=4096):=fun t cf=>by have:=Cz s t cf;omega
 have a4:=hd (G9 s);clear bd;go_enter func106,ntmps106;go_wp2_with fail;apply(GK s _ Yo).mono;rintro e w1 ⟨v,rfl,ao,bh⟩;have ak:=hd bh;have aj:=hd ao;clear bh ao;go_wp2_with fail;apply(Jd w1 _ s v Yo ak.o).mono;rintro e w2 ⟨rfl,M⟩;have a1:=hd (aj.o.trans (M.mono aj.o.size));have a5:=hd (LN M ak.o (Qe _));have c5:=a1.o.size;obtain⟨ta,az,rfl⟩:=Ac a5.o;clear M ak aj;generalize Ap s=ts at*;go_wp2
 go_loopg [8,9] 1000 (fun gk ag i wr=>∃(j:Nat)(d:Lc)(xs:List (Lv)),i=Vi (j:Nat)/\j<=ts.length/\d.length<=j/\C2 gk (ts.drop j) d=some cs/\
   Eg wr w.hz ag d xs/\Below w.hz w wr/\wr.ownsRow w.hz 243 3 (.slice ta ts.length az) ts.length (AP ts))
 case atStart=>exact⟨0,[],[],rfl,Yo,Ys,bz.o,Eg.nil _ _,a1.o,a5.o⟩
 case round=>
  obtain⟨j,d,xs,rfl,cy,ct,f,R,ab,S⟩:=hrel;obtain⟨la,V,rfl⟩:=Ac R.owns
  cases I:ts.drop j with
  |nil=>rw[I]at f;cases gk<;>simp[C2]at f
  |cons x cm=>
   obtain⟨aw,bk,c7⟩:=ED I;obtain⟨g,cj,N,cw,ck,_,_⟩:=GV S aw;simp only[QH]at N;obtain⟨rfl,_,rfl⟩:=N
   cases gk with
   |zero=>simp[C2]at f
   |succ gk=>
    rw[I,C2]at f
    by_cases am:x.kind=4
    ·rw[if_pos am]at f;simp only[Qo]at f;have ch:((x.kind:Int) !=4)=false:=by rw[am];rfl
     have G:=hd R;have W:=hd f;clear R f I aw bk S;go_wp2;go_ret3;rw[<-W.o];exact⟨_,xs,rfl,G.o,ab⟩
    ·rw[if_neg am]at f;have ch:((x.kind:Int) !=4)=true:=by rw[bne_iff_ne];omega
     cases u:Dn (x::cm)with
     |none=>rw[u]at f;simp at f
     |some cq=>
      rw[u]at f;simp only at f;rw[<-I,Dn]at u
      cases Q:Bq 1000 (ts.drop j) []with
      |none=>rw[Q]at u;simp at u
      |some r=>
       rw[Q]at u;simp only at u;obtain⟨nb,ao,M,bb,b4⟩:=Dk 1000 _ [] r Q;simp only[List.length_drop,Qt]at M b4;have bg:=ab.size;have bp:=hd (Ps 1000 wr ts j (.slice (some ⟨g,0,none⟩) ts.length az) w.hz wr.hz [] Nl r Q S (Q2 _ _ _ _) (Qe _) Yo Yp a7.o a4.o);have G:=hd R;have W:=hd f;have bx:=hd u;have b3:=hd S;have br:=hd bb;clear R f u S I aw bk Q bb;go_wp2_with fail;apply bp.o.mono;rintro e w3 ⟨a,b,c,nv,T,rfl,ar,cz,c0,aq,aa⟩;obtain⟨D,bn,ca,cl,cc,rfl,rfl,rfl⟩:=aq.shape;obtain⟨na,ay,rfl⟩:=Ac aa.owns;have ad:Ad A4 wr w3:=aa.kept.mono (fun k _ h=>by simp[Ak,Value.ownBlock]at h);have c6:=ad.size;have av:=ad.owns b3.o (fun _ _ h=>h);have J:=hd av;have F:=hd ad;have a2:=hd aq;have bq:=hd aa;have b1:=hd ar;have m:=bx.o;rw[ar]at m
       cases ac:ts.drop T with
       |nil=>rw[ac]at m;simp at m
       |cons y df=>
        rw[ac]at m;simp only at m;obtain⟨bl,bm,c8⟩:=ED ac;obtain⟨cr,cj,N,cx,bo,_,_⟩:=GV av bl;simp only[QH,Qo,Addr.mk.injEq]at N;obtain⟨⟨rfl,_⟩,_,rfl⟩:=N;have a8:=hd bm;clear ad av aq aa ar ac bl bm ck
        by_cases al:y.kind=3
        ·rw[if_pos al]at m;rw[Option.map_eq_some_iff]at m;obtain⟨q,be,rfl⟩:=m;rw[al]at bo;have b0:=hd be;clear be;have H:Hd (w3.ownsRow wr.hz 9 1 (.slice na r.2.2.length ay) r.2.2.length (Ba r.2.2)):=bq.o.owns;have c3:r.2.2.length<=nb:=Yo
         have b7:T=j+nb:=by
          have a9:=congrArg List.length b1.o;rw[br.o]at a9;simp only[List.length_drop]at a9;omega
         have b9:r.2.2.length+(ts.length-(T+1))<=1000:=Yo
         clear b7;go_wp2_with fail;refine(TX 1000 1000 _ ts (T+1) _ (.slice (some ⟨g,0,none⟩) ts.length az) w.hz wr.hz r.2.2 (.slice na r.2.2.length ay) q Yo (by rw[a8.o];exact b0.o) ((J.o.alloc _).alloc _) ((H.o.alloc _).alloc _) Yp Yo b9 a7.o a4.o).mono ?_;rintro e w5 ⟨cp,de,cg,cn,rfl,bf,c1,c2,ap,K⟩;obtain⟨X,Y,rfl⟩:=Ac ap.owns;obtain⟨dc,dd,rfl⟩:=Ac K.owns;have ba:∀o ah,((w3.alloc o).alloc ah).heap[w3.hz+1]?=some ah:=fun o ah=>by
          have:=QL (w3.alloc o) ah;simpa using this
         have an:=ba (.cells #[.string D,Vi bn,.slice ca cl cc] 183) (.cells #[.string D,Vi bn,.slice ca cl cc,Nl,Vi 0] 185);have ce:=K.kept.size;simp only[World.alloc,Array.size_push]at ce;have n:w5.heap[w3.hz+1]?=some (.cells #[.string D,Vi bn,.slice ca cl cc,Nl,Vi 0] 185 (0,0)):=
          (K.kept.block (w3.hz+1) Ys (Ai ((H.o.alloc _).alloc _) Yd an)).trans an
         have dj:w5.cell? ⟨w3.hz+1,3,none⟩=some Nl:=Aa n 3 _ rfl;have dk:w5.cell? ⟨w3.hz+1,4,none⟩=some (Vi 0):=Aa n 4 _ rfl;have dg:w5.cell? ⟨w3.hz+1,0,none⟩=some (.string D):=Aa n 0 _ rfl;have dh:w5.cell? ⟨w3.hz+1,1,none⟩=some (Vi bn):=Aa n 1 _ rfl;have di:w5.cell? ⟨w3.hz+1,2,none⟩=some (.slice ca cl cc):=Aa n 2 _ rfl;have dl:=fun i=>Ae n i;have zs:w3.hz+1<w5.hz:=Ab n;have U:Ad (Ak (.slice na r.2.2.length ay)) w3 w5:=(((Ad.refl _ w3).alloc _).alloc _).trans K.kept;have z:w3.ownsRow w.hz 185 5 (.slice la d.length V) d.length xs.flatten:=F.o.owns G.o.owns (fun _ _ h=>h);have au:w5.ownsRow w.hz 185 5 (.slice la d.length V) d.length xs.flatten:=U.owns z (fun k l=>by
          obtain⟨Z,p⟩:=Ay z k l;exact Ai H.o Yd p)
         have bi:=U.owns J.o (fun k l=>by
          obtain⟨Z,p⟩:=Ay J.o k l;exact Ai H.o Yd p)
         have bc:∀k,(Value.slice la d.length V).ownBlock=some k->¬only (w3.hz+1) k:=fun k l e=>by
          have e:k=w3.hz+1:=e;have:=(z.lt k l).2;omega
         have ae:Cw wr w3:=Cw.of_kept F.o (fun _ _ h=>h);have O:Cw w3 w5:=Cw.of_apart U H.o Yd;have C:∀A B:Value,Ad (only (w3.hz+1)) w5 ((w5.setCell ⟨w3.hz+1,3,none⟩ A).setCell ⟨w3.hz+1,4,none⟩ B):=fun A B=>((Ad.refl _ w5).put 3 A).put 4 B;have P:∀A B:Value,Cw w5 ((w5.setCell ⟨w3.hz+1,3,none⟩ A).setCell ⟨w3.hz+1,4,none⟩ B):=fun A B=>Cw.of_kept (C A B) (fun k l e=>by
          have e:k=w3.hz+1:=e;subst e;obtain⟨Z,p⟩:=l;rw[n]at p;simp at p)
         have bt:=hd (show LK w5 [.string D,Vi bn,.slice ca cl cc,.slice X q.1.length Y,Vi (q.2.2.length:Nat)] ⟨r.1,q.1,q.2.2⟩ from⟨D,bn,ca,cl,cc,_,_,_,_,cn,rfl,a2.o.keep O,ap⟩);have a3:=hd (fun A B:Value=>(C A B).owns au bc);have bu:=hd C;have bw:=hd P;have bv:=hd (ae.trans O);have a6:=hd bi;have b2:=hd bf;have a0:=hd U;have bs:=hd n;have co:=hd au;clear ba an n U z au bi bc ae O C P ap K bf bo
         go_wp2_with (at_builtin;refine Am _ rfl (.tmp 69) (.tmp 71) 145 rfl w.hz 185 infoClause underlying145 rfl Yd _ d.length xs.flatten rfl (a3.o _ _) _ rfl Ys rfl Ti ?_ ?_ ?_)
         ·omega
         ·simp;omega
         intro ci ai L;have E:=hd L;clear L;go_wp2
         go_roundg gk
         case measure=>omega
         case rel=>
          have af:=a3.o (.slice X q.1.length Y) (Vi (q.2.2.length:Nat));have C:=bu.o (.slice X q.1.length Y) (Vi (q.2.2.length:Nat));have P:=bw.o (.slice X q.1.length Y) (Vi (q.2.2.length:Nat));have b8:Cw _ ai:=Cw.of_apart E.o.kept af Yd;have cd:=G.o.keep (bv.o.trans P) af;have bj:=C.owns a6.o (fun k l e=>by
           have e:k=w3.hz+1:=e;subst e;exact Ai a6.o Yd bs.o l)
          refine⟨cg,d++[⟨r.1,q.1,q.2.2⟩],_,rfl,Yo,by simp;omega,by rw[<-b2.o];exact W.o,cd.add (bt.o.keep P) rfl b8 E.o.owns,?_,?_⟩
          ·have c9:=a0.o.size;have da:=C.size;refine ab.trans ((F.o.below bg (fun _ h=>h.elim)).trans ((a0.o.below Yo (fun k h=> ?_)).trans ((C.below Yo (fun k h=> ?_)).trans (E.o.kept.below Yo (fun k h=>(af.lt k h).1)))))
           ·have:=(H.o.lt k h).1;omega
           ·have h:k=w3.hz+1:=h;omega
          ·exact E.o.kept.owns bj (fun k l=>by
            obtain⟨Z,p⟩:=Ay bj k l;exact Ai af Yd p)
        ·rw[if_neg al]at m;simp only[Qo]at m;have db:((y.kind:Int)==3)=false:=by rw[Qu];omega
         subst m
         go_wp2_with (at_builtin;refine Am _ rfl (.tmp 69) (.tmp 71) 145 rfl w.hz 185 infoClause underlying145 rfl Yd _ d.length xs.flatten rfl (((F.o.owns G.o.owns (fun _ _ h=>h)).alloc _).alloc _) _ rfl Ys rfl Ti ?_ ?_ ?_)
         ·omega
         ·simp;omega
         intro ci ai L;have E:=hd L;clear L;go_wp2
         go_roundg gk
         case measure=>omega
         case rel=>
          have z:w3.ownsRow w.hz 185 5 (.slice la d.length V) d.length xs.flatten:=F.o.owns G.o.owns (fun _ _ h=>h);have ax:Ad (Ak (.slice la d.length V)) w3 ai:=(((Ad.refl _ w3).alloc _).alloc _).trans E.o.kept;have ae:Cw wr w3:=Cw.of_kept F.o (fun _ _ h=>h);have O:Cw w3 ai:=Cw.of_apart ax z Yd;have b5:LK w3 [.string D,Vi bn,.slice ca cl cc,Nl,Vi (r.2.2.length:Nat)] ⟨r.1,[],r.2.2⟩:=⟨D,bn,ca,cl,cc,_,_,_,0,[],rfl,a2.o,Fg.nil _ _ _⟩;have cb:=G.o.keep ae z;refine⟨T+1,d++[⟨r.1,[],r.2.2⟩],_,Yg,Yo,by simp;omega,by rw[a8.o];exact W.o,cb.add b5 rfl O E.o.owns,?_,?_⟩
          ·refine ab.trans ((F.o.below bg (fun _ h=>h.elim)).trans (ax.below Yo (fun k h=>(z.lt k h).1)))
          ·exact ax.owns J.o (fun k l=>by
            obtain⟨Z,p⟩:=Ay J.o k l;exact Ai z Yd p)
def BG(c:Dt):Lu:=
 if c.body=[]then(AO 1000 c.head []).1++[46,10]
 else(AO 1000 c.head []).1++[32,58,45,32]++(BU 1000 [] c.body (AO 1000 c.head []).2.1++[46])++[10]
def Dh(c:Dt):Nat:=c.head.length+c.body.flatten.length
theorem J3(c:Dt)(a:GL 1000 c.head)(d:∀l∈c.body,GL 1000 l)(e:∀s∈c.head,s.name.length<=4096)(f:∀s∈c.body.flatten,s.name.length<=4096)(i:Dh c<=900):
  (BG c).length<=4110*Dh c:=by
 unfold Dh at*;have b:=EP 1000 c.head a e [] (by simp only[Qt];omega);have g:=FT 1000 c.body d f [] (AO 1000 c.head []).2.1 Ys (by simp only[Qt]at b;omega);have h:=Nz 1000 c.head a;unfold BG;split
 ·simp only[Qg,Qf,Qt];omega
 ·simp only[Qg,Qf,Qt];omega
theorem Eg.cell{lo g:Nat}{xs:List (Lv)}(h:Eg w lo (.slice (some ⟨g,0,none⟩) cs.length cap) cs xs){x:Lv}(a:xs[i]?=some x)(j:Nat)(e:j<5)(v:Value)(b:x[j]?=some v):
  w.cell? ⟨g,i*5+j,none⟩=some v:=by
 refine Ag h.owns (i*5+j) v ?_;have five:=h.five;clear h
 induction xs generalizing i with
 |nil=>simp at a
 |cons y k c=>
  have f:=five y Ys
  cases i with
  |zero=>
   simp at a;subst a;rw[Q4,Qc Yo];simpa using b
  |succ i=>
   rw[Q4,Qd Yo];rw[<-c (i:=i) (by simpa using a) (fun d hz=>five d (by simp[hz]))]
   congr 1
   omega
theorem UM(f:Dt->Nat)(cs:Lc)(k:Nat)(c:Dt)(h:cs[k]?=some c):((cs.take (k+1)).map f).sum=((cs.take k).map f).sum+f c:=by
 have a:k<cs.length:=(Qa.1 h).1;rw[List.take_succ_eq_append_getElem a,(Qa.1 h).2];simp
theorem J4(f:Dt->Nat)(cs:Lc)(k:Nat):((cs.take k).map f).sum<=(cs.map f).sum:=by
 induction cs generalizing k with
 |nil=>simp
 |cons c cs a=>
  cases k with
  |zero=>simp
  |succ k=>
   have:=a k;simp only[Q5,Qx,List.sum_cons];omega
theorem Tz(cs:Lc)(k:Nat)(c:Dt)(h:cs[k]?=some c):(cs.take (k+1)).flatMap BG=(cs.take k).flatMap BG++BG c:=by
 have a:k<cs.length:=(Qa.1 h).1;rw[List.take_succ_eq_append_getElem a,(Qa.1 h).2];simp
theorem NO(s:ByteArray)(w:World)(cs:Lc)(ah:s.size<=800)(K:(Bb (Ap s) (AD false)).1=0)(P:C2 1000 (Ap s) []=some cs)
  (bb:(cs.map Dh).sum<=900) (a2:cs.length<=900) (O:∀c∈cs,(∀s∈c.head,s.name.length<=4096)/\∀s∈c.body.flatten,s.name.length<=4096):
  Calls prog 84 #[.string s] w fun e w'=>e=Rq #[.string ⟨(cs.flatMap BG).toArray⟩,Vi 0,Vi 0]/\Below w.hz w w':=by
 have Z:=hd (F0 1000);go_enter func84,ntmps84;go_wp2_with fail;apply(Hx s _ cs ah K P).mono;rintro e w1 ⟨bh,xs,rfl,z,y⟩;obtain⟨la,be,rfl⟩:=Ac z.owns;have E:=hd z;have S:=hd y;have Y:=hd O;have aj:=y.size;clear z y O P K;go_wp2
 go_loopw [8,9] (fun aq i wr=>∃(k:Nat),k<=cs.length/\i=Vi k/\aq= .string ⟨((cs.take k).flatMap BG).toArray⟩/\((cs.take k).flatMap BG).length<=4110*((cs.take k).map Dh).sum/\Ad A4 w1 wr) (fun _ i _=>cs.length-(intOf i).toNat)
 case atStart=>exact⟨0,Qm _,rfl,Ys,Ys,Ad.refl _ _⟩
 case round=>
  obtain⟨k,a5,rfl,rfl,ae,d⟩:=hrel;have a9:=J4 Dh cs k
  by_cases af:k<cs.length
  ·obtain⟨c,f⟩:∃c,cs[k]?=some c:=⟨_,Qb af⟩;have ag:c∈cs:=Qh f;have ai:=UM Dh cs k c f;have ba:=J4 Dh cs (k+1);have A:=Tz cs k c f;have N:Cw w1 wr:=Cw.of_kept d (fun _ _ h=>h);have b:=E.o.keep N (d.owns E.o.owns (fun _ _ h=>h));obtain⟨g,bf,bg,L,a1,ad,a3⟩:=An b.owns Yo;simp only[QH]at L;obtain⟨rfl,_,rfl⟩:=L;obtain⟨x,m,aa⟩:=b.all k c f;obtain⟨an,bn,ca,cl,cc,az,lo,hi,am,aw,rfl,t,l⟩:=aa;obtain⟨G,H,rfl⟩:=Ac l.owns;have ar:wr.cell? ⟨g,k*5,none⟩=some (.string an):=b.cell m 0 Yo _ rfl;have au:wr.cell? ⟨g,k*5+1,none⟩=some (Vi bn):=b.cell m 1 Yo _ rfl;have av:wr.cell? ⟨g,k*5+2,none⟩=some (.slice ca cl cc):=b.cell m 2 Yo _ rfl;have Q:wr.cell? ⟨g,k*5+3,none⟩=some (.slice G c.body.length H):=b.cell m 3 Yo _ rfl;have I:Dh c<=900:=Yo
   have ac:=I;unfold Dh at ac;obtain⟨q,r⟩:=Y.o c ag;have ak:=J3 c (t.isT 1000) l.isT q r I;have al:=EP 1000 c.head (t.isT 1000) q [] (by simp only[Qt];omega);simp only[Qt]at al;have bd:=FT 1000 c.body l.isT r [] (AO 1000 c.head []).2.1 Ys Yo;have a6:(AO 1000 c.head []).1.length<=5000000:=Yo
   have a7:(BU 1000 [] c.body (AO 1000 c.head []).2.1).length<=5000000:=Yo
   have a8:((cs.take k).flatMap BG).length<=5000000:=Yo
   have X:=hd r;have R:=hd (Z.o wr lo hi _ _ _ c.head 0 [] Nl t (Q2 _ _ _ _) Yo q (by simp only[Qt];omega));have V:=hd l;have n:=hd d;have F:=hd A;have D:Hd (((cs.take (k+1)).flatMap BG).length<=4110*((cs.take (k+1)).map Dh).sum):=by
    show _<=_;rw[A,Qg,ai];omega
   clear ae d N b t l A q r m ad ak f;generalize J:(cs.take k).flatMap BG=dt at*;have ay:=hd J;clear J;go_wp2_with fail;apply R.o.mono;rintro e w2 ⟨bi,rfl,p⟩;obtain⟨ao,ap,rfl⟩:=Ac p.owns;have j:Ad A4 wr w2:=p.kept.mono (fun k _ h=>by simp[Ak,Value.ownBlock]at h);have bj:w2.cell? ⟨g,k*5+3,none⟩=some (.slice G c.body.length H):=j.cell Q (fun h=>h);have C:=hd j;have B:=hd p;have W:=hd (V.o.keep (Cw.of_kept j (fun _ _ h=>h)));have bc:=j.size;clear p j ar au av Q
   by_cases a:c.body=[]
   ·have ab:(((c.body.length:Nat):Int)==0)=true:=by rw[a];rfl
    have u:Hd ((⟨dt.toArray⟩:ByteArray)++⟨(AO 1000 c.head []).1.toArray⟩++⟨[46,10].toArray⟩=⟨((cs.take (k+1)).flatMap BG).toArray⟩):=by
     show _=_;rw[Az,Az,F.o,BG,if_pos a];simp
    have ax:=hd a;clear a;go_wp2
    go_roundw
    case rel=>exact⟨k+1,Yo,Yg,by rw[<-u.o],D.o,n.o.trans C.o⟩
    case measure=>simp[intOf];omega
   ·have ab:(((c.body.length:Nat):Int)==0)=false:=by
     rw[Qu];intro h;apply a;apply List.eq_nil_of_length_eq_zero;omega
    have u:Hd ((⟨dt.toArray⟩:ByteArray)++⟨(AO 1000 c.head []).1.toArray⟩++⟨[32,58,45,32].toArray⟩++⟨(BU 1000 [] c.body (AO 1000 c.head []).2.1++[46]).toArray⟩++⟨[10].toArray⟩=⟨((cs.take (k+1)).flatMap BG).toArray⟩):=by
     show _=_;rw[Az,Az,Az,Az,F.o,BG,if_neg a];simp
    clear a;go_wp2_with fail;apply(LO 1000 w2 _ 0 (AO 1000 c.head []).2.1 (.slice ao (AO 1000 c.head []).2.1.length ap) am aw c.body W.o B.o.owns Yo X.o Yo).mono;rintro e w3 ⟨rfl,M⟩;have U:Hd (Ad A4 wr w3):=C.o.then M (fun i hi h=>by
     rcases B.o.where_ with v|⟨a0,v,a4⟩
     ·have:=v.symm.trans h;simp[Value.ownBlock]at this
     ·have:=v.symm.trans h;simp at this;omega)
    clear M;go_wp2
    go_roundw
    case rel=>exact⟨k+1,Yo,Yg,by rw[<-u.o],D.o,n.o.trans U.o⟩
    case measure=>simp[intOf];omega
  ·have T:Hd ((cs.take k).flatMap BG=cs.flatMap BG):=by show _=_;rw[List.take_of_length_le Yo]
   have n:=hd d;clear d;go_wp2;go_ret3;rw[T.o];exact⟨rfl,S.o.trans (n.o.below aj (fun _ h=>h.elim))⟩
def Jo(ts:List BZ)(L:Bj):Prop:=(Bb ts L).1=0
def fin:List BZ->Prop
 |[]=>False
 |t::ts=>t.kind=4\/fin ts
theorem D7{t:BZ}{ts:List BZ}(h:Jo (t::ts) L)(hn:¬(t.kind=4/\(L.want=5\/L.want=0))):(Bk L t.kind t.text.length).err=0/\Jo ts (Bk L t.kind t.text.length):=by
 unfold Jo at h;rw[Bb,if_neg hn]at h
 by_cases a:(Bk L t.kind t.text.length).err=0
 ·rw[if_neg (by simp[a])]at h;exact⟨a,h⟩
 ·rw[if_pos a]at h;exact absurd h a
structure XD(rest:List BZ)(L L':Bj)(stk:List Nat):Prop where
 ok:Jo rest L'
 fin:fin rest
 want:L'.want=4\/(L'.want=3/\∀y ys,rest=y::ys->y.kind≠40)
 stk:L'.stk=stk
 err:L'.err=0
 query:L'.query=L.query
 body:L'.body=(if L.want=0 then false else L.body)
theorem Fb{kd a:Nat}(b:L.err=0)(h:(AH L kd a).err=0):kd=1\/(kd=2/\L.want=2):=by
 unfold AH at h;split at h
 ·simp at h
 ·omega
theorem Ip{kd a:Nat}(h:(AH L kd a).err=0)(b:kd=1\/(kd=2/\L.want=2)):
  (AH L kd a).want=(if kd=1 then 3 else 4)/\(AH L kd a).stk=(AS L).stk/\(AH L kd a).query=L.query/\(AH L kd a).body=(if L.want=0 then false else L.body):=by
 have hn:¬(kd≠1/\(kd≠2\/L.want≠2)):=Yo
 unfold AH;rw[if_neg hn];refine⟨rfl,rfl,?_,?_⟩
 ·show(AS L).query=_;unfold AS;split
  ·rfl
  ·split
   ·rfl
   ·split<;>rfl
 ·show(AS L).body=_;unfold AS;split
  ·rfl
  ·split
   ·rfl
   ·split<;>rfl
theorem Wj{y:BZ}{c:List BZ}{a:Bj}{r:List Nat}(h:XD (y::c) L a (n::r)):
  (y.kind=44/\Jo c (Al a 44)/\fin c/\(Al a 44)={a with want:=2})\/(y.kind=41/\Jo c (Al a 41)/\fin c/\(Al a 41)={a with stk:=r,want:=4}):=by
 have b:¬a.want<=2/\a.want≠5/\a.want≠0:=by rcases h.want with b|⟨b,_⟩<;>omega
 have l:¬(y.kind=4/\(a.want=5\/a.want=0)):=Yo
 obtain⟨e,d⟩:=D7 h.ok l;unfold Bk at e d;rw[if_neg b.1,if_neg b.2.1]at e d;have i:=h.stk;have m:¬(y.kind=40/\a.want=3):=by
  rintro⟨k,q⟩;rcases h.want with b|⟨_,b⟩
  ·omega
  ·exact b y c rfl k
 have j:y.kind≠4->fin c:=fun p=>by
  rcases h.fin with h|h
  ·exact absurd h p
  ·exact h
 by_cases g:y.kind=44
 ·left;rw[g]at d;exact⟨g,d,j Yo,by simp[Al,i]⟩
 ·by_cases f:y.kind=41
  ·right;rw[f]at d;exact⟨f,d,j Yo,by simp[Al,i]⟩
  ·exfalso;simp[Al,i,g,f]at e;split at e
   ·rename_i o;exact m o
   ·simp at e
def Va(n:Nat):Prop:=∀(ts:List BZ)(L:Bj)(f:Nat)(names:At),ts.length<=n->ts.length<=f->Jo ts L->fin ts->L.want<=2->L.err=0->(L.want=2->L.stk≠[])->(∀t r,ts=t::r->t.kind≠4)->
 ∃r L',Bq f ts names=some r/\XD r.2.1 L L' (AS L).stk/\r.2.1.length<ts.length
theorem W6(n f:Nat)(z:Va n):∀(g:Nat)(x:BZ)(xs:List BZ)(L:Bj)(m:Nat)(r:List Nat)(names:At)(c:Ll),xs.length<=n->xs.length<=f->xs.length+1<=g->x.kind≠41->
  Jo xs L->fin xs->L.want=2->L.stk=m::r->L.err=0->
  ∃q A,CE (Bq f) g (x::xs) names c=some q/\XD q.2.1 L A r/\q.2.1.length<xs.length:=by
 intro g
 induction g with
 |zero=>intro x xs L m r names c k C D;omega
 |succ g K=>
  intro x xs L m r names c k C D E o G u s l;have J:∀t r,xs=t::r->t.kind≠4:=by
   rintro t r rfl M;have:=(D7 o Yo).1;unfold Bk at this;rw[if_pos Yo]at this;rcases Fb l this with h|h<;>omega
  obtain⟨d,j,I,ha,hl⟩:=z xs L f names k Yo o G Yo l (by rw[s];simp) J;have H:(AS L).stk=(m+1)::r:=by simp[AS,u,s]
  rw[H]at ha;rw[CE,if_neg E,I];simp only
  cases p:d.2.1 with
  |nil=>rw[p]at ha;exact ha.fin.elim
  |cons y w=>
   rw[p]at ha hl;simp only[Qf]at hl;rcases Wj ha with⟨v,i,e,a⟩|⟨v,i,e,a⟩
   ·obtain⟨q,B,F,b,N⟩:=K y w (Al j 44) (m+1) r d.2.2 (c++[d.1]) Yo Yo Yo Yo i e (by rw[a]) (by rw[a];exact ha.stk) (by rw[a];exact ha.err);refine⟨q,B,F,⟨b.ok,b.fin,b.want,b.stk,b.err,?_,?_⟩,Yo⟩
    ·rw[b.query,a];exact ha.query
    ·rw[b.body,a];have:=ha.body;simp[u]at this⊢;exact this
   ·refine⟨(c++[d.1],w,d.2.2),Al j 41,?_,⟨i,e,Or.inl (by rw[a]),by rw[a],by rw[a];exact ha.err,by rw[a];exact ha.query,by rw[a];exact ha.body⟩,by simp;omega⟩
    cases g with
    |zero=>omega
    |succ g=>rw[CE,if_pos v]
theorem Tc:∀n,Va n:=by
 intro n
 induction n with
 |zero=>
  intro ts L f names e l x g
  cases ts with
  |nil=>exact g.elim
  |cons t ts=>simp at e
 |succ n A=>
  intro ts L f names e l x g J E M I
  cases ts with
  |nil=>exact g.elim
  |cons t ts=>
   have C:=I t ts rfl;simp only[Qf]at e l
   cases f with
   |zero=>omega
   |succ f=>
    obtain⟨b,d⟩:=D7 x Yo;unfold Bk at b d;rw[if_pos J]at b d;have G:=Fb E b;obtain⟨k,p,r,s⟩:=Ip b G;have i:fin ts:=by
     rcases g with h|h
     ·exact absurd h C
     ·exact h
    by_cases o:t.kind=2
    ·rw[Bq,if_pos o];exact⟨_,AH L t.kind t.text.length,rfl,⟨d,i,Or.inl (by rw[k,o];rfl),p,b,r,s⟩,Ys⟩
    ·have H:t.kind=1:=Yo
     rw[Bq,if_neg o]
     cases ts with
     |nil=>exact i.elim
     |cons u v=>
      rw[FN];simp only[Qf]at e l;rw[if_pos H]at k
      by_cases j:u.kind=40
      ·rw[if_neg (by simp[j])];obtain⟨w,m⟩:=D7 d Yo;unfold Bk at w m;rw[if_neg Yo,if_neg Yo,j]at w m;have c:Al (AH L t.kind t.text.length) 40={AH L t.kind t.text.length with stk:=0::(AH L t.kind t.text.length).stk,want:=2}:=by
        simp[Al,k]
       have F:fin v:=by
        rcases i with h|h
        ·omega
        ·exact h
       obtain⟨q,B,D,a,K⟩:=W6 n f A (v.length+1) u v _ 0 (AS L).stk names [] Yo Yo Yo Yo m F (by rw[c]) (by rw[c,<-p]) (by rw[c];exact b);rw[D];refine⟨_,B,rfl,⟨a.ok,a.fin,a.want,a.stk,a.err,?_,?_⟩,by simp;omega⟩
       ·rw[a.query,c];exact r
       ·rw[a.body,c];simpa using s
      ·rw[if_pos j];refine⟨_,AH L t.kind t.text.length,rfl,⟨d,i,Or.inr ⟨k,?_⟩,p,b,r,s⟩,Ys⟩;intro y N z;simp at z;rw[<-z.1];exact j
theorem KF{y:BZ}{c:List BZ}{a:Bj}(h:XD (y::c) L a []):
  (y.kind=44/\a.body=true/\Jo c (Al a 44)/\fin c/\(Al a 44)={a with want:=1})\/
  (y.kind=3/\a.body=false/\Jo c (Al a 3)/\fin c/\(Al a 3)={a with body:=true,goals:=0,want:=1})\/
  (y.kind=46/\Jo c (Al a 46)/\fin c/\(Al a 46)={a with want:=if a.query then 5 else 0}):=by
 have e:¬a.want<=2/\a.want≠5/\a.want≠0:=by rcases h.want with e|⟨e,_⟩<;>omega
 have m:¬(y.kind=4/\(a.want=5\/a.want=0)):=Yo
 obtain⟨b,d⟩:=D7 h.ok m;unfold Bk at b d;rw[if_neg e.1,if_neg e.2.1]at b d;have f:=h.stk;have n:¬(y.kind=40/\a.want=3):=by
  rintro⟨l,r⟩;rcases h.want with e|⟨_,e⟩
  ·omega
  ·exact e y c rfl l
 have k:y.kind≠4->fin c:=fun q=>by
  rcases h.fin with h|h
  ·exact absurd h q
  ·exact h
 by_cases i:y.kind=44
 ·left;rw[i]at d b
  cases hb:a.body
  ·simp[Al,f,hb]at b
  ·exact⟨i,rfl,d,k Yo,by simp[Al,f,hb]⟩
 ·by_cases g:y.kind=3
  ·right;left;rw[g]at d b
   cases hb:a.body
   ·exact⟨g,rfl,d,k Yo,by simp[Al,f,hb]⟩
   ·simp[Al,f,hb]at b
  ·by_cases j:y.kind=46
   ·right;right;rw[j]at d b;refine⟨j,d,k Yo,?_⟩
    cases p:a.query<;>simp[Al,f,p]
   ·exfalso;simp[Al,f,i,g,j]at b;split at b
    ·rename_i o;exact n o
    ·simp at b
theorem S8{ts:List BZ}(b:Jo ts L)(d:L.want=1)(a:L.err=0):∀t r,ts=t::r->t.kind≠4:=by
 rintro t r rfl c;have:=(D7 b Yo).1;unfold Bk at this;rw[if_pos Yo]at this;rcases Fb a this with h|h<;>omega
theorem OW:∀(g:Nat)(ts:List BZ)(L:Bj)(names:At)(c:Ll),ts.length<=g->ts.length<=1000->Jo ts L->fin ts->L.want=1->L.stk=[]->L.body=true->L.err=0->
  ∃q b,BI 1000 g ts names c=some q/\Jo q.2.1 b/\fin q.2.1/\b.want=(if L.query then 5 else 0)/\b.stk=[]/\b.err=0/\b.query=L.query/\q.2.1.length<ts.length:=by
 intro g
 induction g with
 |zero=>
  intro ts L names c l n i f
  cases ts with
  |nil=>exact f.elim
  |cons t ts=>simp at l
 |succ g H=>
  intro ts L names c l n i f v G hb s;obtain⟨k,d,E,ha,hl⟩:=Tc ts.length ts L 1000 names (Qe _) n i f Yo s Yo (S8 i v s);have D:(AS L).stk=[]:=by simp[AS,v,G]
  rw[D]at ha;have p:d.body=true:=by rw[ha.body,if_neg Yo];exact hb
  rw[BI,E];simp only
  cases u:k.2.1 with
  |nil=>rw[u]at ha;exact ha.fin.elim
  |cons y I=>
   rw[u]at ha hl;simp only[Qf]at hl;simp only;rcases KF ha with⟨j,_,h,e,a⟩|⟨j,r,_⟩|⟨j,h,e,a⟩
   ·rw[if_neg Yo];obtain⟨q,w,z,A,B,o,C,x,m,J⟩:=H I (Al d 44) k.2.2 (c++[k.1]) Yo Yo h e (by rw[a]) (by rw[a];exact ha.stk) (by rw[a];exact p) (by rw[a];exact ha.err);have F:(Al d 44).query=L.query:=by rw[a];exact ha.query
    rw[F]at o m;exact⟨q,w,z,A,B,o,C,x,m,Yo⟩
   ·rw[p]at r;cases r
   ·rw[if_pos j];exact⟨_,_,rfl,h,e,by rw[a,ha.query],by rw[a];exact ha.stk,by rw[a];exact ha.err,by rw[a];exact ha.query,by simp;omega⟩
theorem Uv(ts:List BZ)(L:Bj)(u:ts.length<=1000)(F:Jo ts L)(C:fin ts)(n:L.want=0)(H:L.stk=[])(B:L.err=0)(l:L.query=false)(E:∀t r,ts=t::r->t.kind≠4):
  ∃c b,Dn ts=some c/\Jo c.2 b/\fin c.2/\b.want=0/\b.stk=[]/\b.err=0/\b.query=false/\c.2.length<ts.length:=by
 obtain⟨o,d,G,ha,hl⟩:=Tc ts.length ts L 1000 [] (Qe _) u F C Yo B Yo E;have D:(AS L).stk=[]:=by simp[AS,n,H]
 rw[D]at ha;have A:d.body=false:=by rw[ha.body,if_pos n]
 rw[Dn,G];simp only
 cases m:o.2.1 with
 |nil=>rw[m]at ha;exact ha.fin.elim
 |cons y I=>
  rw[m]at ha hl;simp only[Qf]at hl;simp only;rcases KF ha with⟨h,k,_⟩|⟨h,_,g,f,a⟩|⟨h,g,f,a⟩
  ·rw[A]at k;cases k
  ·rw[if_pos h];obtain⟨q,p,v,w,x,j,z,s,i,J⟩:=OW 1000 I (Al d 3) o.2.2 [] Yo Yo g f (by rw[a]) (by rw[a];exact ha.stk) (by rw[a]) (by rw[a];exact ha.err);have e:(Al d 3).query=false:=by rw[a];exact ha.query.trans l
   rw[e]at j i;rw[v];exact⟨_,p,rfl,w,x,by simpa using j,z,s,i,by simp;omega⟩
  ·rw[if_neg Yo];have e:d.query=false:=ha.query.trans l;exact⟨_,_,rfl,g,f,by rw[a,e];rfl,by rw[a];exact ha.stk,by rw[a];exact ha.err,by rw[a];exact e,by simp;omega⟩
theorem W8:∀(g:Nat)(ts:List BZ)(L:Bj)(b:Lc),ts.length<=g->ts.length<=1000->Jo ts L->fin ts->L.want=0->L.stk=[]->L.err=0->L.query=false->∃cs,C2 g ts b=some cs:=by
 intro g
 induction g with
 |zero=>
  intro ts L b d f i a
  cases ts with
  |nil=>exact a.elim
  |cons t ts=>simp at d
 |succ g x=>
  intro ts L b d f i a w v r u
  cases ts with
  |nil=>exact a.elim
  |cons t ts=>
   rw[C2]
   by_cases h:t.kind=4
   ·rw[if_pos h];exact⟨_,rfl⟩
   ·rw[if_neg h];obtain⟨c,j,s,m,n,o,p,q,k,l⟩:=Uv (t::ts) L f i a w v r u (fun z y e=>by simp at e;rw[<-e.1];exact h);rw[s];simp only;simp only[Qf]at d f l;exact x c.2 j _ Yo Yo m n o p q k
theorem Jc(l:List BZ)(p:Nat):fin (l++[⟨4,[],p⟩]):=by
 induction l with
 |nil=>exact Or.inl rfl
 |cons t l a=>exact Or.inr a
theorem NH(ts:List BZ)(c:Dt×List BZ)(m:∀t∈ts,t.text.length<=M)(h:Dn ts=some c):
  Dh c.1+c.2.length<=ts.length/\1<=Dh c.1+0*M/\(∀s∈c.1.head,s.name.length<=M)/\(∀s∈c.1.body.flatten,s.name.length<=M)/\∀t∈c.2,t.text.length<=M:=by
 rw[Dn]at h
 cases a:Bq 1000 ts []with
 |none=>rw[a]at h;simp at h
 |some r=>
  rw[a]at h;simp only at h;obtain⟨e,f,b⟩:=KL 1000 ts [] r m a;have v:1<=r.1.length:=by
   cases i:ts with
   |nil=>rw[i]at a;simp[Bq]at a
   |cons t o=>
    rw[i,Bq]at a;split at a
    ·simp at a;rw[<-a];simp
    ·cases o with
     |nil=>simp[FN]at a
     |cons u w=>
      rw[FN]at a;split at a
      ·simp at a;rw[<-a];simp
      ·rw[Option.map_eq_some_iff]at a;obtain⟨q,_,rfl⟩:=a;simp
  cases g:r.2.1 with
  |nil=>rw[g]at h;simp at h
  |cons y p=>
   rw[g]at h e b;simp only[Qf]at h e;split at h
   ·rw[Option.map_eq_some_iff]at h;obtain⟨q,n,rfl⟩:=h;obtain⟨j,k,l⟩:=FZ 1000 p r.2.2 [] q (fun t d=>b t (by simp[d])) Ys n;simp only[List.flatten_nil,Qt]at j;refine⟨?_,?_,f,k,l⟩
    ·unfold Dh;simp only;omega
    ·unfold Dh;simp only;omega
   ·simp at h;subst h;refine⟨?_,?_,f,Ys,fun t d=>b t (by simp[d])⟩
    ·unfold Dh;simp;omega
    ·unfold Dh;simp;omega
theorem L1:∀(g:Nat)(ts:List BZ)(a cs:Lc),(∀t∈ts,t.text.length<=M)->(∀c∈a,(∀s∈c.head,s.name.length<=M)/\∀s∈c.body.flatten,s.name.length<=M)->C2 g ts a=some cs->
  (cs.map Dh).sum<=(a.map Dh).sum+ts.length/\cs.length+(a.map Dh).sum<=a.length+(cs.map Dh).sum/\∀c∈cs,(∀s∈c.head,s.name.length<=M)/\∀s∈c.body.flatten,s.name.length<=M:=by
 intro g
 induction g with
 |zero=>intro ts a cs _ _ h;simp[C2]at h
 |succ g p=>
  intro ts a cs n b h
  cases ts with
  |nil=>simp[C2]at h
  |cons t ts=>
   rw[C2]at h;split at h
   ·simp at h;subst h;exact⟨Yo,Yo,b⟩
   ·split at h
    ·simp at h
    ·rename_i c o;obtain⟨e,q,f,i,j⟩:=NH (t::ts) c n o;obtain⟨k,l,m⟩:=p c.2 (a++[c.1]) cs j (fun d hd=>by
      simp at hd;rcases hd with hd|rfl
      ·exact b d hd
      ·exact⟨f,i⟩) h
     simp only[Qr,Qx,List.map_nil,List.sum_append,List.sum_cons,List.sum_nil,Qg,Qf,Qt]at k l;simp only[Qf]at e⊢;exact⟨Yo,Yo,m⟩
def BM(s:ByteArray):Lu×Nat×Nat:=
 if 800<s.size then([],1,0)
 else if(Bb (Ap s) (AD false)).1≠0 then([],(Bb (Ap s) (AD false)).1,(Bb (Ap s) (AD false)).2)
 else match C2 1000 (Ap s) []with
  |none=>([],0,0)
  |some cs=>(cs.flatMap BG,0,0)
theorem OY(s:ByteArray)(c:s.size<=120)(h:(Bb (Ap s) (AD true)).1=0):∃q,BI 1000 1000 (Ap s) [] []=some q:=by
 have hl:=BP s;obtain⟨q,b,a,_⟩:=OW 1000 (Ap s) (AD true) [] [] Yo Yo h (Jc _ _) rfl rfl rfl rfl;exact⟨q,a⟩
theorem Mi(s:ByteArray)(a:s.size<=800)(h:(Bb (Ap s) (AD false)).1=0):∃cs,C2 1000 (Ap s) []=some cs:=by
 have hl:=BP s;exact W8 1000 (Ap s) (AD false) [] Yo Yo h (Jc _ _) rfl rfl rfl rfl
theorem Se(s:ByteArray)(w:World)(a:s.size<=maxLen):
  Calls prog 86 #[.string s] w fun e w'=>e=Rq #[.string ⟨(B8 s).1.toArray⟩,Vi (B8 s).2.1,Vi (B8 s).2.2]/\Below w.hz w w':=
 Ul s w a (OY s)
theorem OA(s:ByteArray)(w:World)(h:s.size<=maxLen):
  Calls prog 84 #[.string s] w fun e w'=>e=Rq #[.string ⟨(BM s).1.toArray⟩,Vi (BM s).2.1,Vi (BM s).2.2]/\Below w.hz w w':=by
 by_cases b:800<s.size
 ·have a:BM s=([],1,0):=by rw[BM,if_pos b]
  rw[a];clear a;go_enter func84,ntmps84;go_wp2_with fail;apply(GG s _ h b).mono;rintro e w1 ⟨rfl,hb⟩;have c:=hd hb;clear hb;go_wp2;go_ret3;exact⟨rfl,c.o⟩
 ·by_cases d:(Bb (Ap s) (AD false)).1≠0
  ·have a:BM s=([],(Bb (Ap s) (AD false)).1,(Bb (Ap s) (AD false)).2):=by rw[BM,if_neg b,if_pos d]
   rw[a];clear a;have m:(((Bb (Ap s) (AD false)).1:Int) !=0)=true:=by rw[bne_iff_ne];omega
   go_enter func84,ntmps84;go_wp2_with fail;apply(Hf s _ Yo d).mono;rintro e w1 ⟨rfl,hb⟩;have c:=hd hb;clear hb;go_wp2;go_ret3;exact⟨rfl,c.o⟩
  ·have g:(Bb (Ap s) (AD false)).1=0:=Yo
   obtain⟨cs,f⟩:=Mi s Yo g;have a:BM s=(cs.flatMap BG,0,0):=by rw[BM,if_neg b,if_neg d,f]
   rw[a];have hl:=BP s;obtain⟨j,k,l⟩:=L1 (M:=4096) 1000 (Ap s) [] cs (fun t i=>by have:=Cz s t i;omega) Ys f;simp only[List.map_nil,List.sum_nil,Qt]at j k;exact NO s w cs Yo g f Yo Yo l
def Bh(k:Nat):Nat:=if k=1 then 1 else if k=2 then 2 else if k=40 then 3 else if k=41 then 4 else if k=44 then 5 else if k=46 then 6 else if k=3 then 7 else 8
def Fc(k:Nat):Prop:=k=1\/k=2\/k=40\/k=41\/k=44\/k=46\/k=3\/k=5
theorem Vv(c:UInt8)(h:EE c EZ=true):c=40\/c=41\/c=44\/c=46:=by
 have:=Dw (p:=fun c=> !inB c EZ||(c==40||c==41||c==44||c==46)) (by decide+kernel) c;simpa[h,or_assoc]using this
theorem Re(c:UInt8)(h:EE c EZ=false):¬c=40/\¬c=41/\¬c=44/\¬c=46:=by
 have:=Dw (p:=fun c=>EE c EZ|| !(c==40||c==41||c==44||c==46)) (by decide+kernel) c;simpa[h,not_or,and_assoc]using this
theorem LY(c:UInt8)(r:Lu):
  (A5 c r=(1,AY r)/\Ce c (r.head?.getD 0)=1/\EE c EI=true)\/(A5 c r=(2,AY r)/\Ce c (r.head?.getD 0)=2/\EE c EI=true)\/
  (A5 c r=(40,0)/\Ce c (r.head?.getD 0)=3)\/(A5 c r=(41,0)/\Ce c (r.head?.getD 0)=4)\/(A5 c r=(44,0)/\Ce c (r.head?.getD 0)=5)\/(A5 c r=(46,0)/\Ce c (r.head?.getD 0)=6)\/
  (A5 c r=(3,1)/\Ce c (r.head?.getD 0)=7)\/(A5 c r=(5,0)/\Ce c (r.head?.getD 0)=8):=by
 unfold A5 Ce
 cases k:EE c CY
 ·cases l:EE c DE
  ·cases j:EE c EZ
   ·obtain⟨b,f,g,i⟩:=Re c j;have hd:(c=58/\r.head?=some 45)↔(c=58/\r.head?.getD 0=45):=by
     cases r with
     |nil=>simp
     |cons d r=>simp
    by_cases h:c=58/\r.head?=some 45
    ·have a:=hd.1 h;simp only[Bool.false_eq_true,if_false,if_neg b,if_neg f,if_neg g,if_neg i,if_pos h,if_pos a];simp
    ·have a:¬(c=58/\r.head?.getD 0=45):=fun e=>h (hd.2 e);simp only[Bool.false_eq_true,if_false,if_neg b,if_neg f,if_neg g,if_neg i,if_neg h,if_neg a];simp
   ·rcases Vv c j with rfl|rfl|rfl|rfl<;>simp
  ·simp[HB l]
 ·simp[He k]
theorem JL(c:UInt8)(r:Lu):Bh (A5 c r).1=Ce c (r.head?.getD 0)/\Fc (A5 c r).1:=by
 rcases LY c r with⟨a,b,_⟩|⟨a,b,_⟩|⟨a,b⟩|⟨a,b⟩|⟨a,b⟩|⟨a,b⟩|⟨a,b⟩|⟨a,b⟩<;>rw[a,b]<;>exact⟨rfl,by unfold Fc;simp⟩
theorem Vn(s:ByteArray)(p:Nat)(c:UInt8)(r:Lu)(hd:s.data.toList.drop p=c::r):I1 s p (Ce c (r.head?.getD 0))=p+((A5 c r).2+1):=by
 rcases LY c r with⟨a,b,d⟩|⟨a,b,d⟩|⟨a,b⟩|⟨a,b⟩|⟨a,b⟩|⟨a,b⟩|⟨a,b⟩|⟨a,b⟩<;>rw[a,b]<;>simp[I1,hd]
 ·rw[Er c r d]
 ·rw[Er c r d]
theorem J5(s:ByteArray)(p:Nat):CN s p=(s.data.toList.drop p).head?.getD 0:=by
 unfold CN;rw[List.head?_drop]
theorem PN:∀(l:Lu)(p:Nat),C4 l p=C4 (l.drop (B6 l)) (p+B6 l):=by
 intro l
 induction l with
 |nil=>intro p;rfl
 |cons c r a=>
  intro p;unfold B6
  cases h:EY c
  ·simp
  ·rw[Lr c r p h,a (p+1)];simp only[if_pos,List.drop_succ_cons]
   congr 1
   omega
theorem Rm(l:Lu)(c:UInt8)(r:Lu)(h:l.drop (B6 l)=c::r):EY c=false:=by
 induction l with
 |nil=>simp[B6]at h
 |cons d l a=>
  unfold B6 at h
  cases hb:EY d
  ·rw[hb]at h;simp at h;rw[<-h.1];exact hb
  ·rw[hb]at h;simp only[if_pos,List.drop_succ_cons]at h;exact a h
theorem UG(s:ByteArray)(p k:Nat):(s.extract p (p+k)).data.toList=(s.data.toList.drop p).take k:=by
 rw[ByteArray.data_extract,Array.toList_extract,List.extract_eq_take_drop]
 congr 1
 omega
theorem UD(s:ByteArray)(n:Nat)(hn:n<=s.size):
  (HX s n=(0,s.size,s.size)/\C4 (s.data.toList.drop n) n=[])\/
  ∃t q,HX s n=(Bh t.kind,t.pos,q)/\C4 (s.data.toList.drop n) n=t::C4 (s.data.toList.drop q) q/\Fc t.kind/\n<=t.pos/\t.pos<q/\q<=s.size/\s.extract t.pos q=⟨t.text.toArray⟩/\t.text.length=q-t.pos:=by
 have hl:s.data.toList.length=s.size:=by rw[Array.length_toList];rfl
 rw[PN,List.drop_drop];unfold HX;obtain⟨p,b⟩:=Ex (n+B6 (s.data.toList.drop n));rw[<-b]
 by_cases h:p<s.size
 ·right;rw[if_pos h];obtain⟨c,r,hd⟩:∃c r,s.data.toList.drop p=c::r:=by
   cases d:s.data.toList.drop p with
   |nil=>
    have:=congrArg List.length d;simp only[List.length_drop,Qt]at this;omega
   |cons c r=>exact⟨c,r,rfl⟩
  have hb:EY c=false:=Rm (s.data.toList.drop n) c r (by rw[List.drop_drop,<-b];exact hd);have g:s.data.toList.drop (p+1)=r:=by rw[<-List.drop_drop,hd];rfl
  have e:CN s p=c:=by rw[J5,hd];rfl
  have f:CN s (p+1)=r.head?.getD 0:=by rw[J5,g]
  have i:=ME c r;have a:(s.data.toList.drop p).length=s.size-p:=by rw[List.length_drop,hl]
  rw[hd]at a;simp only[Qf]at a;rw[e,f,hd,MT c r p hb];refine⟨⟨(A5 c r).1,(c::r).take ((A5 c r).2+1),p⟩,p+((A5 c r).2+1),?_,?_,(JL c r).2,by simp only;omega,by simp only;omega,Yo,?_,?_⟩
  ·rw[Vn s p c r hd,(JL c r).1]
  ·congr 2
   ·rw[<-List.drop_drop,hd];rfl
  ·have:(s.extract p (p+((A5 c r).2+1))).data.toList=(c::r).take ((A5 c r).2+1):=by rw[UG,hd]
   simp only;rw[<-this]
  ·simp;omega
 ·left;rw[if_neg h];refine⟨rfl,?_⟩;rw[List.drop_eq_nil_of_le Yo];rfl
structure RI(k:Nat)(st:RS):Prop where
 opnl:st.opn.length<=k
 atoml:st.atom.length<=k
 bodyl:st.body.length<=k
 clsl:st.clauses.length<=k
 varsl:st.vars.length<=k
 args:∀s∈st.atom,s.args<=k
 next:st.next<=5
 opn:∀n∈st.opn,n<st.atom.length
 name:st.next=3->0<st.atom.length
theorem RI.bd(h:RI k st)(b:k<=4000):L7 st:=
 ⟨Qq h.opnl Yo,Qq h.atoml Yo,Qq h.bodyl Yo,Qq h.clsl Yo,fun s a=>Qq (h.args s a) Yo⟩
theorem Hw{kd len:Nat}(h:Bi st kd len=0):A2 st kd=true:=by
 unfold Bi at h;split at h
 ·omega
 ·rename_i a;simpa using a
theorem HJ{kd:Nat}(h:A2 st kd=true)(hn:st.next<=5):1<=kd/\kd<=7/\(kd=3->st.next=3)/\(kd=6\/kd=7->st.opn=[]):=by
 have fol:Bp st kd=true->(kd=4\/kd=5\/kd=6\/kd=7)/\(kd=6\/kd=7->st.opn=[]):=by
  unfold Bp
  cases d:st.opn with
  |nil=>
   simp only[List.isEmpty_nil,if_true];intro h;refine⟨?_,fun _=>trivial⟩;split at h
   ·simp at h;omega
   ·simp at h;omega
  |cons n r=>
   simp only[List.isEmpty_cons];intro h;simp at h;exact⟨Yo,fun h=>by omega⟩
 unfold A2 at h;split at h
 ·simp at h;subst h;simp
 ·split at h
  ·simp at h;rcases h with rfl|rfl<;>simp
  ·split at h
   ·rename_i c;simp only[Bool.or_eq_true,beq_iff_eq]at h;rcases h with rfl|h
    ·exact⟨Yo,Yo,fun _=>c,Yo⟩
    ·obtain⟨b,a⟩:=fol h;exact⟨Yo,Yo,Yo,a⟩
   ·split at h
    ·obtain⟨b,a⟩:=fol h;exact⟨Yo,Yo,Yo,a⟩
    ·simp at h
theorem RI.takes{kd:Nat}(h:RI k st)(d:k<=4000)(f:A2 st kd=true):VD st kd:=by
 obtain⟨a,b,c,g⟩:=HJ f h.next;have:=h.varsl;have:=h.bodyl;exact⟨h.bd d,Yo,Yo,h.opn,a,b,fun e=>h.name (c e)⟩
theorem IZ(st:RS):(Br st).length=st.atom.length:=by unfold Br;split<;>simp
theorem TO(st:RS)(h:∀s∈st.atom,s.args<=k):∀s∈Br st,s.args<=k+1:=by
 unfold Br;split
 ·exact fun s a=>Nat.le_succ_of_le (h s a)
 ·rename_i n r c;intro s a;obtain⟨i,hi⟩:=List.getElem?_of_mem a;rw[List.getElem?_modify]at hi
  cases b:st.atom[i]? with
  |none=>rw[b]at hi;simp at hi
  |some x=>
   rw[b]at hi;have:=h x (Qh b);simp at hi;split at hi
   ·subst hi;simpa using this
   ·subst hi;omega
theorem RI.mono(h:RI k st):RI (k+1) st:=
 ⟨Nat.le_succ_of_le h.opnl,Nat.le_succ_of_le h.atoml,Nat.le_succ_of_le h.bodyl,Nat.le_succ_of_le h.clsl,Nat.le_succ_of_le h.varsl,fun s a=>Nat.le_succ_of_le (h.args s a),h.next,h.opn,h.name⟩
theorem RI.at{m:Nat}(h:RI k st)(a:k<=m):RI m st:=
 ⟨Qq h.opnl a,Qq h.atoml a,Qq h.bodyl a,Qq h.clsl a,Qq h.varsl a,fun s b=>Qq (h.args s b) a,h.next,h.opn,h.name⟩
theorem RI.add(h:RI k st)(s:BL)(d:s.args=0)(n:Nat)(hn:n<=5)(vars:At)(b:vars.length<=k+1):RI (k+1) {Fr st s with next:=n,vars:=vars}:=by
 have hl:=IZ st;have h0:=h.atoml;have c:=h.opnl;refine⟨by simp[Fr];omega,by simp[Fr,hl];omega,Nat.le_succ_of_le h.bodyl,Nat.le_succ_of_le h.clsl,b,?_,hn,?_,?_⟩
 ·intro x a;simp only[Fr,Qk,List.mem_singleton]at a;rcases a with a|rfl
  ·exact TO st h.args x a
  ·omega
 ·intro x a;have:=h.opn x a;simp only[Fr,Qg,hl,Qn];omega
 ·intro _;simp[Fr]
theorem RI.ends(h:RI k st)(f:st.opn=[])(n:Nat)(hn:n<=5)(c:n≠3)(b:Bool):RI (k+1) {AG st with next:=n,inBody:=b}:=by
 have h0:=h.bodyl;have ha:(AG st).atom=[]:=by unfold AG;split<;>rfl
 have hb:(AG st).body.length<=k+1:=by unfold AG;split<;>simp<;>omega
 have d:(AG st).clauses=st.clauses:=by unfold AG;split<;>rfl
 have g:(AG st).vars=st.vars:=by unfold AG;split<;>rfl
 have a:(AG st).opn=[]:=by unfold AG;split<;>exact f
 have:=h.clsl;have:=h.varsl;exact⟨by simp[a],by simp[ha],hb,by simp only[d];omega,by simp only[g];omega,by simp[ha],hn,by simp[a],fun e=>absurd e c⟩
theorem RI.take{kd:Nat}(t:Lu)(h:RI k st)(j:A2 st kd=true):RI (k+1) (AT st kd t):=by
 obtain⟨q,s,f,b⟩:=HJ j h.next;have g:kd=1\/kd=2\/kd=3\/kd=4\/kd=5\/kd=6\/kd=7:=Yo
 have l:=h.opnl;have o:=h.atoml;have p:=h.varsl;rcases g with rfl|rfl|rfl|rfl|rfl|rfl|rfl
 ·exact h.add ⟨t,0,0⟩ rfl 3 Yo st.vars Yo
 ·have v:=IY st.vars t;exact h.add ⟨[],(A8 st.vars t).2,0⟩ rfl 4 Yo (A8 st.vars t).1 Yo
 ·have u:=h.name (f rfl);have m:=h.mono;refine⟨by simp[AT];omega,m.atoml,m.bodyl,m.clsl,m.varsl,m.args,by simp[AT],?_,by simp[AT]⟩;intro n hn;simp only[AT,Qp]at hn;simp at hn;show n<st.atom.length;rcases hn with rfl|hn
  ·omega
  ·exact h.opn n hn
 ·have m:=h.mono;refine⟨by simp[AT,F7];omega,m.atoml,m.bodyl,m.clsl,m.varsl,m.args,by simp[AT],?_,by simp[AT]⟩;intro n hn;simp[AT,F7]at hn;exact h.opn n (List.mem_of_mem_tail hn)
 ·show RI (k+1) (EB st);unfold EB
  cases c:st.opn with
  |nil=>
   have:=h.ends c 1 Yo Yo (AG st).inBody;simpa using this
  |cons n r=>
   have m:=h.mono;simp only[List.isEmpty_cons,Bool.false_eq_true,if_false];have d:=m.opnl;have e:=m.opn;rw[c]at d e;exact⟨d,m.atoml,m.bodyl,m.clsl,m.varsl,m.args,Ys,e,Ys⟩
 ·show RI (k+1) (AE (AG st));have a:=h.ends (b Yo) 0 Yo Yo false;have i:(AG st).clauses=st.clauses:=by unfold AG;split<;>rfl
  have:=h.clsl;refine⟨a.opnl,a.atoml,by simp[AE],by simp[AE,i];omega,by simp[AE],a.args,?_,a.opn,?_⟩
  ·simp only[AE];split<;>omega
  ·simp only[AE];split<;>omega
 ·exact h.ends (b Yo) 1 Yo Yo true
def ET(e:Nat):List BZ->RS->Nat×Nat×RS
 |[],st=>if st.next≠0/\st.next≠5 then(2,e,st)else(0,0,st)
 |t::ts,st=>if Bi st (Bh t.kind) t.text.length≠0 then(Bi st (Bh t.kind) t.text.length,t.pos,st)else ET e ts (AT st (Bh t.kind) t.text)
def Dv(l:Ly)(n:Nat):Nat:=(l[n]?.map (fun s=>s.args)).getD 0
structure Vg(st:RS)(L:Bj):Prop where
 want:L.want=st.next
 query:L.query=st.query
 err:L.err=0
 n5:st.next<=5
 stk:L.stk=st.opn.map (Dv st.atom)
 opn:∀n∈st.opn,n<st.atom.length
 down:st.opn.Pairwise (fun a b=>b<a)
 flat:st.next=0\/st.next=1\/st.next=5->st.atom=[]/\st.opn=[]
 size:st.next=2\/st.next=3\/st.next=4->L.size=st.atom.length
 open2:st.next=2->st.opn≠[]
 name:st.next=3->0<st.atom.length/\Dv st.atom (st.atom.length-1)=0/\∀n∈st.opn,n<st.atom.length-1
 inb:st.next≠0->st.next≠5->L.body=st.inBody
 inb1:st.next=1->st.inBody=true
 goals:st.inBody=true->st.next≠0->st.next≠5->L.goals=st.body.length+(if st.next=1 then 0 else 1)
 heads:st.query=false->L.heads=st.clauses.length+(if st.next=0 then 0 else 1)
 hd:st.inBody=false->st.body=[]
 q0:st.query=true->st.next≠0
 h0:st.next=0->st.inBody=false
theorem R6(l:Ly)(n:Nat)(s:BL)(h:n<l.length):Dv (l.modify n (fun s=>{s with args:=s.args+1})++[s]) n=Dv l n+1:=by
 unfold Dv;rw[Qc (by simpa using h),List.getElem?_modify,Qb h];simp
theorem QP(l:Ly)(n m:Nat)(s:BL)(h:m<l.length)(a:m≠n):Dv (l.modify n (fun s=>{s with args:=s.args+1})++[s]) m=Dv l m:=by
 unfold Dv;rw[Qc (by simpa using h),List.getElem?_modify];have:¬n=m:=fun e=>a e.symm
 cases l[m]? <;>simp[this]
theorem RL(l:Ly)(s:BL):Dv (l++[s]) l.length=s.args:=by
 unfold Dv;simp
theorem Tk:Bh 1=1:=rfl
theorem Xl:Bh 2=2:=rfl
theorem NT:Bh 40=3:=rfl
theorem VP:Bh 41=4:=rfl
theorem Op:Bh 44=5:=rfl
theorem NS:Bh 46=6:=rfl
theorem Xi:Bh 3=7:=rfl
theorem Gs(a:Fc k):(Bh k=1↔k=1)/\(Bh k=2↔k=2):=by
 rcases a with rfl|rfl|rfl|rfl|rfl|rfl|rfl|rfl<;>simp[Bh]
theorem T0(h:Vg st L)(k len:Nat)(t:Lu)(u:Fc k)(hn:st.next=0\/st.next=1):
  Bi st (Bh k) len=(Bk L k len).err/\((Bk L k len).err=0->Vg (AT st (Bh k) t) (Bk L k len)):=by
 obtain⟨ha,a⟩:=h.flat Yo;have f:=h.stk;rw[a]at f;simp only[List.map_nil]at f;have r:=h.want;have q:=h.err;have w:Bk L k len=AH L k len:=by rw[Bk,if_pos Yo]
 rw[w]
 by_cases m:k=1
 ·subst m;have g:A2 st 1=true:=by unfold A2;rw[if_pos Yo];rfl
  have p:Br st=[]:=by simp[Br,a,ha]
  rcases hn with hn|hn
  ·have n:st.query=false:=by
    cases n:st.query
    ·rfl
    ·exact absurd hn (h.q0 n)
   have b:=h.heads n;rw[if_pos hn]at b;have j:Di st=decide (24<=st.clauses.length):=by simp[Di,hn]
   have hl:AH L 1 len={L with heads:=L.heads+1,body:=false,size:=1,err:=if 8<len\/30<0+1 then 3 else if 24<L.heads+1 then 3 else L.err,want:=3}:=by
    simp[AH,FI,AS,r,hn]
   rw[hl,Tk];constructor
   ·simp only[Bi,g,j,q];rw[b]
    by_cases c:8<len
    ·simp[c]
    ·by_cases d:24<=st.clauses.length
     ·rw[if_neg Ys,if_pos (by simp[d]),if_neg Yo,if_pos Yo]
     ·rw[if_neg Ys,if_neg (by simp[c,d]<;>omega),if_neg Yo,if_neg Yo]
   ·intro i;have o:AT st 1 t={st with atom:=[⟨t,0,0⟩],next:=3}:=by simp[AT,Fr,p]
    rw[o];exact{
     want:=rfl
     query:=h.query
     err:=i
     n5:=Ys
     stk:=by simp[a,f]
     opn:=by simp[a]
     down:=by simp[a]
     flat:=Ys
     size:=Ys
     open2:=Ys
     name:=by simp[a,Dv]
     inb:=by simp[h.h0 hn]
     inb1:=Ys
     goals:=by simp[h.h0 hn]
     heads:=by simp[b]
     hd:=h.hd
     q0:=Ys
     h0:=by simp}
  ·have s:=h.inb1 hn;have l:=h.goals s Yo Yo;rw[if_pos hn]at l;have j:Di st=decide (6<=st.body.length):=by simp[Di,hn]
   have hl:AH L 1 len={L with goals:=L.goals+1,size:=1,err:=if 8<len\/30<0+1 then 3 else if 6<L.goals+1 then 3 else L.err,want:=3}:=by
    simp[AH,FI,AS,r,hn]
   rw[hl,Tk];constructor
   ·simp only[Bi,g,j,q];rw[l]
    by_cases c:8<len
    ·simp[c]
    ·by_cases d:6<=st.body.length
     ·rw[if_neg Ys,if_pos (by simp[d]),if_neg Yo,if_pos Yo]
     ·rw[if_neg Ys,if_neg (by simp[c,d]<;>omega),if_neg Yo,if_neg Yo]
   ·intro i;have o:AT st 1 t={st with atom:=[⟨t,0,0⟩],next:=3}:=by simp[AT,Fr,p]
    have b:=h.heads;rw[if_neg Yo]at b;rw[o];exact{
     want:=rfl
     query:=h.query
     err:=i
     n5:=Ys
     stk:=by simp[a,f]
     opn:=by simp[a]
     down:=by simp[a]
     flat:=Ys
     size:=Ys
     open2:=Ys
     name:=by simp[a,Dv]
     inb:=fun _ _=>h.inb Yo Yo
     inb1:=Ys
     goals:=by simp[l]
     heads:=by simpa using b
     hd:=h.hd
     q0:=Ys
     h0:=by simp}
 ·have v:¬Bh k=1:=fun e=>m ((Gs u).1.1 e);have g:A2 st (Bh k)=false:=by unfold A2;rw[if_pos Yo];simpa using v
  have hl:AH L k len={L with err:=2}:=by
   unfold AH;rw[if_pos ⟨m,Or.inr Yo⟩]
  rw[hl];exact⟨by simp[Bi,g],Ys⟩
theorem W4(h:Vg st L)(k len:Nat)(t:Lu)(w:Fc k)(hn:st.next=2):
  Bi st (Bh k) len=(Bk L k len).err/\((Bk L k len).err=0->Vg (AT st (Bh k) t) (Bk L k len)):=by
 have G:=h.want;have C:=h.err;have E:Bk L k len=AH L k len:=by rw[Bk,if_pos Yo]
 rw[E];obtain⟨n,r,a⟩:∃n r,st.opn=n::r:=by
  cases f:st.opn with
  |nil=>exact absurd f (h.open2 hn)
  |cons n r=>exact⟨n,r,rfl⟩
 have z:=h.stk;rw[a,Qx]at z;have F:=h.opn n (by rw[a];simp);have o:=h.size Yo;have hd:=h.down;rw[a,List.pairwise_cons]at hd
 by_cases c:k=1\/k=2
 ·have j:A2 st (Bh k)=true:=by
   unfold A2;rw[if_neg Yo,if_pos hn];rcases c with rfl|rfl<;>rfl
  have A:Gq st=Dv st.atom n:=by
   unfold Gq Dv;rw[a];simp only
   cases st.atom[n]? <;>rfl
  have D:Di st=(decide (30<=st.atom.length)||decide (4<=Dv st.atom n)):=by simp[Di,hn,A]
  have hl:AH L k len={L with stk:=(Dv st.atom n+1)::r.map (Dv st.atom),size:=L.size+1,err:=if 8<len\/30<L.size+1 then 3 else if 4<Dv st.atom n+1 then 3 else L.err,want:=if k=1 then 3 else 4}:=by
   unfold AH;rw[if_neg Yo];simp[FI,AS,G,hn,z]
  rw[hl];have d:Bh k=1\/Bh k=2:=by rcases c with rfl|rfl<;>simp[Bh]
  have B:Br st=st.atom.modify n (fun s=>{s with args:=s.args+1}):=by simp[Br,a]
  constructor
  ·simp only[Bi,j,D,C];rw[o]
   by_cases p:8<len
   ·simp[p,d]
   ·by_cases f:30<=st.atom.length
    ·rw[if_neg Ys,if_pos ⟨d,Or.inr (by simp[f])⟩,if_pos Yo]
    ·by_cases q:4<=Dv st.atom n
     ·rw[if_neg Ys,if_pos ⟨d,Or.inr (by simp[q])⟩,if_neg Yo,if_pos Yo]
     ·rw[if_neg Ys,if_neg (by simp[p,f,q]<;>omega),if_neg Yo,if_neg Yo]
  ·intro u;have x:∀(s:BL),st.opn.map (Dv (Br st++[s]))=(Dv st.atom n+1)::r.map (Dv st.atom):=by
    intro s;rw[a,Qx,B,R6 _ _ _ F]
    congr 1
    apply List.map_congr_left;intro m g;exact QP _ _ _ _ (h.opn m (by rw[a];simp[g])) (by have:=hd.1 m g;omega)
   have b:=IZ st;have y:∀m∈st.opn,m<st.atom.length+1:=fun m g=>Nat.lt_succ_of_lt (h.opn m g);have i:=h.heads;rw[if_neg Yo]at i;have v:=h.goals;rcases c with rfl|rfl
   ·have l:AT st (Bh 1) t={st with atom:=Br st++[⟨t,0,0⟩],next:=3}:=by simp[Tk,AT,Fr]
    rw[l];exact{
     want:=rfl
     query:=h.query
     err:=u
     n5:=Ys
     stk:=(x _).symm
     opn:=by simpa[b]using y
     down:=h.down
     flat:=Ys
     size:=by simp[o,b]
     open2:=Ys
     name:=by
      intro _;refine⟨Ys,?_,?_⟩
      ·have:=RL (Br st) ⟨t,0,0⟩;simpa using this
      ·simpa[b]using h.opn
     inb:=fun _ _=>h.inb Yo Yo
     inb1:=Ys
     goals:=fun hi _ _=>by have:=v hi Yo Yo;rw[if_neg Yo]at this;simpa using this
     heads:=by simpa using i
     hd:=h.hd
     q0:=Ys
     h0:=by simp}
   ·have l:AT st (Bh 2) t={st with atom:=Br st++[⟨[],(A8 st.vars t).2,0⟩],vars:=(A8 st.vars t).1,next:=4}:=by simp[Xl,AT,Fr,Mg,Br,a]
    rw[l];exact{
     want:=rfl
     query:=h.query
     err:=u
     n5:=Ys
     stk:=(x _).symm
     opn:=by simpa[b]using y
     down:=h.down
     flat:=Ys
     size:=by simp[o,b]
     open2:=Ys
     name:=Ys
     inb:=fun _ _=>h.inb Yo Yo
     inb1:=Ys
     goals:=fun hi _ _=>by have:=v hi Yo Yo;rw[if_neg Yo]at this;simpa using this
     heads:=by simpa using i
     hd:=h.hd
     q0:=Ys
     h0:=by simp}
 ·have d:¬Bh k=1/\¬Bh k=2:=⟨fun e=>c (Or.inl ((Gs w).1.1 e)),fun e=>c (Or.inr ((Gs w).2.1 e))⟩;have j:A2 st (Bh k)=false:=by unfold A2;rw[if_neg Yo,if_pos hn];simpa using d
  have hl:AH L k len={L with err:=2}:=by
   unfold AH;rw[if_pos Yo]
  rw[hl];exact⟨by simp[Bi,j],Ys⟩
theorem SA(h:Vg st L)(k len:Nat)(t:Lu)(y:Fc k)(hn:st.next=3\/st.next=4):
  Bi st (Bh k) len=(Bk L k len).err/\((Bk L k len).err=0->Vg (AT st (Bh k) t) (Bk L k len)):=by
 have N:=h.want;have d:=h.err;have J:Bk L k len=Al L k:=by rw[Bk,if_neg Yo,if_neg Yo]
 rw[J];have F:=h.size Yo;have w:=h.inb Yo Yo;have E:=h.stk;have q:=h.heads;rw[if_neg Yo]at q;have g:=h.query;have M:L.stk=[]↔st.opn=[]:=by rw[E];simp
 have s:∀b,A2 st (Bh k)=b->(Bh k≠1/\Bh k≠2)->Bi st (Bh k) len=if b then 0 else 2:=by
  intro b hb o;subst hb;unfold Bi
  cases A2 st (Bh k)<;>simp[o]
 have j:∀kd,A2 st kd=((kd==3&&decide (st.next=3))||Bp st kd):=by
  intro kd;unfold A2;rw[if_neg Yo,if_neg Yo];rcases hn with hn|hn<;>simp[hn]
 by_cases B:k=1\/k=2\/k=5
 ·have c:A2 st (Bh k)=false:=by
   rw[j];rcases B with rfl|rfl|rfl<;>(unfold Bp;simp[Bh])
  have hl:Al L k={L with err:=2}:=by
   rcases B with rfl|rfl|rfl<;>(unfold Al;simp)
  rw[hl];exact⟨by simp[Bi,c],Ys⟩
 ·have o:Bh k≠1/\Bh k≠2:=⟨fun e=>B (Or.inl ((Gs y).1.1 e)),fun e=>B (Or.inr (Or.inl ((Gs y).2.1 e)))⟩
  by_cases D:k=40
  ·subst D
   by_cases C:st.next=3
   ·have c:A2 st (Bh 40)=true:=by rw[j];simp[NT,C]
    have hl:Al L 40={L with stk:=0::L.stk,want:=2}:=by simp[Al,N,C]
    rw[hl,s true c o];refine⟨d.symm,fun _=> ?_⟩;obtain⟨Q,O,P⟩:=h.name C;have i:AT st (Bh 40) t={st with opn:=(st.atom.length-1)::st.opn,next:=2}:=by simp[NT,AT]
    rw[i];exact{
     want:=rfl
     query:=g
     err:=d
     n5:=Ys
     stk:=by simp[E,O]
     opn:=by
      intro m x;simp only[Qp]at x;rcases x with rfl|x
      ·show st.atom.length-1<st.atom.length;omega
      ·exact h.opn m x
     down:=by
      rw[List.pairwise_cons];exact⟨P,h.down⟩
     flat:=Ys
     size:=fun _=>F
     open2:=Ys
     name:=Ys
     inb:=fun _ _=>w
     inb1:=Ys
     goals:=fun hi _ _=>by have:=h.goals hi Yo Yo;rw[if_neg Yo]at this;simpa using this
     heads:=by simpa using q
     hd:=h.hd
     q0:=Ys
     h0:=by simp}
   ·have c:A2 st (Bh 40)=false:=by
     rw[j];unfold Bp;simp[NT,C]
    have hl:Al L 40={L with err:=2}:=by
     unfold Al;have:¬L.want=3:=Yo
     simp[this]
    rw[hl];exact⟨by simp[Bi,c],Ys⟩
  ·cases a:st.opn with
   |nil=>
    have f:L.stk=[]:=M.2 a
    cases hb:st.inBody with
    |false=>
     have l:∀kd,Bp st kd=(kd==7||kd==6):=by intro kd;simp[Bp,a,hb]
     have u:L.body=false:=w.trans hb
     by_cases H:k=3
     ·subst H;have c:A2 st (Bh 3)=true:=by rw[j,l];rfl
      have hl:Al L 3={L with body:=true,goals:=0,want:=1}:=by simp[Al,f,u]
      rw[hl,s true c o];refine⟨d.symm,fun _=> ?_⟩;have i:AT st (Bh 3) t={st with head:=st.atom,atom:=[],inBody:=true,next:=1}:=by simp[Xi,AT,AG,hb]
      rw[i];exact{
       want:=rfl
       query:=g
       err:=d
       n5:=Ys
       stk:=by simp[f,a]
       opn:=by simp[a]
       down:=by simp[a]
       flat:=by simp[a]
       size:=Ys
       open2:=Ys
       name:=Ys
       inb:=Ys
       inb1:=Ys
       goals:=by simp[h.hd hb]
       heads:=by simpa using q
       hd:=Ys
       q0:=Ys
       h0:=by simp}
     ·by_cases A:k=46
      ·subst A;have c:A2 st (Bh 46)=true:=by rw[j,l];rfl
       have hl:Al L 46={L with want:=if L.query then 5 else 0}:=by cases g:L.query<;>simp[Al,f,u,g]
       rw[hl,s true c o];refine⟨d.symm,fun _=> ?_⟩;have i:AT st (Bh 46) t={st with clauses:=st.clauses++[⟨st.atom,st.body,st.vars⟩],atom:=[],head:=[],body:=[],vars:=[],inBody:=false,next:=if st.query then 5 else 0}:=by simp[NS,AT,AG,AE,hb]
       rw[i];have K:(if st.query then 5 else 0:Nat)=0\/(if st.query then 5 else 0:Nat)=5:=by split<;>simp
       exact{
        want:=by rw[g]
        query:=g
        err:=d
        n5:=by simp only;omega
        stk:=by simp[f,a]
        opn:=by simp[a]
        down:=by simp[a]
        flat:=by simp[a]
        size:=by simp only;omega
        open2:=by simp only;omega
        name:=by simp only;omega
        inb:=by simp only;omega
        inb1:=by simp only;omega
        goals:=Ys
        heads:=by
         intro p;have p:st.query=false:=p;have:=q p;simp[p,this]
        hd:=Ys
        q0:=by intro v;have v:st.query=true:=v;simp[v]
        h0:=by simp}
      ·have c:A2 st (Bh k)=false:=by
        rw[j,l];rcases y with rfl|rfl|rfl|rfl|rfl|rfl|rfl|rfl<;>simp_all [Bh]
       have hl:Al L k={L with err:=2}:=by
        unfold Al;simp[D,f,u,H,A]
       rw[hl];exact⟨by simp[Bi,c],Ys⟩
    |true=>
     have l:∀kd,Bp st kd=(kd==5||kd==6):=by intro kd;simp[Bp,a,hb]
     have u:L.body=true:=w.trans hb;have G:=h.goals hb Yo Yo;rw[if_neg Yo]at G
     by_cases z:k=44
     ·subst z;have c:A2 st (Bh 44)=true:=by rw[j,l];rfl
      have hl:Al L 44={L with want:=1}:=by simp[Al,f,u]
      rw[hl,s true c o];refine⟨d.symm,fun _=> ?_⟩;have i:AT st (Bh 44) t={st with body:=st.body++[st.atom],atom:=[],next:=1}:=by simp[Op,AT,EB,AG,a,hb]
      rw[i];exact{
       want:=rfl
       query:=g
       err:=d
       n5:=Ys
       stk:=by simp[f,a]
       opn:=by simp[a]
       down:=by simp[a]
       flat:=by simp[a]
       size:=Ys
       open2:=Ys
       name:=Ys
       inb:=fun _ _=>w
       inb1:=fun _=>hb
       goals:=by simp[G]
       heads:=by simpa using q
       hd:=by simp[hb]
       q0:=Ys
       h0:=by simp}
     ·by_cases A:k=46
      ·subst A;have c:A2 st (Bh 46)=true:=by rw[j,l];rfl
       have hl:Al L 46={L with want:=if L.query then 5 else 0}:=by cases g:L.query<;>simp[Al,f,u,g]
       rw[hl,s true c o];refine⟨d.symm,fun _=> ?_⟩;have i:AT st (Bh 46) t={st with clauses:=st.clauses++[⟨st.head,st.body++[st.atom],st.vars⟩],atom:=[],head:=[],body:=[],vars:=[],inBody:=false,next:=if st.query then 5 else 0}:=by simp[NS,AT,AG,AE,hb]
       rw[i];have K:(if st.query then 5 else 0:Nat)=0\/(if st.query then 5 else 0:Nat)=5:=by split<;>simp
       exact{
        want:=by rw[g]
        query:=g
        err:=d
        n5:=by simp only;omega
        stk:=by simp[f,a]
        opn:=by simp[a]
        down:=by simp[a]
        flat:=by simp[a]
        size:=by simp only;omega
        open2:=by simp only;omega
        name:=by simp only;omega
        inb:=by simp only;omega
        inb1:=by simp only;omega
        goals:=Ys
        heads:=by
         intro p;have p:st.query=false:=p;have:=q p;simp[p,this]
        hd:=Ys
        q0:=by intro v;have v:st.query=true:=v;simp[v]
        h0:=by simp}
      ·have c:A2 st (Bh k)=false:=by
        rw[j,l];rcases y with rfl|rfl|rfl|rfl|rfl|rfl|rfl|rfl<;>simp_all [Bh]
       have hl:Al L k={L with err:=2}:=by
        unfold Al;simp[D,f,u,z,A]
       rw[hl];exact⟨by simp[Bi,c],Ys⟩
   |cons n r=>
    have f:L.stk=Dv st.atom n::r.map (Dv st.atom):=by rw[E,a];rfl
    have l:∀kd,Bp st kd=(kd==5||kd==4):=by intro kd;simp[Bp,a]
    by_cases z:k=44
    ·subst z;have c:A2 st (Bh 44)=true:=by rw[j,l];rfl
     have hl:Al L 44={L with want:=2}:=by simp[Al,f]
     rw[hl,s true c o];refine⟨d.symm,fun _=> ?_⟩;have i:AT st (Bh 44) t={st with next:=2}:=by simp[Op,AT,EB,a]
     rw[i];exact{
      want:=rfl
      query:=g
      err:=d
      n5:=Ys
      stk:=E
      opn:=h.opn
      down:=h.down
      flat:=Ys
      size:=fun _=>F
      open2:=by simp[a]
      name:=Ys
      inb:=fun _ _=>w
      inb1:=Ys
      goals:=fun hi _ _=>by have:=h.goals hi Yo Yo;rw[if_neg Yo]at this;simpa using this
      heads:=by simpa using q
      hd:=h.hd
      q0:=Ys
      h0:=by simp}
    ·by_cases I:k=41
     ·subst I;have c:A2 st (Bh 41)=true:=by rw[j,l];rfl
      have hl:Al L 41={L with stk:=r.map (Dv st.atom),want:=4}:=by simp[Al,f]
      rw[hl,s true c o];refine⟨d.symm,fun _=> ?_⟩;have i:AT st (Bh 41) t={st with opn:=r,next:=4}:=by simp[VP,AT,F7,a]
      rw[i];have hd:=h.down;rw[a,List.pairwise_cons]at hd;exact{
       want:=rfl
       query:=g
       err:=d
       n5:=Ys
       stk:=rfl
       opn:=fun m x=>h.opn m (by rw[a];simp[x])
       down:=hd.2
       flat:=Ys
       size:=fun _=>F
       open2:=Ys
       name:=Ys
       inb:=fun _ _=>w
       inb1:=Ys
       goals:=fun hi _ _=>by have:=h.goals hi Yo Yo;rw[if_neg Yo]at this;simpa using this
       heads:=by simpa using q
       hd:=h.hd
       q0:=Ys
       h0:=by simp}
     ·have c:A2 st (Bh k)=false:=by
       rw[j,l];rcases y with rfl|rfl|rfl|rfl|rfl|rfl|rfl|rfl<;>simp_all [Bh]
      have hl:Al L k={L with err:=2}:=by
       unfold Al;simp[D,f,z,I]
      rw[hl];exact⟨by simp[Bi,c],Ys⟩
theorem Vh(h:Vg st L)(k len:Nat)(t:Lu)(a:Fc k):
  Bi st (Bh k) len=(Bk L k len).err/\((Bk L k len).err=0->Vg (AT st (Bh k) t) (Bk L k len)):=by
 have d:=h.n5;have e:=h.want;have b:(st.next=0\/st.next=1)\/st.next=2\/(st.next=3\/st.next=4)\/st.next=5:=Yo
 rcases b with hn|hn|hn|hn
 ·exact T0 h k len t a hn
 ·exact W4 h k len t a hn
 ·exact SA h k len t a hn
 ·have hl:Bk L k len={L with err:=2}:=by rw[Bk,if_neg Yo,if_pos Yo]
  have c:A2 st (Bh k)=false:=by unfold A2;simp[hn]
  rw[hl];exact⟨by simp[Bi,c],Ys⟩
def takes:List BZ->RS->RS
 |[],st=>st
 |t::ts,st=>takes ts (AT st (Bh t.kind) t.text)
theorem I4(a b:List BZ)(st:RS):takes (a++b) st=takes b (takes a st):=by
 induction a generalizing st with
 |nil=>rfl
 |cons t a c=>exact c _
theorem WQ(h:Vg st L)(hn:st.next≠0/\st.next≠5):(Bk L 4 0).err=2:=by
 have b:=h.n5;have c:=h.want;unfold Bk
 by_cases a:L.want<=2
 ·rw[if_pos a];simp[AH]
 ·rw[if_neg a,if_neg Yo];unfold Al;simp
theorem T8(e:Nat):∀(ts:List BZ)(st:RS)(L:Bj),Vg st L->(∀t∈ts,Fc t.kind)->
  (ET e ts st).1=(Bb (ts++[⟨4,[],e⟩]) L).1/\((ET e ts st).1≠0->(ET e ts st).2.1=(Bb (ts++[⟨4,[],e⟩]) L).2)/\((ET e ts st).1=0->(ET e ts st).2.2=takes ts st):=by
 intro ts
 induction ts with
 |nil=>
  intro st L h _;have l:=h.want;simp only[Qz,Bb,ET,takes]
  by_cases hn:st.next≠0/\st.next≠5
  ·have a:=WQ h hn;simp only[Qt,a];rw[if_pos hn,if_neg Yo];simp
  ·rw[if_neg hn,if_pos (by refine⟨trivial,?_⟩;omega)];simp
 |cons t ts j=>
  intro st L h c;have d:=c t Ys;obtain⟨f,g⟩:=Vh h t.kind t.text.length t.text d;have b:¬(t.kind=4/\(L.want=5\/L.want=0)):=by
   rintro⟨b,_⟩;rcases d with h|h|h|h|h|h|h|h<;>omega
  simp only[Qy,Bb,ET,takes];rw[f,if_neg b]
  by_cases a:(Bk L t.kind t.text.length).err=0
  ·rw[if_neg (by simp[a]),if_neg (by simp[a])];exact j _ _ (g a) (fun k i=>c k (by simp[i]))
  ·rw[if_pos a,if_pos a];exact⟨rfl,fun _=>rfl,fun h=>absurd h a⟩
theorem XY(q:Bool):Vg ⟨q,if q then 1 else 0,q,[],[],[],[],[],[]⟩ (AD q):=by
 cases q
 ·exact⟨rfl,rfl,rfl,Ys,rfl,Ys,Ys,Ys,Ys,Ys,Ys,Ys,Ys,Ys,by simp[AD],Ys,Ys,Ys⟩
 ·exact⟨rfl,rfl,rfl,Ys,rfl,Ys,Ys,Ys,Ys,Ys,Ys,by simp[AD],Ys,by simp[AD],Ys,Ys,Ys,Ys⟩
theorem Tx:∀(f:Nat)(l:Lu)(p:Nat),∀t∈Gi f l p,Fc t.kind:=by
 intro f
 induction f with
 |zero=>intro l p t a;simp[Gi]at a
 |succ f b=>
  intro l p t a
  cases l with
  |nil=>simp[Gi]at a
  |cons c r=>
   rw[Gi]at a;split at a
   ·exact b _ _ t a
   ·simp only[Qp]at a;rcases a with rfl|a
    ·exact(JL c r).2
    ·exact b _ _ t a
theorem G8(l:Lu)(p:Nat):∀t∈C4 l p,Fc t.kind:=Tx _ l p
def D4(st:RS)(l:Ly)(names:At)(nx:Nat):RS:={st with atom:=Br st++l,vars:=names,next:=nx}
def Tm(n:Nat):Prop:=∀(ts:List BZ)(L:Bj)(f:Nat)(st:RS),ts.length<=n->ts.length<=f->Jo ts L->fin ts->L.want<=2->L.err=0->(L.want=2->L.stk≠[])->(∀t r,ts=t::r->t.kind≠4)->
 ∃r L' m,Bq f ts st.vars=some r/\XD r.2.1 L L' (AS L).stk/\r.2.1=ts.drop m/\r.2.1.length<ts.length/\takes (ts.take m) st=D4 st r.1 r.2.2 L'.want
theorem Ep{xs c:List BZ}{y:BZ}{b:Nat}(h:xs.drop b=y::c)(a:Nat)(st:RS):takes (xs.take (b+(1+a))) st=takes (c.take a) (AT (takes (xs.take b) st) (Bh y.kind) y.text)/\xs.drop (b+(1+a))=c.drop a:=by
 constructor
 ·rw[List.take_add,I4,h,Nat.add_comm 1 a];rfl
 ·rw[<-List.drop_drop,h,Nat.add_comm 1 a];rfl
theorem Wv(A:Ly)(nm:Lu)(k:Nat)(B:Ly):(A++(⟨nm,0,k⟩:BL)::B).modify A.length (fun s=>{s with args:=s.args+1})=A++⟨nm,0,k+1⟩::B:=by
 induction A with
 |nil=>simp
 |cons a A b=>simp[b]
theorem VT(n f:Nat)(K:Tm n):∀(g:Nat)(x:BZ)(xs:List BZ)(L:Bj)(m:Nat)(r:List Nat)(d:Ll)(st:RS)(A:Ly)(nm:Lu)(o:List Nat),xs.length<=n->xs.length<=f->xs.length+1<=g->x.kind≠41->
  Jo xs L->fin xs->L.want=2->L.stk=m::r->L.err=0->st.atom=A++⟨nm,0,d.length⟩::d.flatten->st.opn=A.length::o->
  ∃q w i,CE (Bq f) g (x::xs) st.vars d=some q/\XD q.2.1 L w r/\w.want=4/\q.2.1=xs.drop i/\q.2.1.length<xs.length/\
   takes (xs.take i) st={st with atom:=A++⟨nm,0,q.1.length⟩::q.1.flatten,opn:=o,vars:=q.2.2,next:=4}:=by
 intro g
 induction g with
 |zero=>intro x xs L m r d st A nm o z N O;omega
 |succ g aa=>
  intro x xs L m r d st A nm o z N O P D W H F C U j;have Z:∀t r,xs=t::r->t.kind≠4:=by
   rintro t r rfl ab;have:=(D7 D Yo).1;unfold Bk at this;rw[if_pos Yo]at this;rcases Fb C this with h|h<;>omega
  obtain⟨a,c,I,Y,ha,hd,hl,G⟩:=K xs L f st z Yo D W Yo C (by rw[F];simp) Z;have X:(AS L).stk=(m+1)::r:=by simp[AS,H,F]
  rw[X]at ha;rw[CE,if_neg P,Y];simp only;have V:Br st=A++⟨nm,0,d.length+1⟩::d.flatten:=by
   unfold Br;rw[j];simp only;rw[U,Wv]
  cases E:a.2.1 with
  |nil=>rw[E]at ha;exact ha.fin.elim
  |cons y J=>
   rw[E]at ha hl hd;simp only[Qf]at hl;have B:(D4 st a.1 a.2.2 c.want).atom=A++⟨nm,0,(d++[a.1]).length⟩::(d++[a.1]).flatten:=by
    unfold D4;simp[V]
   rcases Wj ha with⟨k,p,l,b⟩|⟨k,p,l,b⟩
   ·have v:AT (D4 st a.1 a.2.2 c.want) (Bh y.kind) y.text={D4 st a.1 a.2.2 c.want with next:=2}:=by
     rw[k];simp[Op,AT,EB,D4,j]
    obtain⟨q,M,i,Q,e,R,S,ac,T⟩:=aa y J (Al c 44) (m+1) r (d++[a.1]) {D4 st a.1 a.2.2 c.want with next:=2} A nm o Yo Yo Yo Yo p l (by rw[b]) (by rw[b];exact ha.stk) (by rw[b];exact ha.err) B j;obtain⟨s,u⟩:=Ep hd.symm i st;refine⟨q,M,I+(1+i),Q,⟨e.ok,e.fin,e.want,e.stk,e.err,?_,?_⟩,R,?_,Yo,?_⟩
    ·rw[e.query,b];exact ha.query
    ·rw[e.body,b];have:=ha.body;simp[H]at this⊢;exact this
    ·rw[u];exact S
    ·rw[s,G,v,T];rfl
   ·have v:AT (D4 st a.1 a.2.2 c.want) (Bh y.kind) y.text={D4 st a.1 a.2.2 c.want with opn:=o,next:=4}:=by
     rw[k];simp[VP,AT,F7,D4,j]
    obtain⟨s,u⟩:=Ep hd.symm 0 st;refine⟨(d++[a.1],J,a.2.2),Al c 41,I+(1+0),?_,⟨p,l,Or.inl (by rw[b]),by rw[b],by rw[b];exact ha.err,by rw[b];exact ha.query,by rw[b];exact ha.body⟩,by rw[b],?_,by simp;omega,?_⟩
    ·cases g with
     |zero=>omega
     |succ g=>rw[CE,if_pos k]
    ·rw[u];rfl
    ·rw[s,G,v];show({D4 st a.1 a.2.2 c.want with opn:=o,next:=4}:RS)=_;have:({D4 st a.1 a.2.2 c.want with opn:=o,next:=4}:RS)={st with atom:=(D4 st a.1 a.2.2 c.want).atom,opn:=o,vars:=a.2.2,next:=4}:=rfl;rw[this,B]
theorem Pc:∀n,Tm n:=by
 intro n
 induction n with
 |zero=>
  intro ts L f st k p A l
  cases ts with
  |nil=>exact l.elim
  |cons t ts=>simp at k
 |succ n D=>
  intro ts L f st k p A l R K T O
  cases ts with
  |nil=>exact l.elim
  |cons t ts=>
   have F:=O t ts rfl;simp only[Qf]at k p
   cases f with
   |zero=>omega
   |succ f=>
    obtain⟨b,g⟩:=D7 A Yo;unfold Bk at b g;rw[if_pos R]at b g;have N:=Fb K b;obtain⟨c,s,v,w⟩:=Ip b N;have m:fin ts:=by
     rcases l with h|h
     ·exact absurd h F
     ·exact h
    by_cases o:t.kind=2
    ·rw[Bq,if_pos o];refine⟨_,AH L t.kind t.text.length,1,rfl,⟨g,m,Or.inl (by rw[c,o];rfl),s,b,v,w⟩,rfl,Ys,?_⟩;have P:AT st (Bh t.kind) t.text={st with atom:=Br st++[⟨[],(A8 st.vars t.text).2,0⟩],vars:=(A8 st.vars t.text).1,next:=4}:=by rw[o];simp[Xl,AT,Fr,Mg,Br]
     show AT st (Bh t.kind) t.text=_;rw[P,c,if_neg Yo];rfl
    ·have z:t.kind=1:=Yo
     have B:AT st (Bh t.kind) t.text={st with atom:=Br st++[⟨t.text,0,0⟩],next:=3}:=by rw[z];simp[Tk,AT,Fr]
     rw[Bq,if_neg o]
     cases ts with
     |nil=>exact m.elim
     |cons u d=>
      rw[FN];simp only[Qf]at k p;rw[if_pos z]at c
      by_cases j:u.kind=40
      ·rw[if_neg (by simp[j])];obtain⟨x,r⟩:=D7 g Yo;unfold Bk at x r;rw[if_neg Yo,if_neg Yo,j]at x r;have e:Al (AH L t.kind t.text.length) 40={AH L t.kind t.text.length with stk:=0::(AH L t.kind t.text.length).stk,want:=2}:=by
        simp[Al,c]
       have M:fin d:=by
        rcases m with h|h
        ·omega
        ·exact h
       have Q:AT {st with atom:=Br st++[⟨t.text,0,0⟩],next:=3} (Bh u.kind) u.text={st with atom:=Br st++[⟨t.text,0,0⟩],opn:=(Br st).length::st.opn,next:=2}:=by
        rw[j];simp[NT,AT]
       obtain⟨q,E,i,G,a,H,I,S,J⟩:=VT n f D (d.length+1) u d _ 0 (AS L).stk [] {st with atom:=Br st++[⟨t.text,0,0⟩],opn:=(Br st).length::st.opn,next:=2} (Br st) t.text st.opn Yo Yo Yo Yo r M (by rw[e]) (by rw[e,<-s]) (by rw[e];exact b) rfl rfl;rw[show CE (Bq f) (d.length+1) (u::d) st.vars []=some q from G];refine⟨_,E,i+2,rfl,⟨a.ok,a.fin,a.want,a.stk,a.err,?_,?_⟩,?_,by simp;omega,?_⟩
       ·rw[a.query,e];exact v
       ·rw[a.body,e];simpa using w
       ·exact I
       ·show takes (d.take i) (AT (AT st (Bh t.kind) t.text) (Bh u.kind) u.text)=_;rw[B,Q,J,H];rfl
      ·rw[if_pos j];refine⟨_,AH L t.kind t.text.length,1,rfl,⟨g,m,Or.inr ⟨c,?_⟩,s,b,v,w⟩,rfl,Ys,?_⟩
       ·intro y U C;simp at C;rw[<-C.1];exact j
       ·show AT st (Bh t.kind) t.text=_;rw[B,c];rfl
def PA(st:RS)(hd:Ly)(bd:Ll)(vs:At):RS:={st with clauses:=st.clauses++[⟨hd,bd,vs⟩],atom:=[],opn:=[],head:=[],body:=[],vars:=[],inBody:=false,next:=if st.query then 5 else 0}
theorem M8:∀(g:Nat)(ts:List BZ)(L:Bj)(e:Ll)(st:RS),ts.length<=g->ts.length<=1000->Jo ts L->fin ts->L.want=1->L.stk=[]->L.body=true->L.err=0->st.opn=[]->st.atom=[]->st.inBody=true->
  ∃q c i ex,BI 1000 g ts st.vars e=some q/\Jo q.2.1 c/\fin q.2.1/\c.want=(if L.query then 5 else 0)/\c.stk=[]/\c.err=0/\c.query=L.query/\q.2.1.length<ts.length/\q.2.1=ts.drop i/\q.1=e++ex/\
   takes (ts.take i) st=PA st st.head (st.body++ex) q.2.2:=by
 intro g
 induction g with
 |zero=>
  intro ts L e st s v n k
  cases ts with
  |nil=>exact k.elim
  |cons t ts=>simp at s
 |succ g V=>
  intro ts L e st s v n k E U hb B h Q l;obtain⟨a,d,F,S,ha,hd,hl,D⟩:=Pc ts.length ts L 1000 st (Qe _) v n k Yo B Yo (S8 n E B);have R:(AS L).stk=[]:=by simp[AS,E,U]
  rw[R]at ha;have x:d.body=true:=by rw[ha.body,if_neg Yo];exact hb
  have A:Br st=[]:=by simp[Br,h,Q]
  rw[BI,S];simp only
  cases C:a.2.1 with
  |nil=>rw[C]at ha;exact ha.fin.elim
  |cons y W=>
   rw[C]at ha hl hd;simp only[Qf]at hl;simp only;rcases KF ha with⟨f,_,m,j,b⟩|⟨f,z,_⟩|⟨f,m,j,b⟩
   ·rw[if_neg Yo];have r:AT (D4 st a.1 a.2.2 d.want) (Bh y.kind) y.text={st with body:=st.body++[a.1],atom:=[],vars:=a.2.2,next:=1}:=by
     rw[f];simp[Op,AT,EB,AG,D4,h,l,A]
    obtain⟨q,G,i,ex,M,N,O,w,P,H,u,X,I,J,K⟩:=V W (Al d 44) (e++[a.1]) {st with body:=st.body++[a.1],atom:=[],vars:=a.2.2,next:=1} Yo Yo m j (by rw[b]) (by rw[b];exact ha.stk) (by rw[b];exact x) (by rw[b];exact ha.err) h rfl l;have T:(Al d 44).query=L.query:=by rw[b];exact ha.query
    rw[T]at w u;obtain⟨o,p⟩:=Ep hd.symm i st;refine⟨q,G,F+(1+i),a.1::ex,M,N,O,w,P,H,u,Yo,by rw[p];exact I,by rw[J];simp,?_⟩;rw[o,D,r,K];simp[PA]
   ·rw[x]at z;cases z
   ·rw[if_pos f];have r:AT (D4 st a.1 a.2.2 d.want) (Bh y.kind) y.text=PA st st.head (st.body++[a.1]) a.2.2:=by
     rw[f];simp[NS,AT,AE,AG,D4,h,l,A,PA]
    obtain⟨o,p⟩:=Ep hd.symm 0 st;refine⟨_,_,F+(1+0),[a.1],rfl,m,j,by rw[b,ha.query],by rw[b];exact ha.stk,by rw[b];exact ha.err,by rw[b];exact ha.query,by simp;omega,by rw[p];rfl,rfl,?_⟩;rw[o,D,r];rfl
structure Xf(st:RS):Prop where
 query:st.query=false
 next:st.next=0
 inb:st.inBody=false
 atom:st.atom=[]
 opn:st.opn=[]
 head:st.head=[]
 body:st.body=[]
 vars:st.vars=[]
theorem SL(ts:List BZ)(L:Bj)(st:RS)(R:ts.length<=1000)(ab:Jo ts L)(Y:fin ts)(K:L.want=0)(ac:L.stk=[])(X:L.err=0)(H:L.query=false)(aa:∀t r,ts=t::r->t.kind≠4)(d:Xf st):
  ∃c f i,Dn ts=some c/\Jo c.2 f/\fin c.2/\f.want=0/\f.stk=[]/\f.err=0/\f.query=false/\c.2.length<ts.length/\c.2=ts.drop i/\takes (ts.take i) st={st with clauses:=st.clauses++[c.1]}:=by
 obtain⟨a,e,M,G,ha,hd,hl,J⟩:=Pc ts.length ts L 1000 st (Qe _) R ab Y Yo X Yo aa;have Z:(AS L).stk=[]:=by simp[AS,K,ac]
 rw[Z]at ha;have W:e.body=false:=by rw[ha.body,if_pos K]
 have F:Br st=[]:=by simp[Br,d.opn,d.atom]
 have E:∀hd bd vs,PA st hd bd vs={st with clauses:=st.clauses++[⟨hd,bd,vs⟩]}:=by
  intro hd bd vs;obtain⟨o,p,s,u,v,w,x,z⟩:=d
  cases st
  simp only at o p s u v w x z;subst o p s u v w x z;rfl
 rw[d.vars]at G;rw[Dn,G];simp only
 cases I:a.2.1 with
 |nil=>rw[I]at ha;exact ha.fin.elim
 |cons y ad=>
  rw[I]at ha hl hd;simp only[Qf]at hl;simp only;rcases KF ha with⟨g,D,_⟩|⟨g,_,k,j,b⟩|⟨g,k,j,b⟩
  ·rw[W]at D;cases D
  ·rw[if_pos g];have n:AT (D4 st a.1 a.2.2 e.want) (Bh y.kind) y.text={st with head:=a.1,atom:=[],vars:=a.2.2,inBody:=true,next:=1}:=by
    rw[g];simp[Xi,AT,AG,D4,d.inb,F]
   obtain⟨q,N,i,ex,S,T,U,C,V,O,A,ae,P,B,Q⟩:=M8 1000 ad (Al e 3) [] {st with head:=a.1,atom:=[],vars:=a.2.2,inBody:=true,next:=1} Yo Yo k j (by rw[b]) (by rw[b];exact ha.stk) (by rw[b]) (by rw[b];exact ha.err) d.opn rfl rfl;have h:(Al e 3).query=false:=by rw[b];exact ha.query.trans H
   rw[h]at C A;rw[S];obtain⟨l,m⟩:=Ep hd.symm i st;refine⟨_,N,M+(1+i),rfl,T,U,by simpa using C,V,O,A,by simp;omega,by rw[m];exact P,?_⟩;rw[l,J,n,Q,<-E];simp only[Qz]at B;simp[PA,d.body,B]
  ·rw[if_neg Yo];have h:e.query=false:=ha.query.trans H;have n:AT (D4 st a.1 a.2.2 e.want) (Bh y.kind) y.text=PA st a.1 [] a.2.2:=by
    rw[g];simp[NS,AT,AE,AG,D4,d.opn,d.inb,d.body,F,PA]
   obtain⟨l,m⟩:=Ep hd.symm 0 st;refine⟨_,_,M+(1+0),rfl,k,j,by rw[b,h];rfl,by rw[b];exact ha.stk,by rw[b];exact ha.err,by rw[b];exact h,by simp;omega,by rw[m];rfl,?_⟩;rw[l,J,n,E];rfl
theorem O7:∀(g:Nat)(ts:List BZ)(L:Bj)(b:Lc)(st:RS),ts.length<=g->ts.length<=1000->Jo ts L->fin ts->L.want=0->L.stk=[]->L.err=0->L.query=false->Xf st->
  ∃cs i ex,C2 g ts b=some cs/\(∃t r,ts.drop i=t::r/\t.kind=4)/\cs=b++ex/\takes (ts.take i) st={st with clauses:=st.clauses++ex}:=by
 intro g
 induction g with
 |zero=>
  intro ts L b st h k m f
  cases ts with
  |nil=>exact f.elim
  |cons t ts=>simp at h
 |succ g D=>
  intro ts L b st h k m f C B y A a
  cases ts with
  |nil=>exact f.elim
  |cons t ts=>
   rw[C2]
   by_cases d:t.kind=4
   ·rw[if_pos d];exact⟨_,0,[],rfl,⟨t,ts,rfl,d⟩,Ys,by simp[takes]⟩
   ·rw[if_neg d];obtain⟨c,n,i,z,s,u,v,w,x,o,p,l,q⟩:=SL (t::ts) L st k m f C B y A (fun J I e=>by simp at e;rw[<-e.1];exact d) a;rw[z];simp only;simp only[Qf]at h k p;obtain⟨cs,j,ex,E,F,G,H⟩:=D c.2 n (b++[c.1]) {st with clauses:=st.clauses++[c.1]} Yo Yo s u v w x o ⟨a.query,a.next,a.inb,a.atom,a.opn,a.head,a.body,a.vars⟩;refine⟨cs,i+j,c.1::ex,E,?_,by rw[G];simp,?_⟩
    ·rw[<-List.drop_drop,<-l];exact F
    ·rw[List.take_add,I4,q,<-l,H];simp
theorem Sd{ts:List BZ}{e:BZ}(a:∀t∈ts,Fc t.kind)(h:∃t r,(ts++[e]).drop i=t::r/\t.kind=4):(ts++[e]).take i=ts:=by
 obtain⟨t,r,hd,b⟩:=h;rcases Nat.lt_trichotomy i ts.length with hi|hi|hi
 ·exfalso;rw[List.drop_append_of_le_length Yo,QC hi,Qy]at hd;simp only[QI]at hd;have:=a ts[i] (List.getElem_mem hi);rw[hd.1]at this;rcases this with h|h|h|h|h|h|h|h<;>omega
 ·subst hi;simp
 ·exfalso;rw[List.drop_eq_nil_of_le Yp]at hd;simp at hd
structure SB(st:RS):Prop where
 next:st.next<=5
 atom:st.atom.length<=30
 empty:st.next≠2->st.next≠3->st.next≠4->st.atom=[]
 head:st.head.length<=30
 body:∀l∈st.body,l.length<=30
 bodyn:st.body.length<=6
 inb:st.next=2\/st.next=3\/st.next=4->st.body.length<=5
 cls:∀c∈st.clauses,c.head.length<=30/\(∀l∈c.body,l.length<=30)/\c.body.length<=6
 clsn:st.clauses.length<=24
 clsb:st.next≠0->st.next≠5->st.clauses.length<=23
 fresh:st.next=0->st.body=[]
 an:∀s∈st.atom,s.name.length<=8
 hn:∀s∈st.head,s.name.length<=8
 bn:∀l∈st.body,∀s∈l,s.name.length<=8
 vn:∀x∈st.vars,x.length<=8
 cn:∀c∈st.clauses,(∀s∈c.head,s.name.length<=8)/\(∀l∈c.body,∀s∈l,s.name.length<=8)/\∀x∈c.names,x.length<=8
theorem SB.endAtom(h:SB st)(a:st.body.length<=5):(AG st).atom=[]/\(AG st).head.length<=30/\(∀l∈(AG st).body,l.length<=30)/\(AG st).body.length<=6/\(AG st).clauses=st.clauses/\(∀s∈(AG st).head,s.name.length<=8)/\(∀l∈(AG st).body,∀s∈l,s.name.length<=8)/\(AG st).vars=st.vars:=by
 unfold AG;split
 ·refine⟨rfl,h.head,?_,by simp;omega,rfl,h.hn,?_,rfl⟩
  ·intro l hl;simp at hl;rcases hl with hl|rfl
   ·exact h.body l hl
   ·exact h.atom
  ·intro l hl;simp at hl;rcases hl with hl|rfl
   ·exact h.bn l hl
   ·exact h.an
 ·exact⟨rfl,h.atom,h.body,by simpa using h.bodyn,rfl,h.an,h.bn,rfl⟩
theorem Ld(st:RS)(h:∀s∈st.atom,s.name.length<=8):∀s∈Br st,s.name.length<=8:=by
 unfold Br;split
 ·exact h
 ·intro s a;rw[List.mem_iff_getElem?]at a;obtain⟨i,hi⟩:=a;rw[List.getElem?_modify]at hi;simp only[Option.map_eq_map,Option.map_eq_some_iff]at hi;obtain⟨t,b,e⟩:=hi;have:=h t (Qh b);split at e
  ·rw[<-e];exact this
  ·rw[<-e];exact this
theorem SB.take{kd len:Nat}{t:Lu}(h:SB st)(k:Bi st kd len=0)(I:len=t.length):SB (AT st kd t):=by
 have a:=Hw k;obtain⟨J,K,_,_⟩:=HJ a h.next;have E:kd=1\/kd=2->Di st=false:=by
  intro b;unfold Bi at k;rw[if_neg (by simp[a])]at k;split at k
  ·omega
  ·rename_i v
   cases i:Di st with
   |false=>rfl
   |true=>exact absurd ⟨b,Or.inr i⟩ v
 have z:kd=1\/kd=2->t.length<=8:=by
  intro b;unfold Bi at k;rw[if_neg (by simp[a])]at k;split at k
  ·omega
  ·rename_i v;rcases QB 8 len with A|A
   ·exact absurd ⟨b,Or.inl A⟩ v
   ·omega
 have F:kd=1\/kd=2->st.next=0\/st.next=1\/st.next=2:=by
  intro b;unfold A2 at a;split at a
  ·omega
  ·split at a
   ·omega
   ·split at a
    ·rcases b with rfl|rfl
     ·simp[Bp]at a
     ·simp[Bp]at a
    ·split at a
     ·rcases b with rfl|rfl
      ·simp[Bp]at a
      ·simp[Bp]at a
     ·simp at a
 have G:¬(kd=1\/kd=2)->st.next=3\/st.next=4:=by
  intro b;unfold A2 at a;split at a
  ·simp at a;omega
  ·split at a
   ·simp at a;omega
   ·split at a
    ·omega
    ·split at a
     ·omega
     ·simp at a
 have add:(kd=1\/kd=2)->st.atom.length+1<=30/\st.body.length<=5/\st.clauses.length<=23:=by
  intro b;have i:=E b;unfold Di at i;rcases F b with h0|h0|h0
  ·rw[if_pos h0]at i;simp at i;have:=h.empty Yo Yo Yo;have hb:=h.fresh h0;exact⟨by simp[this],by simp[hb],Yo⟩
  ·rw[if_neg Yo,if_pos h0]at i;simp at i;have:=h.empty Yo Yo Yo;exact⟨by simp[this],Yo,h.clsb Yo Yo⟩
  ·rw[if_neg Yo,if_neg Yo,if_pos h0]at i;simp at i;exact⟨Yo,h.inb (Or.inl h0),h.clsb Yo Yo⟩
 have D:¬(kd=1\/kd=2)->st.body.length<=5/\st.clauses.length<=23:=fun b=>by
  have:=G b;exact⟨h.inb Yo,h.clsb Yo Yo⟩
 unfold AT;split
 ·rename_i b;obtain⟨B,l,m⟩:=add (Or.inl b);exact⟨Ys,by simp[Fr,IZ];omega,fun _ C=>absurd rfl C,h.head,h.body,h.bodyn,fun _=>l,h.cls,h.clsn,fun _ _=>m,fun e=>by simp at e,fun s a=>by
   simp only[Fr,Qk,List.mem_singleton]at a;rcases a with a|rfl
   ·exact Ld st h.an s a
   ·exact z (Or.inl b),h.hn,h.bn,h.vn,h.cn⟩
 ·split
  ·rename_i b;obtain⟨B,l,m⟩:=add (Or.inr b);have hb:(Br (Mg st t)).length=st.atom.length:=IZ _;exact⟨Ys,by simp[Fr,hb];omega,fun _ _ y=>absurd rfl y,h.head,h.body,h.bodyn,fun _=>l,h.cls,h.clsn,fun _ _=>m,fun e=>by simp at e,fun s a=>by
    simp only[Fr,Qk,List.mem_singleton]at a;rcases a with a|rfl
    ·exact Ld (Mg st t) h.an s a
    ·simp,h.hn,h.bn,fun x j=>by
    simp only[Fr,Mg,A8]at j;split at j
    ·exact h.vn x j
    ·rcases Qk.1 j with j|j
     ·exact h.vn x j
     ·simp at j;subst j;exact z (Or.inr b),h.cn⟩
  ·rename_i L M;obtain⟨b1,b2⟩:=D Yo;obtain⟨f,n,o,p,d,q,r,u⟩:=h.endAtom b1;split
   ·exact⟨Ys,h.atom,fun w=>absurd rfl w,h.head,h.body,h.bodyn,fun _=>b1,h.cls,h.clsn,fun _ _=>b2,fun e=>by simp at e,h.an,h.hn,h.bn,h.vn,h.cn⟩
   ·split
    ·exact⟨Ys,h.atom,fun _ _ y=>absurd rfl y,h.head,h.body,h.bodyn,fun _=>b1,h.cls,h.clsn,fun _ _=>b2,fun e=>by simp at e,h.an,h.hn,h.bn,h.vn,h.cn⟩
    ·split
     ·unfold EB;split
      ·exact⟨Ys,by simp[f],fun _ _ _=>f,n,o,p,fun h=>by simp at h,by rw[d];exact h.cls,by rw[d];exact h.clsn,fun _ _=>by rw[d];exact b2,fun e=>by simp at e,by simp[f],q,r,by rw[u];exact h.vn,by rw[d];exact h.cn⟩
      ·exact⟨Ys,h.atom,fun w=>absurd rfl w,h.head,h.body,h.bodyn,fun _=>b1,h.cls,h.clsn,fun _ _=>b2,fun e=>by simp at e,h.an,h.hn,h.bn,h.vn,h.cn⟩
     ·split
      ·exact⟨Ys,by simp[f],fun _ _ _=>f,n,o,p,fun h=>by simp at h,by rw[d];exact h.cls,by rw[d];exact h.clsn,fun _ _=>by rw[d];exact b2,fun e=>by simp at e,by simp[f],q,r,by rw[u];exact h.vn,by rw[d];exact h.cn⟩
      ·split
       ·have hn:(AE (AG st)).next=0\/(AE (AG st)).next=5:=by unfold AE;simp only;split<;>simp
        refine⟨Yo,by simp[AE,f],fun _ _ _=>by simp[AE,f],by simp[AE],by simp[AE],by simp[AE],fun _=>by simp[AE],?_,?_,fun h0 H=>by omega,fun _=>by simp[AE],by simp[AE,f],by simp[AE],by simp[AE],by simp[AE],?_⟩
        ·intro c g;simp only[AE,d,Qk,List.mem_singleton]at g;rcases g with g|rfl
         ·exact h.cls c g
         ·exact⟨n,o,p⟩
        ·simp[AE,d];omega
        ·intro c g;simp only[AE,d,Qk,List.mem_singleton]at g;rcases g with g|rfl
         ·exact h.cn c g
         ·exact⟨q,r,by rw[u];exact h.vn⟩
       ·exact h
theorem SB.run{e:Nat}:∀{ts:List BZ}{st:RS},SB st->(ET e ts st).1=0->SB (ET e ts st).2.2:=by
 intro ts
 induction ts with
 |nil=>intro st h _;unfold ET;split<;>exact h
 |cons t ts b=>
  intro st h h0;unfold ET at h0⊢;split at h0
  ·rename_i a;exact absurd h0 a
  ·rename_i a;rw[if_neg a];exact b (h.take (len:=t.text.length) Yo rfl) h0
theorem SB.start(q:Bool):SB ⟨q,if q then 1 else 0,q,[],[],[],[],[],[]⟩:=by
 cases q<;>exact⟨Ys,Ys,fun _ _ _=>rfl,Ys,Ys,Ys,fun _=>by simp,Ys,Ys,fun _ _=>by simp,fun _=>rfl,Ys,Ys,Ys,Ys,Ys⟩
theorem RN(n:Nat)(h:n<10):(⟨#[48,49,50,51,52,53,54,55,56,57,97,98,99,100,101,102,103,104,105,106,107,108,109,110,111,112,113,114,115,116,117,118,119,120,121,122]⟩:ByteArray).extract n (n+1)=⟨(Lib.decDigits n).toArray⟩:=by
 have:∀n,n<10->((⟨#[48,49,50,51,52,53,54,55,56,57,97,98,99,100,101,102,103,104,105,106,107,108,109,110,111,112,113,114,115,116,117,118,119,120,121,122]⟩:ByteArray).extract n (n+1)).data.toList=[UInt8.ofNat (48+n)]:=by decide+kernel
 apply ByteArray.ext;apply Array.ext';rw[this n h,Lib.decDigits,dif_pos h]
set_option maxRecDepth 20000 in
theorem Sc(n:Nat)(h:n<100)(a:¬n<10):(⟨#[48,48,48,49,48,50,48,51,48,52,48,53,48,54,48,55,48,56,48,57,49,48,49,49,49,50,49,51,49,52,49,53,49,54,49,55,49,56,49,57,50,48,50,49,50,50,50,51,50,52,50,53,50,54,50,55,50,56,50,57,51,48,51,49,51,50,51,51,51,52,51,53,51,54,51,55,51,56,51,57,52,48,52,49,52,50,52,51,52,52,52,53,52,54,52,55,52,56,52,57,53,48,53,49,53,50,53,51,53,52,53,53,53,54,53,55,53,56,53,57,54,48,54,49,54,50,54,51,54,52,54,53,54,54,54,55,54,56,54,57,55,48,55,49,55,50,55,51,55,52,55,53,55,54,55,55,55,56,55,57,56,48,56,49,56,50,56,51,56,52,56,53,56,54,56,55,56,56,56,57,57,48,57,49,57,50,57,51,57,52,57,53,57,54,57,55,57,56,57,57]⟩:ByteArray).extract (n*2) (n*2+2)=⟨(Lib.decDigits n).toArray⟩:=by
 have:∀n,n<100->((⟨#[48,48,48,49,48,50,48,51,48,52,48,53,48,54,48,55,48,56,48,57,49,48,49,49,49,50,49,51,49,52,49,53,49,54,49,55,49,56,49,57,50,48,50,49,50,50,50,51,50,52,50,53,50,54,50,55,50,56,50,57,51,48,51,49,51,50,51,51,51,52,51,53,51,54,51,55,51,56,51,57,52,48,52,49,52,50,52,51,52,52,52,53,52,54,52,55,52,56,52,57,53,48,53,49,53,50,53,51,53,52,53,53,53,54,53,55,53,56,53,57,54,48,54,49,54,50,54,51,54,52,54,53,54,54,54,55,54,56,54,57,55,48,55,49,55,50,55,51,55,52,55,53,55,54,55,55,55,56,55,57,56,48,56,49,56,50,56,51,56,52,56,53,56,54,56,55,56,56,56,57,57,48,57,49,57,50,57,51,57,52,57,53,57,54,57,55,57,56,57,57]⟩:ByteArray).extract (n*2) (n*2+2)).data.toList=[UInt8.ofNat (48+n/10),UInt8.ofNat (48+n%10)]:=by decide+kernel
 apply ByteArray.ext;apply Array.ext';rw[this n h,Lib.decDigits,dif_neg a,Lib.decDigits,dif_pos Yo];rfl
theorem LJ(n:Nat):Utf8.encode (65+(n:Int)%26)=⟨[UInt8.ofNat (65+n%26)].toArray⟩:=by
 have:∀m:Nat,m<26->(Utf8.encode (65+(m:Int))).data.toList=[UInt8.ofNat (65+m)]:=by decide+kernel
 rw[show(n:Int)%26=((n%26:Nat):Int) from by omega];apply ByteArray.ext;apply Array.ext';rw[this (n%26) Yo]
set_option maxRecDepth 20000 in
theorem Uq(n:Nat)(w:World)(h:n<100):Calls prog 122 #[Vi n] w fun e w'=>e= .returned (.string ⟨(Lib.decDigits n).toArray⟩)/\w'=w:=by
 by_cases a:n<10
 ·go_enter func122,ntmps122;go_wp2;go_ret;exact⟨DW (RN n a),rfl⟩
 ·go_enter func122,ntmps122;go_wp2;go_ret;exact⟨DW (Sc n h a),rfl⟩
theorem QY(n:Nat)(w:World)(h:n<100):Calls prog 95 #[Vi n,Vi 10] w fun e w'=>e= .returned (.string ⟨(Lib.decDigits n).toArray⟩)/\w'=w:=by
 go_enter func95,ntmps95;go_wp2_with fail;apply(Uq n _ h).mono;rintro e w' ⟨rfl,rfl⟩;go_wp2;go_ret;exact⟨rfl,rfl⟩
theorem T9(n:Nat)(w:World)(h:n<100):Calls prog 66 #[Vi n] w fun e w'=>e= .returned (.string ⟨(Lib.decDigits n).toArray⟩)/\w'=w:=by
 go_enter func66,ntmps66;go_wp2_with fail;apply(QY n _ h).mono;rintro e w' ⟨rfl,rfl⟩;go_wp2;go_ret;exact⟨rfl,rfl⟩
theorem Jb(n:Nat)(w:World)(h:n<100):Calls prog 41 #[Vi n] w fun e w'=>e= .returned (.string ⟨(Lib.decDigits n).toArray⟩)/\w'=w:=by
 go_enter func41,ntmps41;go_wp2_with fail;apply(T9 n _ h).mono;rintro e w' ⟨rfl,rfl⟩;go_wp2;go_ret;exact⟨rfl,rfl⟩
theorem PD(n:Nat)(w:World)(h:n<2600):Calls prog 174 #[Vi n] w fun e w'=>e= .returned (.string ⟨(CS n).toArray⟩)/\w'=w:=by
 by_cases a:n<26
 ·have hd:(n:Int)/26=0:=Yo
  go_enter func174,ntmps174;go_wp2;go_ret;refine⟨DW ((LJ n).trans ?_),rfl⟩;rw[CS,if_pos a,Nat.mod_eq_of_lt a]
 ·have hd:((n:Int)/26==0)=false:=by rw[Qu];omega
  go_enter func174,ntmps174;go_wp2_with fail;apply(Jb (n/26) _ Yo).mono;rintro e w' ⟨rfl,rfl⟩;have d:=Ec (n/26);have b:=LJ n;have c:=hd b;have f:(Utf8.encode (65+(n:Int)%26)).size=1:=by rw[b];rfl
  clear b;go_wp2;go_ret;refine⟨DW ?_,rfl⟩;show Utf8.encode (65+(n:Int)%26)++_=_;rw[c.o,Az,CS,if_neg a];rfl
def Hn(s:BL):Lu:=if s.name=[]then CS s.num else s.name
theorem LG(s:BL)(w:World)(h:s.num<2600):Calls prog 135 #[.agg #[.string ⟨s.name.toArray⟩,Vi s.num,Vi s.args]] w fun e w'=>e= .returned (.string ⟨(Hn s).toArray⟩)/\b w.hz w w':=by
 cases hn:s.name with
 |nil=>
  have a:Hd (Hn s=CS s.num):=by show _=_;simp[Hn,hn]
  clear hn;go_enter func135,d;go_wp2_with fail;apply(PD s.num _ h).mono;rintro e w' ⟨rfl,rfl⟩;go_wp2;go_ret;rw[a.o];exact⟨rfl,(b.refl _ _).alloc (Qe _) _⟩
 |f c r=>
  have a:Hd (Hn s=c::r):=by show _=_;simp[Hn,hn]
  clear hn;go_enter func135,d;go_wp2;go_ret;rw[a.o];exact⟨rfl,(b.refl _ _).alloc (Qe _) _⟩
def Iy(w:World)(b:Nat)(t:Nat×Nat×Nat):Prop:=w.heap[b]?=some (.cells #[.int .i64 t.1,.int .i64 t.2.1,.int .i64 t.2.2] 224 (0,0))
def C7(w:World)(b:Nat)(e p:Nat):Prop:=w.heap[b]?=some (.cells #[.int .i64 e,.int .i64 p] 91 (0,0))
theorem Iy.cells{t:Nat×Nat×Nat}(h:Iy w b t):b<w.hz/\w.cell? ⟨b,0,none⟩=some (Vi t.1)/\w.cell? ⟨b,1,none⟩=some (Vi t.2.1)/\w.cell? ⟨b,2,none⟩=some (Vi t.2.2)/\∀i,w.frozen? ⟨b,i,none⟩=false:=
 ⟨Ab h,Aa h 0 _ rfl,Aa h 1 _ rfl,Aa h 2 _ rfl,fun i=>Ae h i⟩
theorem C7.cells{e:Nat}(h:C7 w b e p):b<w.hz/\w.cell? ⟨b,0,none⟩=some (Vi e)/\w.cell? ⟨b,1,none⟩=some (Vi p)/\∀i,w.frozen? ⟨b,i,none⟩=false:=
 ⟨Ab h,Aa h 0 _ rfl,Aa h 1 _ rfl,fun i=>Ae h i⟩
theorem Iy.held{t:Nat×Nat×Nat}(h:Iy w b t)(a:Dp B w w'):Iy w' b t:=(a.other b _ _ _ h (Or.inl rfl)).trans h
theorem C7.held{e:Nat}(h:C7 w b e p)(a:Dp B w w'):C7 w' b e p:=(a.other b _ _ _ h (Or.inr rfl)).trans h
theorem Iy.kept{t:Nat×Nat×Nat}(h:Iy w b t)(a:Ad S w w')(c:¬S b):Iy w' b t:=(a.block b (Ab h) c).trans h
theorem C7.kept{e:Nat}(h:C7 w b e p)(a:Ad S w w')(c:¬S b):C7 w' b e p:=(a.block b (Ab h) c).trans h
theorem Ad.untouched(h:Below w.hz w w'):Ad A4 w w':=⟨h.os,h.tape,h.output,h.size,fun k a _=>h.block k a⟩
theorem B1.fresh(h:B1 w B rb st)(c:Ad A4 w w'):B1 w' B rb st:=by
 obtain⟨V,a,b,vs,xs,h⟩:=h;exact⟨V,a,b,vs,xs,h.fresh c⟩
theorem B1.aside{cs:Av}{T:TypeId}(h:B1 w B rb st)(hb:w.heap[k]?=some (.cells cs T fr))(z:T=224\/T=91)(j:Ad (only k) w w'):B1 w' B rb st:=by
 obtain⟨V,d,C,vs,xs,h⟩:=h;have H:rb≠k:=fun e=>by
  have f:=h.blk;rw[e,hb]at f;simp only[Qo,Obj.cells.injEq]at f;rcases z with b|b<;>exact absurd (f.2.1.symm.trans b) Yd
 have a:∀{u:Nat}{e:TypeId}{s n:Nat}{v:Value}{A:Lv},w.ownsRow u e s v n A->e≠224->e≠91->w'.ownsRow u e s v n A:=fun t b p=>
  j.owns t (fun i hi e=>by
   have e:i=k:=e;subst e;rcases z with rfl|rfl
   ·exact Ai t b hb hi
   ·exact Ai t p hb hi)
 have q:∀{v:Value}{l:Ly},D0 w B d v l->D0 w' B d v l:=fun g=>⟨a g.1 Yd Yd,g.2⟩;have y:∀{v:Value}{ls:Ll}{m:Lv},Cp w B d v ls m->Cp w' B d v ls m:=fun g=>⟨a g.1 Yd Yd,fun i l hl=>by
  obtain⟨x,b,p⟩:=g.2 i l hl;exact⟨x,b,q p⟩⟩
 have r:=h.rest;exact⟨V,d,C,vs,xs,(j.block rb (Ab h.blk) H).trans h.blk,⟨a r.atom Yd Yd,a r.opn Yd Yd,a r.vars Yd Yd,q r.head,y r.body,
  ⟨a r.cls.1 Yd Yd,r.cls.2.1,r.cls.2.2.1,fun i c G=>by
   obtain⟨I,D,J,m,f,E,F,o⟩:=r.cls.2.2.2 i c G;exact⟨I,D,J,m,f,q E,y F,o.1,a o.2.1 Yd Yd,o.2.2⟩⟩,r.ta,r.tb,r.tv,Qq r.la j.size,Qq r.lb j.size⟩,h.le⟩
theorem B1.le(h:B1 w B rb st):B<=w.hz:=by
 obtain⟨V,a,b,vs,xs,h⟩:=h;have:=h.le;have:=Ab h.blk;omega
theorem B1.look(h:B1 w B rb st):∃V,Fk w B rb st V:=by
 obtain⟨V,a,b,vs,xs,h⟩:=h;exact⟨V,h.opens⟩
theorem G0{c g:Nat}(f:B1 wr B rb st)(e:C7 wr b c g)(a:B<=b)(d:Below B w wr)(x y:Value):
  B1 ((wr.setCell ⟨b,0,none⟩ x).setCell ⟨b,1,none⟩ y) B rb st/\Below B w ((wr.setCell ⟨b,0,none⟩ x).setCell ⟨b,1,none⟩ y):=
 ⟨f.aside e (Or.inr rfl) (((Ad.refl (only b) wr).put 0 x).put 1 y),(d.setCell (p:=⟨b,0,none⟩) a x).setCell (p:=⟨b,1,none⟩) a y⟩
theorem H3(w:World)(B i:Nat)(st:RS)(s:ByteArray)(h:B1 w B i st)(hi:RI 0 st)(ci:s.size<=4000):
  Calls prog 98 #[Pt i,.string s] w fun e w'=>
   e= .returned (.agg #[Vi (ET s.size (C4 s.data.toList 0) st).1,Vi (ET s.size (C4 s.data.toList 0) st).2.1])/\B1 w' B i (ET s.size (C4 s.data.toList 0) st).2.2/\Below B w w':=by
 obtain⟨bp,Y⟩:=Ex (ET s.size (C4 s.data.toList 0) st);rw[<-Y];have ap:=h.le;have bb:=hd Y;have a9:=hd h;have bj:=hd hi;clear h hi Y;go_enter func98,ntmps98;go_wp2_with fail;apply(Pz s 0 _ Yo (Qm _)).mono;rintro e w1 ⟨rfl,aa⟩;have aq:C7 (w.alloc (.cells #[Vi 0,Vi 0] 91)) w.hz 0 0:=QL w _;have ab:Ad A4 w w1:=((Ad.refl _ w).alloc _).trans (Ad.untouched aa);have ag:=hd (aq.kept (Ad.untouched aa) (fun h=>h));have ba:=hd (a9.o.fresh ab);have af:=hd (ab.below ap (fun _ h=>h.elim));have cc:w.hz<w1.hz:=Ab ag.o;clear aq ab aa;go_wp2
 go_loopg [] (s.size+1) (fun gk wr=>∃(n:Nat)(b:RS),n<=s.size/\s.size-n<gk/\Iy wr w1.hz (HX s n)/\C7 wr w.hz 0 0/\B1 wr B i b/\RI n b/\ET s.size (C4 (s.data.toList.drop n) n) b=bp/\Below B w wr)
 case atStart=>
  refine⟨0,st,Qm _,Yo,QL w1 _,ag.o.kept ((Ad.refl A4 w1).alloc _) (fun h=>h),ba.o.fresh ((Ad.refl _ w1).alloc _),bj.o,?_,af.o.alloc (Qq ap af.o.size) _⟩;rw[bb.o];rfl
 case round=>
  obtain⟨n,b,hn,ca,f,u,g,F,a,N⟩:=hrel;obtain⟨ch,am,L,an,_,cf⟩:=g.cells;obtain⟨Z,y,z,A⟩:=u.cells;have bw:=F.next;have bu:¬w.hz=w1.hz:=Yo
  have cg:¬i=w.hz:=fun e=>by
   obtain⟨V,b4,b5,vs,xs,h⟩:=g;have ao:=h.blk;rw[e,u]at ao;simp at ao
  rcases UD s n hn with⟨E,G⟩|⟨t,q,E,G,aw,cd,ce,ay,a1,a0⟩
  ·rw[E]at f;rw[G,ET]at a;obtain⟨bv,x,H,I,ae⟩:=f.cells;simp only at x H I;have l:=hd g;have k:=hd u;have j:=hd N;clear f u g F G E N
   by_cases h0:b.next=0
   ·rw[if_neg Yo]at a;rw[h0]at L;have d:=hd a;clear a h0;go_wp2;refine bodyPost_ret (v:= .agg #[Vi 0,Vi 0]) (by simp[results,results98,go_sem,y,z,A,Z]) rfl ?_;rw[<-d.o];exact⟨rfl,G0 l.o k.o Yo j.o _ _⟩
   ·by_cases M:b.next=5
    ·rw[if_neg Yo]at a;rw[M]at L;have d:=hd a;clear a h0 M;go_wp2;refine bodyPost_ret (v:= .agg #[Vi 0,Vi 0]) (by simp[results,results98,go_sem,y,z,A,Z]) rfl ?_;rw[<-d.o];exact⟨rfl,G0 l.o k.o Yo j.o _ _⟩
    ·rw[if_pos ⟨h0,M⟩]at a;have b6:((b.next:Int) !=0)=true:=by rw[bne_iff_ne];omega
     have b7:((b.next:Int) !=5)=true:=by rw[bne_iff_ne];omega
     have d:=hd a;clear a h0 M;go_wp2;refine bodyPost_ret (v:= .agg #[Vi 2,Vi s.size]) (by simp[results,results98,go_sem,y,z,A,Z]) rfl ?_;rw[<-d.o];exact⟨rfl,G0 l.o k.o Yo j.o _ _⟩
  ·rw[E]at f;rw[G,ET,a0]at a;obtain⟨bv,x,H,I,ae⟩:=f.cells;simp only at x H I;obtain⟨kd,ac⟩:=Ex (Bh t.kind);rw[<-ac]at f x a;have cb:1<=kd:=by
    rw[ac];rcases aw with h|h|h|h|h|h|h|h<;>rw[h]<;>decide
   have b9:((kd:Int) !=0)=true:=by rw[bne_iff_ne];omega
   obtain⟨V,ax⟩:=g.look;have R:=hd (T3 wr B i b V kd t.pos q ax (F.bd Yo) bw Yo Yo);have l:=hd g;have k:=hd u;have aj:=hd f;have j:=hd N;have ai:=hd F;have bo:=hd a1;clear f u g F G E N ax a1 aw ac a0
   by_cases r:Bi b kd (q-t.pos)=0
   ·rw[if_neg (by simp[r])]at a;have ad:=Hw r;have d:=hd a;have bc:=hd (ai.o.takes Yo ad);have bn:=hd ((ai.o.take t.text ad).at (m:=q) Yo);rw[r]at R;clear a r ad;go_wp2_with fail;apply R.o.mono;rintro e w2 ⟨rfl,c⟩;have U:=hd (l.o.fresh c);have J:=hd (k.o.kept c (fun h=>h));have K:=hd (aj.o.kept c (fun h=>h));have S:=hd (j.o.trans (c.below Yo (fun _ h=>h.elim)));obtain⟨b1,O,P,Q,a2⟩:=K.o.cells;simp only at O P Q;have cj:=c.size;clear c x H I ae am L an cf y z A;go_wp2_with fail
    go_region_with (first
     | (go_at_call 133;refine(RZ s kd t.pos q _ ?_ ?_ ?_).mono ?_;(· omega);(· omega);(· omega);rintro e w3 ⟨rfl,C⟩;rw[bo.o];have bl:=hd (U.o.fresh (((Ad.refl A4 w2).drewN 1).trans C));have bg:=hd (J.o.kept (((Ad.refl A4 w2).drewN 1).trans C) (fun h=>h));have ak:=hd (K.o.kept (((Ad.refl A4 w2).drewN 1).trans C) (fun h=>h));obtain⟨cm,a3,a4,a5,b2⟩:=ak.o.cells;simp only at a3 a4 a5;have bk:=hd C;clear C)
     | (go_at_call 132;apply(U8 _ B i b kd t.text bl.o bc.o).mono;rintro e w4 ⟨rfl,az,av⟩;have ah:=hd az;have T:=hd av;clear az av))
    all_goals
     have au:Below B w w4:=(S.o.trans (Ad.below (((Ad.refl A4 w2).drewN 1).trans bk.o) Yo (fun _ h=>h.elim))).trans T.o.below;have bh:=hd (bg.o.held T.o);have al:=hd (ak.o.held T.o);obtain⟨cn,a6,a7,a8,b3⟩:=al.o.cells;simp only at a6 a7 a8;have be:=hd au;clear au O P Q a2 a3 a4 a5 b2;go_wp2_with fail;apply(Pz s q _ Yo ay).mono;rintro e w5 ⟨rfl,ar⟩;have D:=Ad.untouched ar;have W:=hd (al.o.kept D (fun h=>h));have bi:=hd (bh.o.kept D (fun h=>h));have bm:=hd (ah.o.fresh D);have bf:=hd (be.o.trans (D.below ah.o.le (fun _ h=>h.elim)));obtain⟨ck,bx,bz,b0,cl⟩:=W.o.cells;simp only at bx bz b0;clear D ar a6 a7 a8 b3;go_wp2
     go_roundg (s.size-q+1)
     case measure=>omega
     case rel=>
      have X:B<=w1.hz:=Yo
      refine⟨q,AT b kd t.text,ay,Yo,?_,?_,?_,bn.o,d.o,?_⟩
      ·unfold Iy;rw[Af (Af (Af W.o 0 _) 1 _) 2 _];rfl
      ·exact bi.o.kept ((((Ad.refl (only w1.hz) w5).put 0 _).put 1 _).put 2 _) (fun e=>bu e)
      ·exact bm.o.aside W.o (Or.inl rfl) ((((Ad.refl (only w1.hz) w5).put 0 _).put 1 _).put 2 _)
      ·exact((bf.o.setCell (p:=⟨w1.hz,0,none⟩) X _).setCell (p:=⟨w1.hz,1,none⟩) X _).setCell (p:=⟨w1.hz,2,none⟩) X _
   ·rw[if_pos r]at a;have b8:((Bi b kd (q-t.pos):Int) !=0)=true:=by rw[bne_iff_ne];omega
    have d:=hd a;clear a r;go_wp2_with fail;apply R.o.mono;rintro e w2 ⟨rfl,c⟩;have U:=hd (l.o.fresh c);have J:=hd (k.o.kept c (fun h=>h));have K:=hd (aj.o.kept c (fun h=>h));have S:=hd (j.o.trans (c.below Yo (fun _ h=>h.elim)));obtain⟨b1,O,P,Q,a2⟩:=K.o.cells;simp only at O P Q;obtain⟨bs,bq,br,bt⟩:=J.o.cells;clear c x H I ae am L an cf y z A;go_wp2;refine bodyPost_ret (v:= .agg #[Vi (Bi b kd (q-t.pos)),Vi t.pos]) (by simp[results,results98,go_sem,bq,br,bt,bs]) rfl ?_;rw[<-d.o];exact⟨rfl,G0 U.o J.o Yo S.o _ _⟩
def Bm:List Nat->Lu×List Nat
 |[]=>([],[])
 |n::r=>if 1<n then([44],(n-1)::r)else(41::(Bm r).1,(Bm r).2)
def A3:Ly->List Nat->Lu
 |[],_=>[]
 |s::r,miss=>if 0<s.args then Hn s++40::A3 r (s.args::miss)else Hn s++((Bm miss).1++A3 r (Bm miss).2)
theorem Ig{a b c:Lu}(h:a++b=c):a.length+b.length=c.length:=by rw[<-h];simp
theorem GX(w:World)(B:Nat)(v:Value)(l:Ly)(c:w.ownsRow B 133 3 v l.length (Aq l))(hl:l.length<=4000)(hn:∀s∈l,s.num<2600/\s.args<=4096)(av:(A3 l []).length<=100000000):
  Calls prog 100 #[v] w fun e w'=>e= .returned (.string ⟨(A3 l []).toArray⟩)/\Below w.hz w w':=by
 obtain⟨t,K⟩:=Ex (A3 l []);rw[<-K]at av⊢;obtain⟨va,bw,rfl⟩:=Ac c;have aa:=hd c;have aj:=hd K;have am:=hd hn;clear c K hn;go_enter func100,bu;go_wp2
 go_loopg [3,4,10] (l.length+1) (fun gk ba a8 i wr=>∃(k:Nat)(d:Lu)(miss:List Nat),i=Vi k/\k<=l.length/\l.length-k<gk/\ba= .string ⟨d.toArray⟩/\d++A3 (l.drop k) miss=t/\
   wr.ownsRow w.hz 3 1 a8 miss.length (AM miss.reverse)/\Below w.hz w wr/\miss.length<=k/\∀m∈miss,1<=m/\m<=4096)
 case atStart=>exact⟨0,[],[],rfl,Qm _,Yo,rfl,by rw[aj.o];rfl,Q2 _ _ _ _,Below.refl _ _,Qm _,Ys⟩
 case round=>
  obtain⟨k,d,miss,rfl,ag,bi,rfl,u,F,x,a2,ah⟩:=hrel;obtain⟨bq,bs,rfl⟩:=Ac F;have a7:=x.size
  by_cases R:k<l.length
  ·obtain⟨s,q⟩:∃s,l[k]?=some s:=⟨_,Qb R⟩;have hd:l.drop k=s::l.drop (k+1):=by
    rw[QC R];rw[Qb R]at q;simp at q;rw[q]
   rw[hd,A3]at u;obtain⟨a6,a5⟩:=am.o s (Qh q);have c:=(Ad.untouched x).owns aa.o (fun _ _ h=>h);obtain⟨g,bb,bc,ae,bg,az,bh⟩:=An c Yo;simp only[QH]at ae;obtain⟨rfl,_,rfl⟩:=ae;have bj:g<w.hz:=(aa.o.lt g rfl).2;have ao:wr.cell? ⟨g,k*3,none⟩=some (.string ⟨s.name.toArray⟩):=Ag c _ _ (by have:=AV l k s q 0 Yo;rw[Nat.add_zero]at this;rw[this];rfl);have ap:wr.cell? ⟨g,k*3+1,none⟩=some (Vi s.num):=Ag c _ _ (by rw[AV l k s q 1 Yo];rfl);have aq:wr.cell? ⟨g,k*3+2,none⟩=some (Vi s.args):=Ag c _ _ (by rw[AV l k s q 2 Yo];rfl);have z:=hd u;have ak:=hd F;have H:=hd x;have Y:=hd ah;have Hd:=hd hd;clear u F x ah hd q c az;go_wp2_with fail;apply(LG s _ a6).mono;rintro e w1 ⟨rfl,L⟩;have O:Ad A4 wr w1:=((Ad.refl _ wr).alloc _).trans (Ad.untouched L);have M:w1.heap[wr.hz]?=some (.cells #[.string ⟨s.name.toArray⟩,Vi s.num,Vi s.args] 133 (0,0)):=(L.block _ Ys).trans (QL wr _);have b2:w1.cell? ⟨wr.hz,2,none⟩=some (Vi s.args):=Aa M 2 _ rfl;have bl:=Ab M;have J:=hd (O.owns ak.o (fun _ _ h=>h));have W:=hd (H.o.trans (O.below a7 (fun _ h=>h.elim)));have E:=Ig z.o;clear O M L ao ap aq
   by_cases ha:0<s.args
   ·have G:Hd (d++Hn s++[40]++A3 (l.drop (k+1)) (s.args::miss)=t):=by show _=_;rw[<-z.o,if_pos ha];simp
    rw[if_pos ha]at E;simp only[Qg,Qf]at E
    go_wp2_with (at_builtin;refine Am _ rfl (.tmp 23) (.tmp 26) 25 rfl w.hz 3 infoInt underlying25 rfl Yd _ miss.length (AM miss.reverse) rfl J.o _ rfl Ys rfl (DT _) ?_ ?_ ?_)
    ·omega
    ·omega
    intro bv w2 ad;have T:=hd ad;clear ad;go_wp2
    go_roundg (l.length-k)
    case measure=>omega
    case rel=>
     have a4:=T.o.owns;refine⟨k+1,d++Hn s++[40],s.args::miss,Yg,Yo,Yo,?_,G.o,?_,?_,by simp;omega,?_⟩
     ·show Value.string (_++_++(⟨[40].toArray⟩:ByteArray))=_;rw[Az,Az]
     ·simpa[AM]using a4
     ·refine W.o.trans (T.o.kept.below Yo (fun k ag=>(J.o.lt k ag).1))
     ·intro m a;simp only[Qp]at a;rcases a with rfl|a
      ·exact⟨ha,a5⟩
      ·exact Y.o m a
   ·have G:Hd (d++Hn s++((Bm miss).1++A3 (l.drop (k+1)) (Bm miss).2)=t):=by show _=_;rw[<-z.o,if_neg ha];simp
    rw[if_neg ha]at E;simp only[Qg]at E;go_wp2
    go_loopg [3,4] (miss.length+1) (fun ar ty a9 ai=>∃(f:Lu)(b:List Nat),b.length<ar/\ty= .string ⟨f.toArray⟩/\f++((Bm b).1++A3 (l.drop (k+1)) (Bm b).2)=t/\
     ai.ownsRow w.hz 3 1 a9 b.length (AM b.reverse)/\Below w.hz w ai/\b.length<=k/\∀m∈b,1<=m/\m<=4096)
    case atStart=>
     exact⟨d++Hn s,miss,Yo,congrArg Value.string (Az _ _),G.o,J.o,W.o,a2,Y.o⟩
    case round=>
     obtain⟨f,b,a0,rfl,A,j,y,a3,S⟩:=hrel;obtain⟨br,bt,rfl⟩:=Ac j;have bp:=y.size;have Q:=Ig A;simp only[Qg]at Q
     cases a:b with
     |nil=>
      have C:=hd A;have al:=hd j;have V:=hd y;have X:=hd a;have bm:b.length=0:=by rw[a];rfl
      clear A j y a;go_wp2
      go_roundg (l.length-k)
      case measure=>omega
      case rel=>
       refine⟨k+1,f,[],Yg,Yo,Yo,rfl,?_,?_,V.o,Ys,Ys⟩
       ·have h:=C.o;rw[X.o]at h;simpa[Bm]using h
       ·have h:=al.o;rw[X.o]at h;exact h
     |cons n r=>
      subst a;obtain⟨bn,bo⟩:=S n Ys;obtain⟨ac,be,bf,af,au,N,aw⟩:=An j Ys;simp only[QH]at af;obtain⟨rfl,_,rfl⟩:=af;simp only[Qf]at aw j a0 a3;have cg:wr.cell? ⟨ac,r.length,none⟩=some (Vi n):=Ag j r.length _ (by simp[AM]);have bd:=Ae N r.length;have bk:=Ab N;have ab:=hd (BY j r.length (Vi ((n:Int)-1)));have C:=hd A;have V:=hd y;have Z:=hd S;have U:=hd (y.setCell (p:=⟨ac,r.length,none⟩) au (Vi ((n:Int)-1)));clear A y S j N
      by_cases D:1<n
      ·have I:Hd (f++[44]++A3 (l.drop (k+1)) ((n-1)::r)=t):=by show _=_;rw[<-C.o];simp[Bm,D]
       have P:(Bm (n::r)).1.length=1:=by simp[Bm,D]
       rw[P]at Q;have ay:(0:Int)<(n:Int)-1:=Yo
       go_wp2
       go_roundg (l.length-k)
       case measure=>omega
       case rel=>
        have ax:(n:Int)-1=((n-1:Nat):Int):=Yo
        refine⟨k+1,f++[44],(n-1)::r,Yg,Yo,Yo,?_,I.o,?_,U.o,by simp;omega,?_⟩
        ·show Value.string (_++(⟨[44].toArray⟩:ByteArray))=_;rw[Az]
        ·have h:=ab.o;rw[ax]at h⊢;simpa[AM]using h
        ·intro m a;simp only[Qp]at a;rcases a with rfl|a
         ·omega
         ·exact Z.o m (by simp[a])
      ·have I:Hd (f++[41]++((Bm r).1++A3 (l.drop (k+1)) (Bm r).2)=t):=by show _=_;rw[<-C.o];simp[Bm,D]
       have P:(Bm (n::r)).1.length=(Bm r).1.length+1:=by simp[Bm,D]
       rw[P]at Q;have ay:¬(0:Int)<(n:Int)-1:=Yo
       have an:=hd (IW (n:=r.length) ab.o);go_wp2
       go_roundg (r.length+1)
       case measure=>omega
       case rel=>
        refine⟨f++[41],r,Yo,?_,I.o,?_,U.o,Yo,fun m a=>Z.o m (by simp[a])⟩
        ·show Value.string (_++(⟨[41].toArray⟩:ByteArray))=_;rw[Az]
        ·have h:=an.o;have e:((AM (n::r).reverse).set r.length (Vi ((n:Int)-1))).take r.length=AM r.reverse:=by
          simp[AM,List.take_set]
         rw[e]at h;exact h
  ·have a1:k=l.length:=Yo
   have z:Hd (d=t):=by
    show _=_;rw[a1,List.drop_eq_nil_of_le (Qe _)]at u;simpa[A3]using u
   have H:=hd x;clear u x F;go_wp2;go_ret;rw[<-z.o];exact⟨rfl,H.o⟩
end Go.Proofs.YtlmjilpjmgjjcaaGreatDoor
