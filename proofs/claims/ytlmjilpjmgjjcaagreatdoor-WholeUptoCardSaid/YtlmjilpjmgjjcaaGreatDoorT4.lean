/-
  PROVED HERE: plain facts on laying terms out in cells (no program, no memory; the conditions stand in each statement).
-/
import Derived.Test.YtlmjilpjmgjjcaaGreatDoorT3
set_option linter.unusedSimpArgs false
set_option linter.unusedVariables false
set_option maxRecDepth 10000
set_option maxHeartbeats 4000000
namespace Go.Proofs.YtlmjilpjmgjjcaaGreatDoor
open Go.RowKit
open _root_.Go.Proofs.Tryz
open Go.Value (int slice string agg pointer tuple)
open Go.IntKind (i64)
open Go.Ending (returned)
variable {w w' w1 w2 w0 wr:World}{k B b i p size cap M rb bW x:Nat}{v cv gv vv lv:Value}{xs ys vs:Lv}{X Y S:Np}{s:ByteArray}{t e:TypeId}{P:Program}{l:Ly}{ls ts:Ll}{ρ:Nat->Nat}{σ:Nat->Ly}{cs:Lc}{c:Db}{a:Ll×At}{ds r:Ln}{st:RS}{L:Bj}{G:Gr}{A:List Lu}
def IL(X:Np):Nat->World->Value->Value->Value->Ly->Prop
 |0,_,_,_,_,_=>False
 |f+1,w,a,b,c,l=>
  (∃n:Nat,a= .string ⟨#[]⟩/\b= .int .i64 n/\c= .slice none 0 0/\l=[⟨[],n,0⟩])\/
  (∃(nm:Lu)(ls:Ll)(xs:Lv),nm≠[]/\a= .string ⟨nm.toArray⟩/\b= .int .i64 0/\l=⟨nm,0,ls.length⟩::ls.flatten/\
   w.ownsRow 0 183 3 c ls.length xs/\(∀k,c.ownBlock=some k->¬X k)/\
   ∀(i:Nat)(l':Ly),ls[i]?=some l'->∃a' b' c',xs[i*3]?=some a'/\xs[i*3+1]?=some b'/\xs[i*3+2]?=some c'/\IL X f w a' b' c' l')
def CB(X:Np)(w:World)(a b c:Value)(l:Ly):Prop:=∃f,IL X f w a b c l
def Ed(X:Np)(w:World)(c:Value)(ls:Ll)(xs:Lv):Prop:=
 w.ownsRow 0 183 3 c ls.length xs/\(∀k,c.ownBlock=some k->¬X k)/\
   ∀(i:Nat)(l':Ly),ls[i]?=some l'->∃a' b' c',xs[i*3]?=some a'/\xs[i*3+1]?=some b'/\xs[i*3+2]?=some c'/\CB X w a' b' c' l'
theorem IL.mono:∀{f g:Nat}{w:World}{a b c:Value}{l:Ly},IL X f w a b c l->f<=g->IL X g w a b c l:=by
 intro f
 induction f with
 |zero=>intro g w a b c l h;exact h.elim
 |succ f x=>
  intro g w a b c l h z
  cases g with
  |zero=>omega
  |succ g=>
   rcases h with h|⟨nm,ls,xs,p,q,r,s,t,u,v⟩
   ·exact QG h
   ·refine QO ⟨nm,ls,xs,p,q,r,s,t,u,fun i y hl=> ?_⟩;obtain⟨d,e,j,k,m,n,o⟩:=v i y hl;exact⟨d,e,j,k,m,n,x o Yo⟩
theorem IL.len:∀{f:Nat}{w:World}{a b c:Value}{l:Ly},IL X f w a b c l->IL X l.length w a b c l:=by
 intro f
 induction f with
 |zero=>intro w a b c l h;exact h.elim
 |succ f v=>
  intro w a b c l h;rcases h with⟨n,d,e,g,rfl⟩|⟨nm,ls,xs,d,e,g,rfl,s,t,u⟩
  ·exact QG ⟨n,d,e,g,rfl⟩
  ·refine QO ⟨nm,ls,xs,d,e,g,rfl,s,t,fun i x hl=> ?_⟩;obtain⟨j,k,m,o,p,q,r⟩:=u i x hl;exact⟨j,k,m,o,p,q,(v r).mono (Be (Qh hl))⟩
theorem CB.o{a b c:Value}(h:CB X w a b c l):
  (∃n:Nat,a=string ⟨#[]⟩/\b=int i64 n/\c=Nl/\l=[⟨[],n,0⟩])\/
  (∃(nm:Lu)(ls:Ll)(xs:Lv),nm≠[]/\a=string ⟨nm.toArray⟩/\b=int i64 0/\l=⟨nm,0,ls.length⟩::ls.flatten/\Ed X w c ls xs):=by
 obtain⟨f,h⟩:=h
 cases f with
 |zero=>exact h.elim
 |succ f=>
  rcases h with h|⟨nm,ls,xs,q,r,s,t,u,v,x⟩
  ·exact QG h
  ·refine QO ⟨nm,ls,xs,q,r,s,t,u,v,fun i y hl=> ?_⟩;obtain⟨d,e,g,j,k,m,p⟩:=x i y hl;exact⟨d,e,g,j,k,m,f,p⟩
theorem CB.var(X:Np)(w:World)(n:Nat):CB X w (string ⟨#[]⟩) (int i64 n) Nl (vr n):=⟨1,QG ⟨n,rfl,rfl,rfl,rfl⟩⟩
theorem CB.name{nm:Lu}{c:Value}(hn:nm≠[])(h:Ed X w c ls xs):CB X w (string ⟨nm.toArray⟩) (int i64 0) c (⟨nm,0,ls.length⟩::ls.flatten):=by
 refine⟨ls.flatten.length+1,QO ⟨nm,ls,xs,hn,rfl,rfl,rfl,h.1,h.2.1,fun i l hl=> ?_⟩⟩;obtain⟨a,b,d,e,g,j,f,k⟩:=h.2.2 i l hl;exact⟨a,b,d,e,g,j,k.len.mono (Be (Qh hl))⟩
theorem IL.on:∀{f:Nat}{w w':World}{a b c:Value}{l:Ly},IL X f w a b c l->(∀k,k<w.heap.size->¬X k->Cz w k->w'.heap[k]?=w.heap[k]?/\¬Y k)->IL Y f w' a b c l:=by
 intro f
 induction f with
 |zero=>intro w w' a b c l h;exact h.elim
 |succ f z=>
  intro w w' a b c l h g;rcases h with h|⟨nm,ls,xs,t,u,v,x,d,j,y⟩
  ·exact QG h
  ·refine QO ⟨nm,ls,xs,t,u,v,x,Aj d (fun k e=>(g k (d.lt k e).2 (j k e) (Ay d k e)).1),fun k e=>(g k (d.lt k e).2 (j k e) (Ay d k e)).2,fun i A hl=> ?_⟩;obtain⟨m,n,o,p,q,r,s⟩:=y i A hl;exact⟨m,n,o,p,q,r,z s g⟩
theorem CB.on{a b c:Value}(h:CB X w a b c l)(d:∀k,k<w.heap.size->¬X k->Cz w k->w'.heap[k]?=w.heap[k]?/\¬Y k):CB Y w' a b c l:=by
 obtain⟨f,h⟩:=h;exact⟨f,h.on d⟩
theorem Ed.on{c:Value}(h:Ed X w c ls xs)(a:∀k,k<w.heap.size->¬X k->Cz w k->w'.heap[k]?=w.heap[k]?/\¬Y k):Ed Y w' c ls xs:=by
 refine⟨Aj h.1 (fun k e=>(a k (h.1.lt k e).2 (h.2.1 k e) (Ay h.1 k e)).1),fun k e=>(a k (h.1.lt k e).2 (h.2.1 k e) (Ay h.1 k e)).2,fun i n hl=> ?_⟩;obtain⟨b,d,f,g,j,l,m⟩:=h.2.2 i n hl;exact⟨b,d,f,g,j,l,m.on a⟩
theorem Ao.of(h:Ad A4 w w'):Ao w w':=h.below (Qe _) (fun _ e=>e.elim)
theorem CB.ext{a b c:Value}(h:CB X w a b c l)(e:Ao w w')(g:∀k,k<w.heap.size->Y k->X k):CB Y w' a b c l:=
 h.on (fun k d f _=>⟨e.block k d,fun i=>f (g k d i)⟩)
theorem Ed.ext{c:Value}(h:Ed X w c ls xs)(e:Ao w w')(d:∀k,k<w.heap.size->Y k->X k):Ed Y w' c ls xs:=
 h.on (fun k a b _=>⟨e.block k a,fun f=>b (d k a f)⟩)
theorem CB.shape{a b c:Value}(h:CB X w a b c l):∃(s:ByteArray)(n:Nat)(ca:Oa)(cl cc:Nat),a=string s/\b=int i64 n/\c=slice ca cl cc:=by
 rcases h.o with⟨n,rfl,rfl,rfl,_⟩|⟨nm,ls,xs,_,rfl,rfl,_,d⟩
 ·exact⟨_,_,_,_,_,rfl,rfl,rfl⟩
 ·obtain⟨a,e,rfl⟩:=Ab d.1;exact⟨_,0,_,_,_,rfl,rfl,rfl⟩
theorem CB.wf:∀(n:Nat){a b c:Value}{l:Ly},l.length<=n->CB X w a b c l->Wf 1 l:=by
 intro n
 induction n with
 |zero=>
  intro a b c l hl h;rcases h.o with⟨m,_,_,_,rfl⟩|⟨nm,ls,xs,_,_,_,rfl,_⟩<;>simp at hl
 |succ n k=>
  intro a b c l hl h;rcases h.o with⟨m,_,_,_,rfl⟩|⟨nm,ls,xs,f,_,_,rfl,j⟩
  ·exact LF m
  ·refine⟨Yo,fun e=>absurd e f,fun _=>rfl,?_⟩;have:=CU (ls:=ls) (fun s d=>by
    obtain⟨i,hi,rfl⟩:=Q8 d;obtain⟨p,q,r,_,_,_,g⟩:=j.2.2 i _ (Qb hi);have:=Be d;simp only[Qf]at hl;exact k Yo g)
   simpa using this
theorem Ed.wf{c:Value}(h:Ed X w c ls xs):∀l∈ls,Wf 1 l:=fun l hl=>by
 obtain⟨i,hi,rfl⟩:=Q8 hl;obtain⟨a,b,d,_,_,_,g⟩:=h.2.2 i _ (Qb hi);exact g.wf _ (Qe _)
theorem GS(h:ls[i]?=some l)(a:∀l∈ls,Wf 1 l):i<ls.length/\ls.drop i=l::ls.drop (i+1)/\l.length<=ls.flatten.length/\ls.length<=ls.flatten.length:=by
 obtain⟨hi,e⟩:=Qa.1 h;refine⟨hi,by rw[QC hi,e],Be (Qh h),?_⟩;exact BR (CU a)
theorem Ao.undrew{u:World}(h:Ao w.drew u):Ao w u:=⟨h.os,h.tape,h.output,h.size,h.block⟩
theorem Ao.up{u:World}(h:Ao w.drew u){p:Addr}{v:Value}(a:w.cell? p=some v):u.cell? p=some v:=(h.cell (World.block_lt_of_cell? w p a)).trans a
def cellsOf:Value->Av
 | .agg cs=>cs
 |_=>#[]
theorem G1{c d e:Value}(h:w.heap[b]?=some (.cells #[c,d,e] t (0,0)))(x y a:Value):
  (((w.setCell ⟨b,0,none⟩ x).setCell ⟨b,1,none⟩ y).setCell ⟨b,2,none⟩ a).heap[b]?=some (.cells #[x,y,a] t (0,0))/\Ad (fun k=>k=b) w (((w.setCell ⟨b,0,none⟩ x).setCell ⟨b,1,none⟩ y).setCell ⟨b,2,none⟩ a):=
 ⟨Ae (Ae (Ae h 0 x) 1 y) 2 a,(((Ad.refl (only b) w).put 0 x).put 1 y).put 2 a⟩
theorem By{a c d:Value}(h:w.heap[b]?=some (.cells #[a,c,d] t (0,0))):
  w.cell? ⟨b,0,none⟩=some a/\w.cell? ⟨b,1,none⟩=some c/\w.cell? ⟨b,2,none⟩=some d/\∀i,w.frozen? ⟨b,i,none⟩=false:=
 ⟨Aa h 0 _ rfl,Aa h 1 _ rfl,Aa h 2 _ rfl,fun i=>Ag h i⟩
def RT(Y:Np)(l:Ly):(Nat->Prop)->Value->World->Prop:=fun Z r u=>∃(s:ByteArray)(n:Nat)(ca:Oa)(cl cc:Nat),r= .agg #[.string s,.int .i64 n,.slice ca cl cc]/\CB (fun k=>Y k\/Z k) u (.string s) (.int .i64 n) (.slice ca cl cc) l
theorem CB.plan{d:Np}{u f:World}{a b c:Value}(h:CB (fun k=>Y k\/X k) u a b c l)(g:∀k,k<u.heap.size->¬X k->f.heap[k]?=u.heap[k]?)(i:∀k,k<u.heap.size->d k->X k):CB (fun k=>Y k\/d k) f a b c l:=
 h.on (fun k e hn _=>⟨g k e (fun hz=>hn (QO hz)),fun h=>hn (by
  rcases h with h|h
  ·exact QG h
  ·exact QO (i k e h))⟩)
theorem RT.stable:∀X b v u a,RT Y l X v u->(∀k,k<u.heap.size->¬X k->a.heap[k]?=u.heap[k]?)->u.heap.size<=a.heap.size->(∀k,k<u.heap.size->b k->X k)->RT Y l b v a:=by
 rintro X b v u a ⟨s,n,ca,cl,cc,rfl,h⟩ c _ d;exact⟨s,n,ca,cl,cc,rfl,h.plan c d⟩
theorem RT.of{d:Np}{a b c:Value}{u:World}(h:CB (fun k=>Y k\/d k) u a b c l):RT Y l d (agg #[a,b,c]) u:=by
 obtain⟨s,n,ca,cl,cc,rfl,rfl,rfl⟩:=h.shape;exact⟨s,n,ca,cl,cc,rfl,h⟩
theorem Mxt{w w':World}(h:Ad A4 w w':=by repeat'(first|with_reducible exact Ad.refl _ _|with_reducible apply Ad.drew|with_reducible apply Ad.drewN|with_reducible apply Ad.alloc|with_reducible refine Ad.setCell ?_ ?_ _|exact fun h=>absurd h (by simp<;>omega))):Ao w w':=Ao.of h
structure Rv(Y:Nat->Prop)(w:World)(B:Nat)(cv:Value)(n:Nat)(acc:List (List BJ))(xs:List Value):Prop where
 owns:w.ownsRow B 183 3 cv n xs
 len:acc.length=n
 all:∀(i:Nat)(l':List BJ),acc[i]?=some l'->∃a b c,xs[i*3]?=some a/\xs[i*3+1]?=some b/\xs[i*3+2]?=some c/\CB (fun k=>Y k\/Ak cv k) w a b c l'
theorem Rv.nil(Y:Np)(w:World)(B:Nat):Rv Y w B Nl 0 [] []:=⟨Q2 _ _ _ _,rfl,fun i a h=>by simp at h⟩
theorem Rv.step{w3 w4:World}{n:Nat}{cv':Value}{f:Ll}{a b c:Value}
  (h:Rv Y w B cv n f xs) (e:Ao w w1) (m:CB (fun k=>Y k\/Ak cv k) w1 a b c l) (ha:Ar w1 B 183 3 cv (n+1) (xs++[a,b,c]) cv' w3)
  (r:Ad Y w3 w4) (z:∀k,Y k->k<B):Rv Y w4 B cv' (n+1) (f++[l]) (xs++[a,b,c])/\Ad (fun k=>Y k\/Ak cv k) w1 w4:=by
 have u:Ad (fun k=>Y k\/Ak cv k) w1 w4:=(ha.kept.mono (fun _ _ e=>QO e)).then r (fun _ _ e=>QG e)
 have p:xs.length=n*3:=h.owns.1;have q:=h.len;have A:∀k,k<w1.heap.size->Ak cv' k->Ak cv k:=by
  intro k j s;rcases ha.where_ with o|⟨g,o,C⟩
  ·exact o.symm.trans s
  ·have:some g=some k:=o.symm.trans s;simp at this C;omega
 have t:∀{a b c:Value}{l:Ly},CB (fun k=>Y k\/Ak cv k) w1 a b c l->CB (fun k=>Y k\/Ak cv' k) w4 a b c l:=fun m=>
  m.on (fun k j hn _=>⟨u.block k j hn,fun d=>hn (by
   rcases d with d|d
   ·exact QG d
   ·exact QO (A k j d))⟩)
 refine⟨⟨?_,by simp[q],?_⟩,u⟩
 ·exact r.owns ha.owns (fun k j d=>by
   have I:=(ha.owns.lt k j).1;have J:=z k d;omega)
 ·intro i E hl;rcases QB i f.length with hi|hi
  ·rw[Qc hi]at hl;obtain⟨v,x,y,F,G,H,g⟩:=h.all i E hl;refine⟨v,x,y,?_,?_,?_,t (g.ext e (fun k _ h=>h))⟩
   ·rw[Qc Yo];exact F
   ·rw[Qc Yo];exact G
   ·rw[Qc Yo];exact H
  ·have D:i=f.length:=by
    have:i<(f++[l]).length:=(Qa.1 hl).1;simp at this;omega
   subst D;simp at hl;subst hl;rw[q];refine⟨a,b,c,?_,?_,?_,t m⟩
   ·rw[Qd Yo,p];simp
   ·rw[Qd Yo,p];simp
   ·rw[Qd Yo,p];simp
theorem Rv.row{n:Nat}{c:Ll}(h:Rv Y w B cv n c xs)(f:Ad Y w w')(d:∀k,X k->Y k)(p:∀k,Y k->k<B):Ed X w' cv c xs:=by
 have j:∀k,cv.ownBlock=some k->¬Y k:=fun k e b=>by
  have v:=(h.owns.lt k e).1;have x:=p k b;omega
 refine⟨h.len▸AI (f.owns h.owns j) (Qm _),fun k e a=>j k e (d k a),fun i r hl=> ?_⟩;obtain⟨l,m,o,s,t,u,g⟩:=h.all i r hl;exact⟨l,m,o,s,t,u,g.on (fun k q hn _=>⟨f.block k q (fun b=>hn (QG b)),fun a=>hn (QG (d k a))⟩)⟩
theorem Ar.under{w3:World}{n:Nat}{d:Value}(h:Ar w1 B e size v n xs d w3)(b:Ao w w1){N:Nat}(c:∀j,Ak v j->N<=j)(a:N<=w.heap.size)(i:Nat)(u:Value):
  Below N w (w3.setCell ⟨N,i,none⟩ u):=
 (b.mono a).trans (Ad.below (S:=fun j=>N<=j) ((h.kept.mono (fun j _ e=>c j e)).setCell (p:=⟨N,i,none⟩) (fun _=>Qe _) u) (Qq a b.size) (fun _ h=>h))
abbrev A7(X:Nat->Prop)(B n:Nat):Nat->Prop:=fun k=>X k\/(B<=k/\k<B+n)
theorem C7{n:Nat}(a:∀k,X k->k<w.heap.size)(k:Nat)(h:A7 X w.heap.size n k):k<w.heap.size+n:=by
 rcases h with h|h
 ·have:=a k h;omega
 ·omega
theorem Nc{a:Np}{n m:Nat}{b:Ll}(ha:Rv Y wr (w.heap.size+n) cv m b xs)(hz:∀k,a k->wr.heap.size<=k)(d:w.heap.size<=wr.heap.size)(k:Nat)(c:k<w.heap.size)(h:(A7 X w.heap.size n k\/Ak cv k)\/a k):X k:=by
 rcases h with((h|h)|h)|h
 ·exact h
 ·omega
 ·have:=(ha.owns.lt k h).1;omega
 ·have:=hz k h;omega
theorem L1{n m:Nat}{a:Ll}(ha:Rv Y wr (w.heap.size+n) cv m a xs)(b:∀k,X k->k<w.heap.size)(c:w.heap.size+n<=wr.heap.size)(k:Nat)(h:A7 X w.heap.size n k\/Ak cv k):k<wr.heap.size:=by
 rcases h with(h|h)|h
 ·have:=b k h;omega
 ·omega
 ·exact(ha.owns.lt k h).2
def TU(n:Nat):Prop:=∀(w:World)(X:Np)(a b c:Value)(l:Ly)(v:Nat)(ta tb tc:Value)(m:Ly),l.length<=n->CB X w a b c l->CB X w ta tb tc m->(∀k,X k->k<w.heap.size)->(ap (Br v m) l).length<=4000->
 Calls prog 204 #[.agg #[a,b,c],.agg #[.int .i64 v,ta,tb,tc]] w fun e w'=>∃a' b' c',e= .returned (.agg #[a',b',c'])/\Ao w w'/\CB X w' a' b' c' (ap (Br v m) l)
theorem W5(w:World)(X:Np)(n v:Nat)(ta tb g:Value)(m:Ly)(a:CB X w ta tb g m):
  Calls prog 204 #[agg #[string ⟨#[]⟩,int i64 n,Nl],agg #[int i64 v,ta,tb,g]] w fun e w'=>∃b c d,e=returned (agg #[b,c,d])/\Ao w w'/\CB X w' b c d (Br v m n):=by
 obtain⟨r,q,j,l,k,rfl,rfl,rfl⟩:=a.shape;have i:=Yh a;clear a
 by_cases f:n=v
 ·have p:((n:Int)==(v:Int))=true:=by rw[JF];omega
  have e:Br v m n=m:=by unfold Br;rw[QQ f]
  rw[e];go_enter func204,ntmps204;go_wp2;refine Jb (v:=agg #[string r,int i64 q,slice j l k]) (by simp[results,results204,go_sem]) rfl ?_;exact⟨_,_,_,rfl,Mxt,i.o.ext (Mxt) (fun _ _ h=>h)⟩
 ·have p:((n:Int)==(v:Int))=false:=by rw[Qu];omega
  have e:Br v m n=vr n:=by unfold Br;rw[QP f]
  rw[e];go_enter func204,ntmps204;go_wp2;refine Jb (v:=agg #[string ⟨#[]⟩,int i64 n,Nl]) (by simp[results,results204,go_sem]) rfl ?_;exact⟨_,_,_,rfl,Mxt,CB.var _ _ _⟩
theorem Wx(n:Nat)(av:TU n)(w:World)(X:Np)(nm:Lu)(bc:nm≠[])(c:Value)(ls:Ll)(xs:Lv)(v:Nat)(ta tb bi:Value)(m:Ly)
  (Q:Ed X w c ls xs) (P:CB X w ta tb bi m) (a2:∀k,X k->k<w.heap.size) (hn:ls.flatten.length<=n) (ct:(ap (Br v m) ls.flatten).length<=3999):
  Calls prog 204 #[agg #[string ⟨nm.toArray⟩,int i64 0,c],agg #[int i64 v,ta,tb,bi]] w fun e w'=>∃V W Z,e=returned (agg #[V,W,Z])/\Ao w w'/\CB X w' V W Z (⟨nm,0,ls.length⟩::ap (Br v m) ls.flatten):=by
 obtain⟨S,R,H,J,I,rfl,rfl,rfl⟩:=P.shape;obtain⟨ca,a1,rfl⟩:=Ab Q.1;have bf:=Q.wf;have b7:=P.wf _ (Qe _);have cz:ls.length<=ls.flatten.length:=BR (CU bf);have cq:=Fd (TB (v:=v) b7) ls.flatten;have B:nm.isEmpty=false:=by simpa using bc
 have bs:=Yh P;have au:=Yh Q;have br:=Yh av;have T:=Yh a2;clear P Q av a2;go_enter func204,ntmps204;go_wp2
 go_loopg [6] (ls.length+1) (fun gk i wr=>∃(k:Nat)(ad:Value)(an:Lv),i=int i64 k/\k<=ls.length/\ls.length-k<gk/\Ao w wr/\
   wr.heap[w.heap.size]?=some (.cells #[string ⟨nm.toArray⟩,int i64 0,slice ca ls.length a1] 183 (0,0))/\
   wr.heap[w.heap.size+1]?=some (.cells #[int i64 v,string S,int i64 R,slice H J I] 300 (0,0))/\
   wr.heap[w.heap.size+1+1]?=some (.cells #[string ⟨#[]⟩,int i64 0,Nl] 183 (0,0))/\
   wr.heap[w.heap.size+1+1+1]?=some (.cells #[string ⟨nm.toArray⟩,int i64 0,ad] 183 (0,0))/\
   Rv (A7 X w.heap.size 4) wr (w.heap.size+4) ad k ((ls.take k).map (ap (Br v m))) an)
 case atStart=>
  refine⟨0,Nl,[],Yg,Qm _,Yo,Mxt,?_,?_,?_,?_,by simpa using Rv.nil _ _ _⟩
  ·exact Ah (Ah (Ah (QL w _) _) _) _
  ·simpa using Ah (Ah (QL (w.alloc _) _) _) _
  ·simpa using Ah (QL ((w.alloc _).alloc _) _) _
  ·simpa using QL (((w.alloc _).alloc _).alloc _) _
 case round=>
  obtain⟨k,ad,an,rfl,a9,cv,a7,h0,x,K,ae,ag⟩:=hrel;obtain⟨l,q,rfl⟩:=Ab ag.owns;have b6:=Ac ae;obtain⟨ci,cj,bv,cf⟩:=By h0;have bw:wr.cell? ⟨w.heap.size+1,0,none⟩=some (int i64 v):=Aa x 0 _ rfl;have bx:wr.cell? ⟨w.heap.size+1,1,none⟩=some (string S):=Aa x 1 _ rfl;have bz:wr.cell? ⟨w.heap.size+1,2,none⟩=some (int i64 R):=Aa x 2 _ rfl;have b0:wr.cell? ⟨w.heap.size+1,3,none⟩=some (slice H J I):=Aa x 3 _ rfl;have y:=Yh a7;have bm:=Yh h0;have bn:=Yh x;have ao:=Yh K;have F:=Yh ae;have A:=Yh ag;clear a7 h0 x K ae ag
  by_cases bb:k<ls.length
  ·obtain⟨f,C⟩:∃f,ls[k]?=some f:=⟨_,Qb bb⟩;obtain⟨_,_,cy,_⟩:=GS C bf;obtain⟨V,W,Z,bj,bk,bl,ah⟩:=au.o.2.2 k f C;obtain⟨al,ai,aa,ac,ab,rfl,rfl,rfl⟩:=ah.shape;have E:=au.o.ext (Y:=X) y.o (fun _ _ h=>h);obtain⟨g,ck,cl,a8,cp,b4,cu⟩:=An E.1 Yo;simp only[QH]at a8;obtain⟨rfl,_,rfl⟩:=a8;have ce:wr.cell? ⟨g,k*3,none⟩=some (string al):=Af E.1 _ _ bj;have cg:wr.cell? ⟨g,k*3+1,none⟩=some (int i64 ai):=Af E.1 _ _ bk;have ch:wr.cell? ⟨g,k*3+2,none⟩=some (slice aa ac ab):=Af E.1 _ _ bl;have b2:(ap (Br v m) f).length<=4000:=by
    have x:ap (Br v m) f∈ls.map (ap (Br v m)):=Q0.2 ⟨f,Qh C,rfl⟩;have K:=Be x;rw[<-EH]at K;omega
   have bp:YH (∀G u,Ao wr.drew u->(∀k,G k->wr.heap.size<=k/\k<u.heap.size)->Calls prog 204 #[agg #[string al,int i64 ai,slice aa ac ab],agg #[int i64 v,string S,int i64 R,slice H J I]] u fun e am=>
     ∃r,e=returned r/\Ao u am/\RT (fun j=>A7 X w.heap.size 4 j\/Ak (slice l k q) j) (ap (Br v m) f) G r am):=fun G u d a3=>by
    have bg:Ao w u:=y.o.trans (d.undrew.mono y.o.size);have hz:=Nc (X:=X) A.o (fun k h=>(a3 k h).1) y.o.size;refine(br.o u _ _ _ _ f v _ _ _ m Yo (ah.ext bg hz) (bs.o.ext bg hz) ?_ b2).mono ?_
    ·rintro j (h|h)
     ·exact JM (L1 A.o T.o Yo j h) d.size
     ·exact(a3 j h).2
    ·rintro e am ⟨a,b,c,rfl,B,D⟩;exact⟨_,rfl,B,RT.of D⟩
   have bu:YH ((ls.take (k+1)).map (ap (Br v m))=(ls.take k).map (ap (Br v m))++[ap (Br v m) f]):=by
    show _=_;rw[QU,C];simp
   clear b4 E ah bj bk bl C;go_wp2_with fail;refine DL Yk [.pur (pointer (some ⟨w.heap.size,2,none⟩)),.pur (slice (some ⟨g,0,none⟩) ls.length a1),.pur (int i64 k),.pur (pointer (some ⟨g,k*3,none⟩)),
    .pur (agg #[string al,int i64 ai,slice aa ac ab]),.pur (agg #[int i64 v,string S,int i64 R,slice H J I]),.cal,.alo 183 #[string ⟨#[]⟩,int i64 0,Nl] 8 cellsOf,.sto 7] 6 Yk
    (RT (fun j=>A7 X w.heap.size 4 j\/Ak (slice l k q) j) (ap (Br v m) f)) 204 _ RT.stable bp.o ?_ rfl Yd ?_
   ·refine⟨fun vc β u d=> ?_,fun vc β u d=> ?_,fun vc β u d=> ?_,fun vc β u d=> ?_,fun vc β u d=> ?_,fun vc β u d=> ?_,fun vc β u=> ?_,fun vc β u=> ?_,?_,trivial⟩
    all_goals try simp[pa,Kd.val,go_sem,d.up bv,d.up ce,d.up cg,d.up ch,d.up bw,d.up bx,d.up bz,d.up b0,bb]
    all_goals try simp[pa,Kd.val,go_sem]
    rintro vc β G u t c3 s cs B ⟨s2,bh,aw,ay,ax,rfl,D⟩ hb;simp at B;obtain⟨rfl,rfl,rfl,rfl⟩:=B;obtain⟨q0,aj,ak,b8⟩:=By hb;refine⟨_,?_,G1 hb (string s2) (int i64 bh) (slice aw ay ax)⟩;simp[pa,Kd.val,go_sem,q0,aj,ak,b8]
   rintro vc β w1 z ⟨s2,bh,aw,ay,ax,rfl,be⟩ a5 _;have z:=z.undrew;have af:=(z.block _ b6).trans F.o;have bd:=(Ad.of_below z).owns A.o.owns (fun k a9 e=>by have:=(A.o.owns.lt k a9).2;omega);have b1:w1.cell? ⟨w.heap.size+1+1+1,2,none⟩=some (slice l k q):=Aa af 2 _ rfl;obtain⟨cr,a6⟩:=a5 7 _ _ _ _ rfl;obtain⟨q0,aj,ak,_⟩:=By a6;have c0:=z.size;have U:=Yh bd;have ar:=Yh z;have bt:=Yh be;have bo:=Yh af;clear bd z be af a5 a6;simp only[CD,pa,Kd.val,Ja,Act.put]
   go_wp2_with (at_builtin;refine Al _ rfl (.tmp 37) (.tmp 39) 146 rfl (w.heap.size+4) 183 infoTerm underlying146 rfl Yd _ k an rfl U.o _ rfl rfl rfl Gu ?_ ?_ ?_)
   ·omega
   ·omega
   intro cv' w3 L;obtain⟨az,a0,rfl⟩:=Ab L.owns;have b5:¬Ak (slice l k q) (w.heap.size+1+1+1):=fun e=>by have:=(U.o.lt _ e).1;omega
   have M:=(L.kept.block _ Yo b5).trans bo.o;have c1:w3.cell? ⟨w.heap.size+1+1+1,2,none⟩=some (slice l k q):=Aa M 2 _ rfl;have c2:∀i,w3.frozen? ⟨w.heap.size+1+1+1,i,none⟩=false:=fun i=>Ag M i;have bq:=Yh M;have aq:=Yh L;clear M L b1 q0 aj ak;go_wp2
   go_roundg (ls.length-k)
   case measure=>omega
   case rel=>
    obtain⟨a4,cx⟩:=A.o.step (w4:=w3.setCell ⟨w.heap.size+1+1+1,2,none⟩ (slice az (k+1) a0)) ar.o (bt.o.on (fun j cw hn _=>⟨rfl,fun h=>hn (QG h)⟩)) aq.o
     (Ad.setCell (Ad.refl _ w3) (p:=⟨w.heap.size+1+1+1,2,none⟩) (fun _=>QO (by simp only;omega)) _) (C7 T.o)
    rw[<-bu.o]at a4;have O:=aq.o.under (N:=w.heap.size+1+1+1) ar.o (fun j e=>by have:=(U.o.lt j e).1;omega) Yo 2 (slice az (k+1) a0);exact⟨k+1,_,_,Yg,Yo,Yo,y.o.trans (O.mono Yo),(O.block _ Yo).trans bm.o,(O.block _ Yo).trans bn.o,(O.block _ Yo).trans ao.o,Ae bq.o 2 _,a4⟩
  ·have cm:wr.cell? ⟨w.heap.size+1+1+1,0,none⟩=some (string ⟨nm.toArray⟩):=Aa F.o 0 _ rfl;have cn:wr.cell? ⟨w.heap.size+1+1+1,1,none⟩=some (int i64 0):=Aa F.o 1 _ rfl;have co:wr.cell? ⟨w.heap.size+1+1+1,2,none⟩=some (slice l k q):=Aa F.o 2 _ rfl;obtain⟨b9,cb,cc,cd⟩:=By ao.o;go_wp2;refine Jb (v:=agg #[string ⟨nm.toArray⟩,int i64 0,slice l k q]) (by simp[results,results204,go_sem,b9,cb,cc,cd]) rfl ?_;have b3:k=ls.length:=Yo
   subst b3;have ba:=(((Ad.refl (only (w.heap.size+1+1)) wr).put 0 (string ⟨nm.toArray⟩)).put 1 (int i64 0)).put 2 (slice l ls.length q);refine⟨_,_,_,rfl,y.o.trans (ba.below y.o.size (fun j e=>by have e:j=w.heap.size+1+1:=e;omega)),?_⟩;have D:=A.o.row (X:=X) (ba.mono (fun j _ e=>QO (by have e:j=w.heap.size+1+1:=e;omega))) (fun j h=>QG h) (C7 T.o);rw[QT]at D;have:=CB.name bc D;rw[<-EH]at this;simpa using this
theorem Jg:∀n,TU n:=by
 intro n
 induction n with
 |zero=>
  intro w X a b c l v ta tb d m hl h;have:=BR (h.wf _ (Qe _));omega
 |succ n q=>
  intro w X a b c l v ta tb d m hl h i p g;rcases h.o with⟨k,rfl,rfl,rfl,rfl⟩|⟨nm,ls,xs,f,rfl,rfl,rfl,j⟩
  ·have e:ap (Br v m) [⟨[],k,0⟩]=Br v m k:=IJ _ _;rw[e];exact W5 w X k v ta tb d m i
  ·have e:ap (Br v m) (⟨nm,0,ls.length⟩::ls.flatten)=⟨nm,0,ls.length⟩::ap (Br v m) ls.flatten:=by rw[Bu];simp[ED,f]
   rw[e]at g⊢;simp only[Qf]at hl g;exact Wx n q w X nm f c ls xs v ta tb d m j i p Yo Yo
def Pd(n:Nat):Prop:=∀(w:World)(X:Np)(a b c:Value)(l:Ly),l.length<=n->l.length<=4000->CB X w a b c l->
 Calls prog 205 #[.agg #[a,b,c]] w fun e w'=>e= .returned (.int .i64 l.length)/\Ao w w'
theorem Pc(n:Nat)(t:Pd n)(w:World)(X:Np)(F:ByteArray)(nv:Int)(c:Value)(ls:Ll)(xs:Lv)(j:Ed X w c ls xs)(hn:ls.flatten.length<=n)(hl:ls.flatten.length<=3999):
  Calls prog 205 #[agg #[string F,int i64 nv,c]] w fun e w'=>e=returned (int i64 ((ls.flatten.length+1:Nat):Int))/\Ao w w':=by
 obtain⟨ca,O,rfl⟩:=Ab j.1;have C:=j.wf;have ai:ls.length<=ls.flatten.length:=BR (CU C);have s:=Yh j;have M:=Yh t;clear j t;go_enter func205,ntmps205;go_wp2
 go_loopg [3,4] (ls.length+1) (fun gk m i wr=>∃(k q:Nat),i=int i64 k/\m=int i64 ((q+1:Nat):Int)/\q=(ls.take k).flatten.length/\k<=ls.length/\ls.length-k<gk/\Ao w wr/\
   wr.heap[w.heap.size]?=some (.cells #[string F,int i64 nv,slice ca ls.length O] 183 (0,0)))
 case atStart=>exact⟨0,0,Yg,Yg,Ys,Qm _,Yo,Mxt,QL w _⟩
 case round=>
  obtain⟨k,q,rfl,rfl,B,ag,af,y,h0⟩:=hrel;obtain⟨W,Z,aa,cf⟩:=By h0;have b:=Yh y;have J:=Yh h0;have S:=Ac h0;clear y h0;have aj:q<=ls.flatten.length:=by
   have h:=congrArg List.length (congrArg List.flatten (JT k ls));simp only[JB,Qg]at h;omega
  have r:=Yh B;clear B
  by_cases R:k<ls.length
  ·obtain⟨a,f⟩:∃a,ls[k]?=some a:=⟨_,Qb R⟩;obtain⟨_,_,ah,_⟩:=GS f C;obtain⟨T,U,V,G,H,I,l⟩:=s.o.2.2 k a f;obtain⟨E,D,u,x,v,rfl,rfl,rfl⟩:=l.shape;have d:=s.o.ext (Y:=X) b.o (fun _ _ h=>h);obtain⟨g,ab,ac,A,ad,Q,ae⟩:=An d.1 Yo;simp only[QH]at A;obtain⟨rfl,_,rfl⟩:=A;have ak:wr.cell? ⟨g,k*3,none⟩=some (string E):=Af d.1 _ _ G;have al:wr.cell? ⟨g,k*3+1,none⟩=some (int i64 D):=Af d.1 _ _ H;have am:wr.cell? ⟨g,k*3+2,none⟩=some (slice u x v):=Af d.1 _ _ I;have K:=Yh (M.o wr X (string E) (int i64 D) (slice u x v) a Yo Yo (l.ext b.o (fun _ _ h=>h)));have N:YH (q+a.length=(ls.take (k+1)).flatten.length):=by
    show _=_;rw[QU,f,r.o];simp
   clear Q d l G H I f;go_wp2_with fail;apply K.o.mono;rintro e w1 ⟨rfl,z⟩;have p:=Yh z;clear z;go_wp2
   go_roundg (ls.length-k)
   case measure=>omega
   case rel=>exact⟨k+1,q+a.length,Yg,Yg,N.o,Yo,Yo,b.o.trans (p.o.mono b.o.size),(p.o.block _ S).trans J.o⟩
  ·have P:k=ls.length:=Yo
   subst P;have L:YH (q=ls.flatten.length):=by have:=r.o;rw[QT]at this;exact this
   go_wp2;go_ret;exact⟨by rw[<-L.o];rfl,b.o⟩
theorem Gi:∀n,Pd n:=by
 intro n
 induction n with
 |zero=>
  intro w X a b c l hl _ h;have:=BR (h.wf _ (Qe _));omega
 |succ n d=>
  intro w X a b c l hl g h;rcases h.o with⟨k,rfl,rfl,rfl,rfl⟩|⟨nm,ls,xs,j,rfl,rfl,rfl,f⟩
  ·exact Pc n d w X _ _ Nl [] [] ⟨Q2 _ _ _ _,fun k e=>by simp[Value.ownBlock]at e,fun i m h=>by simp at h⟩ Ys Ys
  ·simp only[Qf]at hl g⊢;exact Pc n d w X _ _ c ls xs f Yo Yo
def LL(n:Nat):Prop:=∀(w:World)(X:Np)(a b c:Value)(l:Ly)(v:Nat),l.length<=n->l.length<=4000->CB X w a b c l->
 Calls prog 203 #[.int .i64 v,.agg #[a,b,c]] w fun e w'=>∃r:Bool,e= .returned (.bool r)/\Ao w w'/\(r=true↔Cf v l)
theorem RL(w:World)(n v:Nat):
  Calls prog 203 #[int i64 v,agg #[string ⟨#[]⟩,int i64 n,Nl]] w fun e w'=>∃r:Bool,e=returned (.bool r)/\Ao w w'/\(r=true↔Cf v (vr n)):=by
 by_cases a:n=v
 ·have b:((n:Int)==(v:Int))=true:=by rw[JF];omega
  go_enter func203,ntmps203;go_wp2;go_ret;exact⟨_,rfl,Mxt,by simp[Er,a]⟩
 ·have b:((n:Int)==(v:Int))=false:=by rw[Qu];omega
  go_enter func203,ntmps203;go_wp2;go_ret;exact⟨_,rfl,Mxt,by simp[Er];omega⟩
theorem R5(n:Nat)(x:LL n)(w:World)(X:Np)(nm:Lu)(aa:nm≠[])(c:Value)(ls:Ll)(xs:Lv)(v:Nat)(j:Ed X w c ls xs)(hn:ls.flatten.length<=n)(hl:ls.flatten.length<=3999):
  Calls prog 203 #[int i64 v,agg #[string ⟨nm.toArray⟩,int i64 0,c]] w fun e w'=>∃r:Bool,e=returned (.bool r)/\Ao w w'/\(r=true↔Cf v ls.flatten):=by
 obtain⟨ca,S,rfl⟩:=Ab j.1;have G:=j.wf;have aq:ls.length<=ls.flatten.length:=BR (CU G);have am:nm.isEmpty=false:=by simpa using aa
 have u:=Yh j;have P:=Yh x;clear j x;go_enter func203,ntmps203;go_wp2
 go_loopg [5] (ls.length+1) (fun gk i wr=>∃(k:Nat),i=int i64 k/\k<=ls.length/\ls.length-k<gk/\Ao w wr/\¬Cf v (ls.take k).flatten/\
   wr.heap[w.heap.size]?=some (.cells #[string ⟨nm.toArray⟩,int i64 0,slice ca ls.length S] 183 (0,0)))
 case atStart=>exact⟨0,Yg,Qm _,Yo,Mxt,by rintro⟨s,h,_⟩;simp at h,QL w _⟩
 case round=>
  obtain⟨k,rfl,ao,an,B,E,h0⟩:=hrel;obtain⟨af,ag,ah,cf⟩:=By h0;have a:=Yh B;have M:=Yh h0;have q:=Yh E;have ab:=Ac h0;clear B h0 E
  by_cases Z:k<ls.length
  ·obtain⟨b,d⟩:∃b,ls[k]?=some b:=⟨_,Qb Z⟩;obtain⟨_,_,ap,_⟩:=GS d G;obtain⟨ac,ad,ae,J,K,L,p⟩:=u.o.2.2 k b d;obtain⟨I,H,y,A,z,rfl,rfl,rfl⟩:=p.shape;have f:=u.o.ext (Y:=X) a.o (fun _ _ h=>h);obtain⟨g,ai,aj,D,ak,W,al⟩:=An f.1 Yo;simp only[QH]at D;obtain⟨rfl,_,rfl⟩:=D;have ar:wr.cell? ⟨g,k*3,none⟩=some (string I):=Af f.1 _ _ J;have au:wr.cell? ⟨g,k*3+1,none⟩=some (int i64 H):=Af f.1 _ _ K;have av:wr.cell? ⟨g,k*3+2,none⟩=some (slice y A z):=Af f.1 _ _ L;have N:=Yh (P.o wr X (string I) (int i64 H) (slice y A z) b v Yo Yo (p.ext a.o (fun _ _ h=>h)));have Q:YH (Cf v b->Cf v ls.flatten):=fun⟨s,T,U⟩=>⟨s,List.mem_flatten.2 ⟨b,Qh d,T⟩,U⟩;have R:YH (¬Cf v b->¬Cf v (ls.take (k+1)).flatten):=fun h=>by
    rw[QU,d];simp only[Option.toList_some,JB,Q4,QY,Qs,B7];rintro(m|m)
    ·exact q.o m
    ·exact h m
   clear W f p J K L d;go_wp2_with fail;apply N.o.mono;rintro e w1 ⟨r,rfl,C,F⟩;have l:=Yh C;have t:=Yh F;clear C F
   cases r
   ·go_wp2
    go_roundg (ls.length-k)
    case measure=>omega
    case rel=>exact⟨k+1,Yg,Yo,Yo,a.o.trans (l.o.mono a.o.size),R.o (fun h=>by simpa using t.o.2 h),(l.o.block _ ab).trans M.o⟩
   ·go_wp2;go_ret;exact⟨_,rfl,a.o.trans (l.o.mono a.o.size),by simp only[true_iff];exact Q.o (t.o.1 trivial)⟩
  ·have V:k=ls.length:=Yo
   subst V;have O:YH (¬Cf v ls.flatten):=by have:=q.o;rw[QT]at this;exact this
   go_wp2;go_ret;exact⟨_,rfl,a.o,by simp only[JQ,false_iff];exact O.o⟩
theorem Li:∀n,LL n:=by
 intro n
 induction n with
 |zero=>
  intro w X a b c l v hl _ h;have:=BR (h.wf _ (Qe _));omega
 |succ n p=>
  intro w X a b c l v hl j h;rcases h.o with⟨k,rfl,rfl,rfl,rfl⟩|⟨nm,ls,xs,f,rfl,rfl,rfl,g⟩
  ·exact RL w k v
  ·simp only[Qf]at hl j;apply(R5 n p w X nm f c ls xs v g Yo Yo).mono;rintro e w' ⟨r,rfl,i,m⟩;refine⟨r,rfl,i,m.trans ?_⟩;constructor
   ·rintro⟨s,h,d⟩;exact⟨s,QD _ h,d⟩
   ·rintro⟨s,h,d⟩;rcases Qp.1 h with rfl|h
    ·exact absurd d.1 f
    ·exact⟨s,h,d⟩
def RD(X:Np)(l m:Ly):(Nat->Prop)->Value->World->Prop:=fun Z r u=>∃(s:ByteArray)(n:Nat)(ca:Oa)(cl cc:Nat)(s':ByteArray)(n':Nat)(ca':Oa)(cl' cc':Nat)(q:Bool),
 r= .tuple #[.agg #[.string s,.int .i64 n,.slice ca cl cc],.agg #[.string s',.int .i64 n',.slice ca' cl' cc'],.bool q]/\(q=false->l=m)/\
 (q=true->∃x y,CB (fun k=>X k\/Z k) u (.string s) (.int .i64 n) (.slice ca cl cc) x/\CB (fun k=>X k\/Z k) u (.string s') (.int .i64 n') (.slice ca' cl' cc') y/\DW l m x y)
theorem RD.stable{m:Ly}:∀X b v u a,RD Y l m X v u->(∀k,k<u.heap.size->¬X k->a.heap[k]?=u.heap[k]?)->u.heap.size<=a.heap.size->(∀k,k<u.heap.size->b k->X k)->RD Y l m b v a:=by
 rintro X b v u a ⟨s,n,ca,cl,cc,w,t,e,g,f,q,rfl,h,i⟩ c _ d;refine⟨s,n,ca,cl,cc,w,t,e,g,f,q,rfl,h,fun r=> ?_⟩;obtain⟨x,y,j,o,p⟩:=i r;exact⟨x,y,j.plan c d,o.plan c d,p⟩
def L2(n:Nat):Prop:=∀(w:World)(X:Np)(a b c a' b' c':Value)(l m:Ly),l.length<=n->l.length<=4000->m.length<=4000->CB X w a b c l->CB X w a' b' c' m->(∀k,X k->k<w.heap.size)->
 Calls prog 202 #[.agg #[a,b,c],.agg #[a',b',c']] w fun e w'=>∃r,e= .returned r/\Ao w w'/\RD X l m (fun _=>False) r w'
theorem Gv{m:Ly}(a:Wf 1 l)(b:Wf 1 m)(h:l.head?≠m.head?):DW l m l m:=⟨⟨[],[],[],Ys,Ys⟩,a,b,h⟩
theorem FH(w:World)(X:Np)(s a:ByteArray)(n c:Nat)(ca d:Oa)(cl b cc f:Nat)(l m:Ly)(q:CB X w (string s) (int i64 n) (slice ca cl cc) l)(t:CB X w (string a) (int i64 c) (slice d b f) m)
  (u:DW l m l m) (y:(¬s.toList=a.toList)\/(s.toList=a.toList/\¬(cl:Int)=b)\/(s.toList=a.toList/\(cl:Int)=b/\a.toList=[]/\((n:Int) !=(c:Int))=true)):
  Calls prog 202 #[agg #[string s,int i64 n,slice ca cl cc],agg #[string a,int i64 c,slice d b f]] w fun e w'=>∃r,e=returned r/\Ao w w'/\RD X l m (fun _=>False) r w':=by
 have g:=Yh q;have i:=Yh t;have j:=Yh u;clear q t u;rcases y with p|⟨p,x⟩|⟨p,x,z,A⟩
 ·go_enter func202,ntmps202;go_wp2;go_region;go_wp2;refine Jb (v:=tuple #[agg #[string s,int i64 n,slice ca cl cc],agg #[string a,int i64 c,slice d b f],.bool true]) (by simp[results,results202,go_sem]) rfl ?_;refine⟨_,rfl,Mxt,s,n,ca,cl,cc,a,c,d,b,f,true,rfl,Ys,fun _=>⟨l,m,g.o.ext Mxt (fun k _ h=>by simpa using h),i.o.ext Mxt (fun k _ h=>by simpa using h),j.o⟩⟩
 ·go_enter func202,ntmps202;go_wp2;go_region;go_wp2;refine Jb (v:=tuple #[agg #[string s,int i64 n,slice ca cl cc],agg #[string a,int i64 c,slice d b f],.bool true]) (by simp[results,results202,go_sem]) rfl ?_;refine⟨_,rfl,Mxt,s,n,ca,cl,cc,a,c,d,b,f,true,rfl,Ys,fun _=>⟨l,m,g.o.ext Mxt (fun k _ h=>by simpa using h),i.o.ext Mxt (fun k _ h=>by simpa using h),j.o⟩⟩
 ·go_enter func202,ntmps202;go_wp2;go_region;go_wp2;refine Jb (v:=tuple #[agg #[string s,int i64 n,slice ca cl cc],agg #[string a,int i64 c,slice d b f],.bool true]) (by simp[results,results202,go_sem]) rfl ?_;refine⟨_,rfl,Mxt,s,n,ca,cl,cc,a,c,d,b,f,true,rfl,Ys,fun _=>⟨l,m,g.o.ext Mxt (fun k _ h=>by simpa using h),i.o.ext Mxt (fun k _ h=>by simpa using h),j.o⟩⟩
theorem Dx(l:Lu):(⟨l.toArray⟩:ByteArray).toList=l:=Ys
def A9(i:Nat):Value->Value
 | .tuple xs=>xs.getD i undef
 |_=>undef
theorem CB.boxes{d:Np}{n:Nat}{a b c:Value}(h:CB (fun k=>A7 X B n k\/d k) w a b c l)(f:Ad (fun k=>B<=k/\k<B+n) w w'):CB (fun k=>X k\/False) w' a b c l:=
 h.on (fun k g hn _=>⟨f.block k g (fun e=>hn (QG (QO e))),fun i=>hn (QG (QG (by simpa using i)))⟩)
theorem DW.under{m x y:Ly}(h:DW l m x y)(p a b:Ly):DW (p++l++a) (p++m++b) x y:=by
 obtain⟨q,e,f,c,d⟩:=h.ex;refine⟨⟨p++q,e++a,f++b,?_,?_⟩,h.wx,h.wy,h.ne⟩
 ·rw[c];simp
 ·rw[d];simp
theorem S8(n:Nat)(ay:L2 n)(w:World)(X:Np)(s d:ByteArray)(nv R:Nat)(c M:Value)(ls b:Ll)(xs df:Lv)(hd:BJ)(C:Ed X w c ls xs)(m:Ed X w M b df)(a8:∀k,X k->k<w.heap.size)
  (ai:ls.length=b.length) (hn:ls.flatten.length<=n) (hl:ls.flatten.length<=3999) (dz:b.flatten.length<=3999) (dh:s.toList=d.toList) (dj:¬d.toList=[]):
  Calls prog 202 #[agg #[string s,int i64 nv,c],agg #[string d,int i64 R,M]] w fun e w'=>∃r,e=returned r/\Ao w w'/\RD X (hd::ls.flatten) (hd::b.flatten) (fun _=>False) r w':=by
 obtain⟨ca,N,rfl⟩:=Ab C.1;obtain⟨l,O,rfl⟩:=Ab m.1;rw[<-ai]at m⊢;have c4:=C.wf;have c5:=m.wf;have av:=Yh C;have aw:=Yh m;have cd:=Yh ay;have b9:=Yh a8;have V:=Yh ai;clear C m ay a8 ai;go_enter func202,ntmps202;go_wp2
 go_loopg [7] (ls.length+1) (fun gk i wr=>∃(k:Nat),i=int i64 k/\k<=ls.length/\ls.length-k<gk/\Ao w wr/\ls.take k=b.take k/\
   wr.heap[w.heap.size]?=some (.cells #[string s,int i64 nv,slice ca ls.length N] 183 (0,0))/\
   wr.heap[w.heap.size+1]?=some (.cells #[string d,int i64 R,slice l ls.length O] 183 (0,0))/\
   wr.heap[w.heap.size+1+1]?=some (.cells #[string ⟨#[]⟩,int i64 0,Nl] 183 (0,0))/\
   wr.heap[w.heap.size+1+1+1]?=some (.cells #[string ⟨#[]⟩,int i64 0,Nl] 183 (0,0)))
 case atStart=>
  refine⟨0,Yg,Qm _,Yo,Mxt,rfl,?_,?_,?_,?_⟩
  ·exact Ah (Ah (Ah (QL w _) _) _) _
  ·simpa using Ah (Ah (QL (w.alloc _) _) _) _
  ·simpa using Ah (QL ((w.alloc _).alloc _) _) _
  ·simpa using QL (((w.alloc _).alloc _).alloc _) _
 case round=>
  obtain⟨k,rfl,c2,dy,be,bk,h0,C,m,E⟩:=hrel;obtain⟨ck,di,cm,cf⟩:=By h0;obtain⟨dp,dq,cn,dr⟩:=By C;obtain⟨co,af,ag,cp⟩:=By m;obtain⟨cq,cr,ct,cu⟩:=By E;have d3:=Ac E;have f:=Yh be;have b3:=Yh h0;have b4:=Yh C;have ar:=Yh m;have au:=Yh E;have W:=Yh bk;clear be h0 C m E bk
  by_cases aj:k<ls.length
  ·obtain⟨p,P⟩:∃p,ls[k]?=some p:=⟨_,Qb aj⟩;obtain⟨z,Q⟩:∃z,b[k]?=some z:=⟨_,Qb (V.o▸aj)⟩;obtain⟨_,bc,d0,_⟩:=GS P c4;obtain⟨_,bd,d1,_⟩:=GS Q c5;obtain⟨ci,cj,M,bt,bu,bv,ak⟩:=av.o.2.2 k p P;obtain⟨ap,am,Z,ab,aa,rfl,rfl,rfl⟩:=ak.shape;obtain⟨ci,cj,M,b0,b1,b2,al⟩:=aw.o.2.2 k z Q;obtain⟨s2,an,ac,ae,ad,rfl,rfl,rfl⟩:=al.shape;have K:=av.o.ext (Y:=X) f.o (fun _ _ h=>h);have bj:=aw.o.ext (Y:=X) f.o (fun _ _ h=>h);have F:=bj.1;rw[<-V.o]at F;obtain⟨g,dk,dm,bf,ds,c0,dw⟩:=An K.1 Yo;simp only[QH]at bf;obtain⟨rfl,_,rfl⟩:=bf;obtain⟨I,dl,dn,bg,dt,c1,dx⟩:=An F Yo;simp only[QH]at bg;obtain⟨rfl,_,rfl⟩:=bg;have bw:wr.cell? ⟨g,k*3,none⟩=some (string ap):=Af K.1 _ _ bt;have bx:wr.cell? ⟨g,k*3+1,none⟩=some (int i64 am):=Af K.1 _ _ bu;have bz:wr.cell? ⟨g,k*3+2,none⟩=some (slice Z ab aa):=Af K.1 _ _ bv;have bq:wr.cell? ⟨I,k*3,none⟩=some (string s2):=Af F _ _ b0;have br:wr.cell? ⟨I,k*3+1,none⟩=some (int i64 an):=Af F _ _ b1;have bs:wr.cell? ⟨I,k*3+2,none⟩=some (slice ac ae ad):=Af F _ _ b2;have b8:YH (∀B u,Ao wr.drew u->(∀k,B k->wr.heap.size<=k/\k<u.heap.size)->Calls prog 202 #[agg #[string ap,int i64 am,slice Z ab aa],agg #[string s2,int i64 an,slice ac ae ad]] u fun e aq=>
     ∃r,e=returned r/\Ao u aq/\RD (A7 X w.heap.size 4) p z B r aq):=fun B u a a9=>by
    have bl:Ao w u:=f.o.trans (a.undrew.mono f.o.size);have hz:∀k,k<w.heap.size->(A7 X w.heap.size 4 k\/B k)->X k:=fun k c2 h=>by
     rcases h with(h|h)|h
     ·exact h
     ·omega
     ·have:=(a9 k h).1;omega
    refine(cd.o u (fun k=>A7 X w.heap.size 4 k\/B k) _ _ _ _ _ _ p z Yo Yo Yo (ak.ext bl hz) (al.ext bl hz) ?_).mono ?_
    ·rintro j (h|h)
     ·have:=C7 b9.o j h;have:=a.size;simp only[World.drew]at this;omega
     ·exact(a9 j h).2
    ·rintro e aq ⟨r,rfl,D,s,n,ca,cl,cc,d,L,l,H,G,q,rfl,E,cv⟩;refine⟨_,rfl,D,s,n,ca,cl,cc,d,L,l,H,G,q,rfl,E,fun c3=> ?_⟩;obtain⟨x,y,cw,cx,cy⟩:=cv c3;exact⟨x,y,cw.ext (Jc _ _) (fun j _ h=>QG h),cx.ext (Jc _ _) (fun j _ h=>QG h),cy⟩
   have cg:YH (∀x y,DW p z x y->DW (hd::ls.flatten) (hd::b.flatten) x y):=fun x y h=>by
    have af:hd::ls.flatten=(hd::(ls.take k).flatten)++p++(ls.drop (k+1)).flatten:=by
     have:ls.flatten=(ls.take k).flatten++(ls.drop k).flatten:=by rw[<-JB,JT]
     rw[this,bc];simp
    have ag:hd::b.flatten=(hd::(ls.take k).flatten)++z++(b.drop (k+1)).flatten:=by
     have:b.flatten=(b.take k).flatten++(b.drop k).flatten:=by rw[<-JB,JT]
     rw[this,bd,W.o];simp
    rw[af,ag];exact h.under _ _ _
   have ce:YH (p=z->ls.take (k+1)=b.take (k+1)):=fun e=>by
    rw[QU,QU,P,Q,W.o,e]
   clear c0 c1 K bj F ak al bt bu bv b0 b1 b2 P Q bc bd;go_wp2_with fail;refine DL Yk [.pur (pointer (some ⟨w.heap.size,2,none⟩)),.pur (slice (some ⟨g,0,none⟩) ls.length N),.pur (int i64 k),.pur (pointer (some ⟨g,k*3,none⟩)),.pur (agg #[string ap,int i64 am,slice Z ab aa]),
    .pur (pointer (some ⟨w.heap.size+1,2,none⟩)),.pur (slice (some ⟨I,0,none⟩) ls.length O),.pur (int i64 k),.pur (pointer (some ⟨I,k*3,none⟩)),.pur (agg #[string s2,int i64 an,slice ac ae ad]),
    .cal,.post (fun v=>v),.post (A9 0),.post (A9 1),.post (A9 2),.alo 183 #[string ⟨#[]⟩,int i64 0,Nl] 17 (fun v=>cellsOf (A9 0 v)),.alo 183 #[string ⟨#[]⟩,int i64 0,Nl] 18 (fun v=>cellsOf (A9 1 v)),.sto 15,.sto 16,.post (A9 2)] 10 Yk
    (RD (A7 X w.heap.size 4) p z) 202 _ RD.stable b8.o ?_ rfl Yd ?_
   ·refine⟨fun vc β u a=> ?_,fun vc β u a=> ?_,fun vc β u a=> ?_,fun vc β u a=> ?_,fun vc β u a=> ?_,fun vc β u a=> ?_,fun vc β u a=> ?_,fun vc β u a=> ?_,fun vc β u a=> ?_,fun vc β u a=> ?_,fun vc β u=> ?_,?_,?_,?_,?_,fun vc β u=> ?_,fun vc β u=> ?_,?_,?_,?_,trivial⟩
    all_goals try simp[pa,Kd.val,go_sem,a.up cm,a.up bw,a.up bx,a.up bz,a.up cn,a.up bq,a.up br,a.up bs,aj]
    all_goals try(simp[pa,Kd.val,go_sem];done)
    all_goals try(rintro vc β B u ⟨s,n,ca,cl,cc,d,L,l,H,G,q,rfl,_,_⟩;simp[pa,Kd.val,go_sem,A9];done)
    ·rintro vc β B u t dg de cs D ⟨s,n,ca,cl,cc,d,L,l,H,G,q,rfl,_,_⟩ hb;simp at D;obtain⟨rfl,rfl,rfl,rfl⟩:=D;obtain⟨q0,T,U,ao⟩:=By hb;refine⟨_,?_,G1 hb (string s) (int i64 n) (slice ca cl cc)⟩;simp[pa,Kd.val,go_sem,q0,T,U,ao,A9]
    ·rintro vc β B u t dg de cs D ⟨s,n,ca,cl,cc,d,L,l,H,G,q,rfl,_,_⟩ hb;simp at D;obtain⟨rfl,rfl,rfl,rfl⟩:=D;obtain⟨q0,T,U,ao⟩:=By hb;refine⟨_,?_,G1 hb (string d) (int i64 L) (slice l H G)⟩;simp[pa,Kd.val,go_sem,q0,T,U,ao,A9]
   rintro vc β w1 J ⟨bo,bm,az,a1,a0,bp,bn,a2,a4,a3,q,rfl,bh,bi⟩ ah _;have J:=J.undrew;obtain⟨du,ba⟩:=ah 15 _ _ _ _ rfl;obtain⟨dv,bb⟩:=ah 16 _ _ _ _ rfl;obtain⟨q0,T,U,_⟩:=By ba;obtain⟨d4,d5,d6,_⟩:=By bb;have d2:=J.size;have A:=Yh J;have ch:=Yh bh;have ax:=Yh bi;clear J ah ba bb bh bi bw bx bz bq br bs;simp only[CD,pa,Kd.val,Ja,Act.put,A9]
   cases q
   ·go_wp2
    go_roundg (ls.length-k)
    case measure=>omega
    case rel=>
     exact⟨k+1,Yg,Yo,Yo,f.o.trans (A.o.mono f.o.size),ce.o (ch.o trivial),(A.o.block _ Yo).trans b3.o,(A.o.block _ Yo).trans b4.o,(A.o.block _ Yo).trans ar.o,(A.o.block _ Yo).trans au.o⟩
   ·obtain⟨x,y,a5,a6,a7⟩:=ax.o rfl;have b5:=Yh a5;have b6:=Yh a6;have b7:=Yh (cg.o x y a7);obtain⟨da,db,dc,dd⟩:=By ((A.o.block _ Yo).trans ar.o);obtain⟨c6,c7,c8,c9⟩:=By ((A.o.block _ Yo).trans au.o);clear a5 a6 a7 ax;go_wp2;go_region;go_wp2;refine Jb (v:=tuple #[agg #[string bo,int i64 bm,slice az a1 a0],agg #[string bp,int i64 bn,slice a2 a4 a3],.bool true]) (by simp[results,results202,go_sem,da,db,dc,dd,c6,c7,c8,c9]) rfl ?_;refine⟨_,rfl,(f.o.trans (A.o.mono f.o.size)).trans (Ad.below (S:=fun k=>w.heap.size<=k/\k<w.heap.size+4) Mst Yo (fun j h=>h.1)),bo,bm,az,a1,a0,bp,bn,a2,a4,a3,true,rfl,Ys,fun _=>⟨x,y,b5.o.boxes Mst,b6.o.boxes Mst,b7.o⟩⟩
  ·have cz:k=ls.length:=Yo
   subst cz;have cb:YH (ls=b):=by have:=W.o;rw[QT,V.o,QT]at this;exact this
   have q0:=ck;go_wp2;go_region;go_wp2;refine Jb (v:=tuple #[agg #[string s,int i64 nv,slice ca ls.length N],agg #[string d,int i64 R,slice l ls.length O],.bool false]) (by simp[results,results202,go_sem,co,af,ag,cp,cq,cr,ct,cu]) rfl ?_;refine⟨_,rfl,f.o.trans (Ad.below (S:=fun k=>w.heap.size<=k/\k<w.heap.size+4) Mst Yo (fun j h=>h.1)),s,nv,ca,_,N,d,R,l,_,O,false,rfl,fun _=>by rw[cb.o],Ys⟩
theorem PQ(w:World)(X:Np)(n:Nat):
  Calls prog 202 #[agg #[string ⟨#[]⟩,int i64 n,Nl],agg #[string ⟨#[]⟩,int i64 n,Nl]] w fun e w'=>∃r,e=returned r/\Ao w w'/\RD X (vr n) (vr n) (fun _=>False) r w':=by
 go_enter func202,ntmps202;go_wp2
 go_loopg [7] 1 (fun gk i wr=>i=int i64 0/\0<gk/\Ao w wr/\
   wr.heap[w.heap.size]?=some (.cells #[string ⟨#[]⟩,int i64 n,Nl] 183 (0,0))/\
   wr.heap[w.heap.size+1]?=some (.cells #[string ⟨#[]⟩,int i64 n,Nl] 183 (0,0))/\
   wr.heap[w.heap.size+1+1]?=some (.cells #[string ⟨#[]⟩,int i64 0,Nl] 183 (0,0))/\
   wr.heap[w.heap.size+1+1+1]?=some (.cells #[string ⟨#[]⟩,int i64 0,Nl] 183 (0,0)))
 case atStart=>
  refine⟨rfl,Yo,Mxt,?_,?_,?_,?_⟩
  ·exact Ah (Ah (Ah (QL w _) _) _) _
  ·simpa using Ah (Ah (QL (w.alloc _) _) _) _
  ·simpa using Ah (QL ((w.alloc _).alloc _) _) _
  ·simpa using QL (((w.alloc _).alloc _).alloc _) _
 case round=>
  obtain⟨rfl,E,a,h0,b,c,d⟩:=hrel;obtain⟨x,y,z,cf⟩:=By h0;obtain⟨A,B,C,D⟩:=By b;obtain⟨g,l,m,p⟩:=By c;obtain⟨q,s,t,u⟩:=By d;have f:=Yh a;have F:=a.size;clear a h0 b c d;go_wp2;go_region;go_wp2;refine Jb (v:=tuple #[agg #[string ⟨#[]⟩,int i64 n,Nl],agg #[string ⟨#[]⟩,int i64 n,Nl],.bool false]) (by simp[results,results202,go_sem,g,l,m,p,q,s,t,u]) rfl ?_;refine⟨_,rfl,f.o.trans (Ad.below (S:=fun k=>w.heap.size<=k/\k<w.heap.size+4) Mst Yo (fun j h=>h.1)),⟨#[]⟩,n,none,0,0,⟨#[]⟩,n,none,0,0,false,rfl,fun _=>rfl,Ys⟩
theorem RE:∀n,L2 n:=by
 intro n
 induction n with
 |zero=>
  intro w X a b c v x y l m hl _ _ h;have:=BR (h.wf _ (Qe _));omega
 |succ n E=>
  intro w X a b c v x y l m hl C D h d B;have w1:=h.wf _ (Qe _);have w2:=d.wf _ (Qe _);rcases h.o with⟨k,rfl,rfl,rfl,rfl⟩|⟨nm,ls,xs,p,rfl,rfl,rfl,s⟩
  ·rcases d.o with⟨g,rfl,rfl,rfl,rfl⟩|⟨j,i,u,q,rfl,rfl,rfl,f⟩
   ·by_cases t:k=g
    ·subst t;exact PQ w X k
    ·exact FH w X _ _ k g _ _ _ _ _ _ _ _ h d (Gv w1 w2 (by simp;exact t)) (QO (QO ⟨rfl,rfl,Dx [],by rw[QR];omega⟩))
   ·obtain⟨ca,z,rfl⟩:=Ab f.1;refine FH w X _ _ k 0 _ _ _ _ _ _ _ _ h d (Gv w1 w2 (by simp;intro e;exact absurd e q)) (QG ?_);intro e;have A:([]:Lu)=j:=(Dx []).symm.trans (e.trans (Dx j));exact q A.symm
  ·obtain⟨ca,z,rfl⟩:=Ab s.1;rcases d.o with⟨g,rfl,rfl,rfl,rfl⟩|⟨j,i,u,q,rfl,rfl,rfl,f⟩
   ·refine FH w X _ _ 0 g _ _ _ _ _ _ _ _ h d (Gv w1 w2 (by simp;intro e;exact absurd e p)) (QG ?_);intro e;exact p ((Dx nm).symm.trans (e.trans (Dx [])))
   ·obtain⟨F,G,rfl⟩:=Ab f.1
    by_cases hn:nm=j
    ·subst hn
     by_cases r:ls.length=i.length
     ·have:=S8 n E w X ⟨nm.toArray⟩ ⟨nm.toArray⟩ 0 0 _ _ ls i xs u ⟨nm,0,ls.length⟩ s f B r (by simp only[Qf]at hl;omega) (by simp only[Qf]at C;omega) (by simp only[Qf]at D;omega) rfl (by rw[Dx];exact p);have e:(⟨nm,0,i.length⟩:BJ)=⟨nm,0,ls.length⟩:=by rw[r]
      rw[e];exact this
     ·exact FH w X _ _ 0 0 _ _ _ _ _ _ _ _ h d (Gv w1 w2 (by simp;exact r)) (QO (QG ⟨rfl,Yo⟩))
    ·refine FH w X _ _ 0 0 _ _ _ _ _ _ _ _ h d (Gv w1 w2 (by simp;intro e;exact absurd e hn)) (QG ?_);rw[Dx,Dx];exact hn
def YD:Kd->Bool
 | .pur _=>true
 | .cal=>true
 |_=>false
def YC(P:Program)(w0:World)(FA:Value->Act)(R R':Value->World->Prop)(f:FuncId)(args:Av)(o:Oper):Kd->Prop
 | .pur c=>∀vc,(execOp (FA vc).eval o).run P w0= .ok (.value c) w0
 | .post g=>∀vc w,R vc w\/R' vc w->(execOp (FA vc).eval o).run P w= .ok (.value (g vc)) w
 | .cal=>∀vc,(execOp (FA vc).eval o).run P w0= .ok (.enter f args) w0
 | .alo .. =>True
 | .sto _=>∀vc w,R vc w->∃w',(execOp (FA vc).eval o).run P w= .ok .skip w'/\R' vc w'
def RN(P:Program)(w0:World)(FA:Value->Act)(R R':Value->World->Prop)(f:FuncId)(args:Av):List Oper->List Kd->Prop
 |o::os,q::qs=>YC P w0 FA R R' f args o q/\RN P w0 FA R R' f args os qs
 |_,_=>True
theorem RN.at{c:Value->Act}{d e:Value->World->Prop}{f:FuncId}{args:Av}:∀{ops:List Oper}{ks:List Kd},RN P w0 c d e f args ops ks->
  ∀{i:Nat}{o:Oper}{q:Kd},ops[i]?=some o->ks[i]?=some q->YC P w0 c d e f args o q:=by
 intro ops
 induction ops with
 |nil=>intro ks _ i o q h;simp at h
 |cons p os g=>
  intro ks h i o q b a
  cases ks with
  |nil=>simp at a
  |cons r j=>
   cases i with
   |zero=>simp at b a;subst b a;exact h.1
   |succ i=>exact g h.2 (by simpa using b) (by simpa using a)
abbrev Vc:Nat->Nat:=fun _=>0
structure X9(ops:List Oper)(kd:List Kd)(ic fi:Nat)(a0:Act)(w0:World)(R R':Value->World->Prop)(L:Array Bool)(a:Act)(w:World):Prop where
 size:L.size=ops.length
 closed:∀(i:Nat) o,ops[i]?=some o->L.getD i false=true->∀j,C5 o j=true->L.getD j false=true
 st:∃vc,a=pa a0 vc Vc (fun j=>L.getD j false) 0 ops kd/\(L.getD ic false=false->w=w0)/\(L.getD ic false=true->(L.getD fi false=false->R vc w)/\(L.getD fi false=true->R vc w\/R' vc w)/\(L.getD fi false=true->(∃k,kd[fi]?=some (.sto k))->R' vc w))/\
  (∀(i:Nat) q,kd[i]?=some q->L.getD i false=true->EY q=true->L.getD ic false=true)
structure AS where
 sym:BJ
 kids:List Nat
 up:Nat
def G9(c:AS)(v:Value):Lv:=[.string ⟨c.sym.name.toArray⟩,.int .i64 c.sym.num,v,.int .i64 c.up]
def B9:List AS->Lv->Lv
 |c::cs,v::vs=>G9 c v++B9 cs vs
 |_,_=>[]
structure Bd(w:World)(B:Nat)(lv:Value)(cs:List AS)(vs:List Value):Prop where
 len:vs.length=cs.length
 owns:w.ownsRow B 314 4 lv cs.length (B9 cs vs)
 kids:∀(i:Nat) c v,cs[i]?=some c->vs[i]?=some v->w.ownsRow B 3 1 v c.kids.length (AM c.kids)
theorem Ut:∀{cs:List AS}{vs:Lv}{i:Nat}{c:AS}{v:Value},cs[i]?=some c->vs[i]?=some v->
  (B9 cs vs)[i*4]?=some (string ⟨c.sym.name.toArray⟩)/\(B9 cs vs)[i*4+1]?=some (int i64 c.sym.num)/\(B9 cs vs)[i*4+2]?=some v/\(B9 cs vs)[i*4+3]?=some (int i64 c.up):=by
 intro cs
 induction cs with
 |nil=>intro vs i c v h;simp at h
 |cons d cs g=>
  intro vs i c v b a
  cases vs with
  |nil=>simp at a
  |cons u vs=>
   cases i with
   |zero=>
    simp at b a;subst b a;simp[B9,G9]
   |succ i=>
    have:=g (i:=i) (by simpa using b) (by simpa using a);have hl:(G9 d u).length=4:=rfl;rw[B9];have e:∀j,(G9 d u++B9 cs vs)[(i+1)*4+j]?=(B9 cs vs)[i*4+j]?:=fun j=>by
     rw[Qd (by rw[hl];omega),hl]
     congr 1;omega
    have f:=e 0;simp only[JU]at f;rw[f,e 1,e 2,e 3];exact this
theorem Bd.at{cs:List AS}(h:Bd w B lv cs vs){i:Nat}(hi:i<cs.length):
  ∃g e c v,lv=slice (some ⟨g,0,none⟩) cs.length e/\cs[i]?=some c/\vs[i]?=some v/\B<=g/\g<w.heap.size/\cs.length<=e/\w.cell? ⟨g,i*4,none⟩=some (string ⟨c.sym.name.toArray⟩)/\w.cell? ⟨g,i*4+1,none⟩=some (int i64 c.sym.num)/\
   w.cell? ⟨g,i*4+2,none⟩=some v/\w.cell? ⟨g,i*4+3,none⟩=some (int i64 c.up)/\(∀j,w.frozen? ⟨g,j,none⟩=false)/\w.ownsRow B 3 1 v c.kids.length (AM c.kids):=by
 obtain⟨g,e,o,rfl,l,hb,m⟩:=An h.owns Yo;have n:i<vs.length:=by rw[h.len];exact hi
 have f:cs[i]?=some cs[i]:=Qb hi;have k:vs[i]?=some vs[i]:=Qb n;obtain⟨a,b,c,d⟩:=Ut f k;exact⟨g,e,cs[i],vs[i],rfl,f,k,l,Ac hb,m,Af h.owns _ _ a,Af h.owns _ _ b,Af h.owns _ _ c,Af h.owns _ _ d,fun j=>Ag hb j,h.kids i _ _ f k⟩
theorem Bd.ext{cs:List AS}(h:Bd w B lv cs vs)(d:∀k,k<w.heap.size->w'.heap[k]?=w.heap[k]?):Bd w' B lv cs vs:=
 ⟨h.len,Aj h.owns (fun k e=>d k (h.owns.lt k e).2),fun i c v a b=>Aj (h.kids i c v a b) (fun k e=>d k ((h.kids i c v a b).lt k e).2)⟩
def turn(cs:List AS)(x y:Nat):List AS:=cs.modify x (fun c=>{c with up:=y})
theorem Gg(cs:List AS)(x y:Nat):(turn cs x y).length=cs.length:=by simp[turn]
theorem GW(cs:List AS)(x y i:Nat):(turn cs x y)[i]?=(cs[i]?).map (fun c=>if x=i then{c with up:=y}else c):=by
 simp only[turn,JL]
 cases cs[i]? with
 |none=>rfl
 |some c=>simp
theorem PX:∀{cs:List AS}{vs:Lv}{x y:Nat},vs.length=cs.length->x<cs.length->B9 (turn cs x y) vs=(B9 cs vs).set (x*4+3) (int i64 y):=by
 intro cs
 induction cs with
 |nil=>intro vs x y _ h;simp at h
 |cons d cs c=>
  intro vs x y hl b
  cases vs with
  |nil=>simp at hl
  |cons u vs=>
   cases x with
   |zero=>simp[turn,B9,G9]
   |succ x=>
    have e:=c (vs:=vs) (x:=x) (y:=y) (by simpa using hl) (by simpa using b);have a:turn (d::cs) (x+1) y=d::turn cs x y:=by simp[turn]
    rw[a,B9,B9,e,List.set_append_right _ _ (by simp[G9];omega)]
    congr 2
    simp[G9]
    try omega
theorem Bd.turn{g:Nat}{cs:List AS}(h:Bd w B (slice (some ⟨g,0,none⟩) cs.length cap) cs vs){x:Nat}(t:x<cs.length)(y:Nat):
  Bd (w.setCell ⟨g,x*4+3,none⟩ (int i64 y)) B (slice (some ⟨g,0,none⟩) cs.length cap) (YtlmjilpjmgjjcaaGreatDoor.turn cs x y) vs:=by
 refine⟨by rw[Gg];exact h.len,?_,?_⟩
 ·rw[Gg,PX h.len t];have m:=h.owns;refine⟨by simpa using m.1,?_⟩;rcases m.2 with⟨a,_⟩|⟨A,u,f,a,hb,p,hn,b,r,s⟩
  ·simp at a
  ·simp at a;obtain⟨rfl,rfl⟩:=a;refine .inr ⟨g,cap,f.setIfInBounds (x*4+3) (int i64 y),rfl,hb,Ae p _ _,hn,b,by simpa using r,?_⟩;rw[<-s];simp[List.take_set]
 ·intro i c v a n;rw[GW]at a
  cases b:cs[i]? with
  |none=>rw[b]at a;simp at a
  |some d=>
   rw[b]at a;simp only[JN,Qo]at a;have l:=h.kids i d v b n;have q:∀k,v.ownBlock=some k->k≠g:=fun k e e'=>by
    subst e';obtain⟨f,o⟩:=Ay l k e;obtain⟨z,j⟩:=Ay h.owns k rfl;rw[o]at j;simp at j
   have:c.kids=d.kids:=by rw[<-a];split<;>rfl
   rw[this];exact Aj l (fun k e=>Below.heap_setCell _ _ _ _ (q k e))
def Fe(cs:List AS)(ρ rk:Nat->Nat):Prop:=∀(i:Nat) c,cs[i]?=some c->c.up<cs.length/\ρ c.up=ρ i/\(c.up=i->ρ i=i)/\(c.up≠i->rk c.up<rk i)
theorem Fe.root{cs:List AS}{k:Nat->Nat}(h:Fe cs ρ k):∀(n i:Nat) c,k i<=n->cs[i]?=some c->∃f,cs[ρ i]?=some f/\f.up=ρ i/\ρ (ρ i)=ρ i:=by
 intro n
 induction n with
 |zero=>
  intro i c hn b;obtain⟨g,j,a,d⟩:=h i c b
  by_cases e:c.up=i
  ·rw[a e];exact⟨c,b,e,a e⟩
  ·have:=d e;omega
 |succ n l=>
  intro i c hn b;obtain⟨g,j,a,d⟩:=h i c b
  by_cases e:c.up=i
  ·rw[a e];exact⟨c,b,e,a e⟩
  ·have:=d e;rw[<-j];exact l c.up _ Yo (Qb g)
theorem Fe.rt{cs:List AS}{d:Nat->Nat}(h:Fe cs ρ d):Rt cs.length ρ:=by
 refine⟨fun i hi=> ?_,fun i hi=> ?_⟩
 ·obtain⟨a,b,_,_⟩:=h.root _ i _ (Qe _) (Qb hi);exact(Qa.1 b).1
 ·obtain⟨a,_,_,c⟩:=h.root _ i _ (Qe _) (Qb hi);exact c
def Ce(cs:List AS):Nat:=((List.range cs.length).filter (fun i=>((cs[i]?).map (fun c=>c.up==i)).getD false)).length
theorem Fk{cs:List AS}{y:Nat}{c:AS}(a:cs[x]?=some c)(g:c.up=x)(f:x≠y):Ce (turn cs x y)<Ce cs:=by
 unfold Ce;rw[Gg];refine Jx (x:=x) (fun i _ hi=> ?_) (JK.2 (Qa.1 a).1) (by simp[a,g]) ?_
 ·rw[GW]at hi
  cases b:cs[i]? with
  |none=>rw[b]at hi;simp at hi
  |some d=>
   rw[b]at hi;simp only[JN,Option.getD_some,JF]at hi⊢;split at hi
   ·rename_i e;subst e;simp at hi;exact absurd hi.symm f
   ·exact hi
 ·rw[GW,a];simp;exact fun e=>f e.symm
theorem Fe.turn{cs:List AS}{b:Nat->Nat}(h:Fe cs ρ b){x y:Nat}(q:x<cs.length)(p:y<cs.length)(j:ρ x=x)(k:ρ y=y)(f:x≠y):
  Fe (YtlmjilpjmgjjcaaGreatDoor.turn cs x y) (mg ρ x y) (fun i=>if ρ i=x then b i+b y+1 else b i):=by
 intro i c a;rw[GW]at a
 cases hd:cs[i]? with
 |none=>rw[hd]at a;simp at a
 |some d=>
  rw[hd]at a;simp only[JN,Qo]at a;obtain⟨m,g,n,o⟩:=h i d hd;rw[Gg]
  by_cases e:x=i
  ·subst e;rw[QQ rfl]at a;subst a;refine⟨p,?_,fun e=>absurd e.symm f,fun _=> ?_⟩
   ·unfold mg;rw[j,k,QQ rfl,QP (fun e=>f e.symm)]
   ·simp only[j,k,Ja];rw[QP (fun e=>f e.symm)];omega
  ·rw[QP e]at a;subst a;refine⟨m,?_,fun e'=> ?_,fun e'=> ?_⟩
   ·unfold mg;rw[g]
   ·have:=n e';unfold mg;rw[this,QP (fun l=>e l.symm)]
   ·have:=o e';simp only[g];split<;>omega
theorem Mb(w:World)(B:Nat)(t:Value)(cs:List AS)(vs:Lv)(d b:Nat->Nat)(i:Nat)(h:Bd w B t cs vs)(r:Fe cs d b)(hi:i<cs.length)(hl:cs.length<=4000):
  Calls prog 214 #[t,int i64 i] w fun e w'=>e=returned (int i64 (d i))/\w'=w:=by
 obtain⟨g,I,_,_,rfl,_,_,_,_,M,_⟩:=h.at hi;have u:=Yh h;have x:=Yh r;clear h r;go_enter func214,ntmps214;go_wp2
 go_loopg [1] (b i+1) (fun gk D wr=>∃(k:Nat),D=int i64 k/\k<cs.length/\b k<gk/\d k=d i/\wr=w)
 case atStart=>exact⟨i,rfl,hi,Yo,rfl,rfl⟩
 case round=>
  obtain⟨k,rfl,C,O,a,rfl⟩:=hrel;obtain⟨K,J,c,v,p,n,s,L,P,N,E,F,G,H,cf,q⟩:=u.o.at C;simp only[QH,Qo,Addr.mk.injEq]at p;obtain⟨⟨rfl,_⟩,_,rfl⟩:=p;obtain⟨z,j,l,m⟩:=x.o k c n
  by_cases e:c.up=k
  ·have e':((c.up:Int) !=(k:Int))=false:=by rw[e];simp
   have f:=Yh (l e);have y:=Yh a;clear n s q j l m a;go_wp2;go_ret;exact⟨by rw[<-y.o,f.o];rfl,rfl⟩
  ·have e':((c.up:Int) !=(k:Int))=true:=by rw[QR];omega
   have f:=Yh (j.trans a);have A:=m e;clear n s q j l m a;go_wp2
   go_roundg (b k)
   case measure=>omega
   case rel=>exact⟨c.up,rfl,z,A,f.o,rfl⟩
def skip:Nat->Ly->Nat
 |0,_=>0
 |_+1,[]=>0
 |k+1,s::r=>skip (k+s.args) r+1
theorem H5:∀{a:Ly}{j:Nat}(r:Ly),Wf j a->skip j (a++r)=a.length:=by
 intro a
 induction a with
 |nil=>intro j r h;have h:j=0:=h;subst h;simp[skip]
 |cons s a c=>
  intro j r h;obtain⟨d,_,_,b⟩:=h;obtain⟨k,rfl⟩:∃k,j=k+1:=⟨j-1,Yo⟩;simp only[Qy,skip,Qf];rw[c r (by simpa using b)]
theorem WV:∀{l:Ly}{k:Nat}(i:Nat),Wf k l->i<=l.length->∃c,Wf c (l.drop i):=by
 intro l
 induction l with
 |nil=>intro k i h hi;simp at hi;subst hi;exact⟨k,h⟩
 |cons s l b=>
  intro k i h hi
  cases i with
  |zero=>exact⟨k,h⟩
  |succ i=>
   obtain⟨_,_,_,a⟩:=h;simp only[List.drop_succ_cons];exact b i a (by simpa using hi)
def A6(l:Ly)(i:Nat):Nat:=i+skip 1 (l.drop i)
def FZ(l:Ly)(i:Nat):Ly:=(l.drop i).take (skip 1 (l.drop i))
def AW(l:Ly):Nat->Nat->List Nat
 |_,0=>[]
 |p,m+1=>p::AW l (A6 l p) m
def AJ(l:Ly):Nat->Nat->Nat
 |p,0=>p
 |p,m+1=>AJ l (A6 l p) m
theorem Dp(l:Ly)(p m:Nat):(AW l p m).length=m:=by
 induction m generalizing p with
 |zero=>rfl
 |succ m a=>simp[AW,a]
theorem BT(l:Ly)(p m:Nat):AJ l p (m+1)=A6 l (AJ l p m):=by
 induction m generalizing p with
 |zero=>rfl
 |succ m a=>rw[AJ,a];rfl
theorem BN(l:Ly)(p m i:Nat)(hi:i<m):(AW l p m)[i]?=some (AJ l p i):=by
 induction m generalizing p i with
 |zero=>omega
 |succ m a=>
  cases i with
  |zero=>rfl
  |succ i=>simp only[AW,List.getElem?_cons_succ,AJ];exact a _ _ Yo
theorem DR{l:Ly}{k i:Nat}(h:Wf k l)(hi:i<l.length):Wf 1 (FZ l i)/\∃r,l.drop i=FZ l i++r/\r=l.drop (A6 l i)/\i<A6 l i/\A6 l i<=l.length/\(FZ l i).length=skip 1 (l.drop i):=by
 obtain⟨c,d⟩:=WV i h Yo;have p:0<c:=by
  rcases Nat.eq_zero_or_pos c with rfl|m
  ·cases hd:l.drop i with
   |nil=>have:=congrArg List.length hd;simp at this;omega
   |cons s r=>rw[hd]at d;obtain⟨n,_⟩:=d;omega
  ·exact m
 obtain⟨a,b,e,ha,hb⟩:=IG (j:=1) (k:=c-1) (l:=l.drop i) (by rw[show 1+(c-1)=c by omega];exact d);have f:skip 1 (l.drop i)=a.length:=by rw[e];exact H5 b ha
 have g:FZ l i=a:=by unfold FZ;rw[f,e];simp
 have hl:a.length+b.length=l.length-i:=by
  have:=congrArg List.length e;simp at this;omega
 have o:=BR ha;refine⟨by rw[g];exact ha,b,by rw[g];exact e,?_,by unfold A6;omega,by unfold A6;omega,by rw[g,f]⟩;unfold A6;rw[f,<-JV,e];simp
theorem Xs{l:Ly}{z:Nat}(h:Wf z l):∀(m:Nat){p:Nat}{a b:Ly},l.drop p=a++b->Wf m a->p<=l.length->
  a=((AW l p m).map (FZ l)).flatten/\(∀x∈AW l p m,p<=x/\x<p+a.length)/\AJ l p m=p+a.length:=by
 intro m
 induction m with
 |zero=>
  intro p a b e g _;have:a=[]:=by
   cases a with
   |nil=>rfl
   |cons s a=>obtain⟨f,_⟩:=g;omega
  subst this;exact⟨rfl,by simp[AW],rfl⟩
 |succ m y=>
  intro p a b e g B;obtain⟨d,n,rfl,f,u⟩:=IG (j:=1) (k:=m) (l:=a) (by rw[Nat.add_comm];exact g);have A:=BR f;have C:p<l.length:=by
   have:=congrArg List.length e;simp at this;omega
  have i:skip 1 (l.drop p)=d.length:=by rw[e,Qi];exact H5 _ f
  have w:FZ l p=d:=by unfold FZ;rw[i,e];simp
  have hb:A6 l p=p+d.length:=by unfold A6;rw[i]
  have o:l.drop (A6 l p)=n++b:=by rw[hb,<-JV,e];simp
  have v:A6 l p<=l.length:=by
   have:=congrArg List.length e;simp at this;omega
  obtain⟨q,r,t⟩:=y o u v;refine⟨?_,?_,?_⟩
  ·simp only[AW,Qx,Q4,w];rw[<-q]
  ·intro x c;simp only[AW,Qp]at c;simp only[Qg];rcases c with rfl|c
   ·omega
   ·have:=r x c;omega
  ·rw[AJ,t,hb,Qg];omega
theorem GJ:∀{l:Ly}{k i:Nat}{s:BJ},Wf k l->l[i]?=some s->(s.name=[]->s.args=0)/\(s.name≠[]->s.num=0):=by
 intro l
 induction l with
 |nil=>intro k i s _ a;simp at a
 |cons t l e=>
  intro k i s h a;obtain⟨_,b,c,d⟩:=h
  cases i with
  |zero=>simp at a;subst a;exact⟨b,c⟩
  |succ i=>exact e d (by simpa using a)
def AB(l:Ly)(i:Nat):BJ:=l.getD i ⟨[],0,0⟩
def B8(l:Ly):Gr:=⟨l.length,AB l,fun i=>AW l (i+1) (AB l i).args⟩
theorem Fm{l:Ly}{k i:Nat}(h:Wf k l)(hi:i<l.length):FZ l i=AB l i::((AW l (i+1) (AB l i).args).map (FZ l)).flatten/\(∀x∈AW l (i+1) (AB l i).args,i<x/\x<A6 l i)/\AJ l (i+1) (AB l i).args=A6 l i:=by
 obtain⟨n,r,e,u,p,t,b⟩:=DR h hi;obtain⟨s,q,a,j,_⟩:=Mh n;have hd:l.drop i=l[i]::l.drop (i+1):=QC hi;rw[a]at e;rw[hd]at e;simp only[Qy,QI]at e;have m:AB l i=s:=by unfold AB;simp[hi,e.1]
 obtain⟨c,d,f⟩:=Xs h s.args e.2 j Yo;rw[a]at b;have g:A6 l i=i+1+q.length:=by unfold A6;rw[<-b];simp;omega
 rw[m];refine⟨by rw[a,<-c],fun x o=> ?_,by rw[f,g]⟩;have:=d x o;omega
theorem Ir{a b:Ly}(h:Wf 1 a):FZ (a++b) 0=a:=by
 unfold FZ;rw[List.drop_zero,H5 b h];simp
theorem HI{a b:Ly}(h:Wf 1 b):FZ (a++b) a.length=b:=by
 unfold FZ;have e:(a++b).drop a.length=b++[]:=Ys
 rw[e,H5 [] h];simp
theorem R7{a b:Ly}(ha:Wf 1 a)(hb:Wf 1 b):TW (B8 (a++b)) (FZ (a++b)) a b:=by
 have d:Wf 2 (a++b):=EM ha hb;refine⟨⟨?_,?_,?_,?_⟩,?_,?_⟩
 ·intro i hi x f;have:=(Fm d hi).2.1 x f;obtain⟨_,_,_,_,_,g,_⟩:=DR d hi;show x<(a++b).length;omega
 ·intro i hi;exact(Dp _ _ _).symm
 ·intro i hi hn;have e:(a++b)[i]?=some (AB (a++b) i):=by
   have hi:i<(a++b).length:=hi;unfold AB;simp only[QZ];rw[Qb hi];rfl
  have:=(GJ d e).1 hn;show AW _ _ (AB (a++b) i).args=[];rw[this];rfl
 ·intro i hi hn;have e:(a++b)[i]?=some (AB (a++b) i):=by
   have hi:i<(a++b).length:=hi;unfold AB;simp only[QZ];rw[Qb hi];rfl
  exact(GJ d e).2 hn
 ·intro i hi;exact(Fm d hi).1
 ·intro i hi hn;have hi:i<(a++b).length:=hi;have c:AB (a++b) i∈a++b:=by
   unfold AB;simp only[QZ];rw[Qb hi];exact List.getElem_mem hi
  rcases Qk.1 c with c|c
  ·exact QG ⟨_,c,hn,rfl⟩
  ·exact QO ⟨_,c,hn,rfl⟩
def A1(l:Ly)(i:Nat):Nat:=if(AB l i).name=[]then l.findIdx (fun s=>s.name.isEmpty&&s.num==(AB l i).num)else i
theorem H7(l:Ly){k:Nat}(o:Wf k l):Fy (B8 l) (A1 l):=by
 have d:∀i,i<l.length->(AB l i).name=[]->A1 l i<l.length/\(AB l (A1 l i)).name=[]/\(AB l (A1 l i)).num=(AB l i).num:=by
  intro i hi hn;unfold A1;rw[QQ hn];have m:∃x∈l,(x.name.isEmpty&&x.num==(AB l i).num)=true:=by
   refine⟨AB l i,?_,by simp[hn]⟩;unfold AB;simp only[QZ];rw[Qb hi];exact List.getElem_mem hi
  have c:=List.findIdx_lt_length_of_exists m;refine⟨c,?_⟩;have:=List.findIdx_getElem (w:=c);have e:AB l (l.findIdx (fun s=>s.name.isEmpty&&s.num==(AB l i).num))=l[l.findIdx (fun s=>s.name.isEmpty&&s.num==(AB l i).num)]:=by
   generalize l.findIdx (fun s=>s.name.isEmpty&&s.num==(AB l i).num)=z at c;unfold AB;simp only[QZ];rw[Qb c];rfl
  rw[e];simpa using this
 refine⟨⟨?_,?_⟩,?_,?_,?_⟩
 ·intro i hi
  by_cases hn:(AB l i).name=[]
  ·exact(d i hi hn).1
  ·show A1 l i<_;unfold A1;rw[QP hn];exact hi
 ·intro i hi
  by_cases hn:(AB l i).name=[]
  ·obtain⟨b,a,h⟩:=d i hi hn;show A1 l (A1 l i)=A1 l i;have f:A1 l (A1 l i)=l.findIdx (fun s=>s.name.isEmpty&&s.num==(AB l (A1 l i)).num):=by
    generalize A1 l i=z at a;unfold A1;rw[QQ a]
   have g:A1 l i=l.findIdx (fun s=>s.name.isEmpty&&s.num==(AB l i).num):=by unfold A1;rw[QQ hn]
   rw[f,h,<-g]
  ·have e:A1 l i=i:=by unfold A1;rw[QP hn]
   rw[e,e]
 ·intro i j hi n b a e;show A1 l i=A1 l j;have b:(AB l i).name=[]:=b;have a:(AB l j).name=[]:=a;have e:(AB l i).num=(AB l j).num:=e;unfold A1;rw[QQ b,QQ a,e]
 ·intro i hi hn;have hn:(AB l i).name≠[]:=hn;show A1 l i=i;unfold A1;rw[QP hn]
 ·intro i hi hn;exact(d i hi hn).2
structure GC where
 sym:BJ
 behind:Nat
 leader:Nat
 size:Int
def Rz(c:GC):Lv:=[.string ⟨c.sym.name.toArray⟩,.int .i64 c.sym.num,.int .i64 c.sym.args,.int .i64 c.behind,.int .i64 c.leader,.int .i64 c.size]
def NF(l:List GC):Lv:=l.flatMap Rz
theorem XT{l:List GC}{c:GC}(h:l[i]?=some c)(j:Nat)(d:j<6):(NF l)[i*6+j]?=(Rz c)[j]?:=by
 induction l generalizing i with
 |nil=>simp at h
 |cons a l b=>
  have hl:(Rz a).length=6:=rfl
  cases i with
  |zero=>
   simp at h;subst h;show(Rz a++NF l)[_]?=_;rw[Qc Yo];simp
  |succ i=>
   show(Rz a++NF l)[_]?=_;rw[Qd Yo,<-b (by simpa using h),hl]
   congr 1;omega
theorem VO(l:List GC)(c:GC):NF (l++[c])=NF l++Rz c:=by simp[NF]
theorem R8{l:List GC}{c:GC}{f:GC->GC}{j:Nat}{u:Value}(h:l[x]?=some c)(e:j<6)(b:Rz (f c)=(Rz c).set j u):NF (l.modify x f)=(NF l).set (x*6+j) u:=by
 induction l generalizing x with
 |nil=>simp at h
 |cons a l d=>
  have hl:(Rz a).length=6:=rfl
  cases x with
  |zero=>
   simp at h;subst h;show Rz (f a)++NF l=(Rz a++NF l).set _ _;rw[List.set_append_left _ _ Yo,b];simp
  |succ x=>
   show Rz a++NF (l.modify x f)=(Rz a++NF l).set _ _;rw[List.set_append_right _ _ Yo,d (by simpa using h),hl]
   congr 2;omega
structure F6(w:World)(gb:Nat)(v:Value)(gs:List GC):Prop where
 box:w.heap[gb]?=some (.cells #[v] 266 (0,0))
 owns:w.ownsRow 0 292 6 v gs.length (NF gs)
theorem PG{n g:Nat}(h:w.ownsRow B e size (slice (some ⟨g,0,none⟩) n cap) n xs)(i:Nat)(u:Value):(w.setCell ⟨g,i,none⟩ u).ownsRow B e size (slice (some ⟨g,0,none⟩) n cap) n (xs.set i u):=by
 refine⟨by simpa using h.1,?_⟩;rcases h.2 with⟨a,_⟩|⟨l,k,b,a,hb,d,hn,c,f,j⟩
 ·simp at a
 ·simp at a;obtain⟨rfl,rfl⟩:=a;refine .inr ⟨g,cap,b.setIfInBounds i u,rfl,hb,Ae d _ _,hn,c,by simpa using f,?_⟩;rw[<-j];simp[List.take_set]
theorem F6.shape{b:Nat}{gs:List GC}(h:F6 w b v gs)(hi:0<gs.length):∃cb a,v=slice (some ⟨cb,0,none⟩) gs.length a/\cb<w.heap.size/\gs.length<=a/\cb≠b/\(∀j,w.frozen? ⟨cb,j,none⟩=false):=by
 obtain⟨g,a,d,rfl,f,hb,c⟩:=An h.owns hi;refine⟨g,a,rfl,Ac hb,c,fun e=> ?_,fun j=>Ag hb j⟩;subst e;rw[h.box]at hb;simp at hb
theorem F6.cell{a cb:Nat}{gs:List GC}(h:F6 w a (slice (some ⟨cb,0,none⟩) gs.length cap) gs){i:Nat}{c:GC}(b:gs[i]?=some c):
  w.cell? ⟨cb,i*6,none⟩=some (string ⟨c.sym.name.toArray⟩)/\w.cell? ⟨cb,i*6+1,none⟩=some (int i64 c.sym.num)/\w.cell? ⟨cb,i*6+2,none⟩=some (int i64 c.sym.args)/\w.cell? ⟨cb,i*6+3,none⟩=some (int i64 c.behind)/\w.cell? ⟨cb,i*6+4,none⟩=some (int i64 c.leader)/\w.cell? ⟨cb,i*6+5,none⟩=some (int i64 c.size):=by
 have e:=fun j d=>XT b j d;refine⟨Af h.owns _ _ ?_,Af h.owns _ _ (by rw[e 1 Yo];rfl),Af h.owns _ _ (by rw[e 2 Yo];rfl),Af h.owns _ _ (by rw[e 3 Yo];rfl),Af h.owns _ _ (by rw[e 4 Yo];rfl),Af h.owns _ _ (by rw[e 5 Yo];rfl)⟩;have:=e 0 Yo;simp only[JU]at this;rw[this];rfl
theorem F6.on{a:Nat}{gs:List GC}(h:F6 w a v gs)(b:∀k,k<w.heap.size->w'.heap[k]?=w.heap[k]?):F6 w' a v gs:=
 ⟨(b a (Ac h.box)).trans h.box,Aj h.owns (fun k e=>b k (h.owns.lt k e).2)⟩
theorem F6.ext{a:Nat}{gs:List GC}(h:F6 w a v gs)(e:Ao w w'):F6 w' a v gs:=h.on (fun k b=>e.block k b)
theorem F6.put{a cb:Nat}{gs:List GC}(h:F6 w a (slice (some ⟨cb,0,none⟩) gs.length cap) gs){x:Nat}{c:GC}(d:gs[x]?=some c){f:GC->GC}{j:Nat}{u:Value}(i:j<6)(g:Rz (f c)=(Rz c).set j u):
  F6 (w.setCell ⟨cb,x*6+j,none⟩ u) a (slice (some ⟨cb,0,none⟩) gs.length cap) (gs.modify x f):=by
 have b:cb≠a:=by
  obtain⟨l,k,e,_,_,b,_⟩:=h.shape (by have:=(Qa.1 d).1;omega);simp at e;rw[e.1];exact b
 refine⟨(Below.heap_setCell _ _ _ _ (fun e=>b e.symm)).trans h.box,?_⟩;rw[R8 d i g,List.length_modify];exact PG h.owns _ _
def GC.up(c:GC):AS:=⟨c.sym,[],c.leader⟩
def Ez(gs:List GC)(x y:Nat):List GC:=gs.modify x (fun c=>{c with leader:=y})
theorem O4(gs:List GC)(x y:Nat):(Ez gs x y).map GC.up=turn (gs.map GC.up) x y:=by
 apply JR;intro i;rw[GW,Qj,Ez,JL,Qj]
 cases gs[i]? with
 |none=>rfl
 |some c=>simp;split<;>simp_all [GC.up]
theorem Gz(gs:List GC)(x y:Nat):(Ez gs x y).length=gs.length:=by simp[Ez]
structure DV(gs:List GC)(l:List BJ):Prop where
 len:gs.length=l.length
 all:∀i c,gs[i]?=some c->c.sym=AB l i/\c.behind=A6 l i
theorem DV.lead{gs:List GC}(h:DV gs l)(x y:Nat):DV (Ez gs x y) l:=
 ⟨by rw[Gz];exact h.len,fun i c a=>by
  rw[Ez,JL]at a
  cases hd:gs[i]? with
  |none=>rw[hd]at a;simp at a
  |some d=>
   rw[hd]at a;obtain⟨b,e⟩:=h.all i d hd;simp only[Option.map_eq_map,JN,Qo]at a;subst a;split<;>exact⟨b,e⟩⟩
theorem Fo(w:World)(l:Nat)(v:Value)(gs:List GC)(a g:Nat->Nat)(i:Nat)(h:F6 w l v gs)(q:Fe (gs.map GC.up) a g)(hi:i<gs.length)(hl:gs.length<=4000):
  Calls prog 189 #[Pt l,int i64 i] w fun e w'=>e=returned (int i64 (a i))/\w'=w:=by
 obtain⟨cb,u,rfl,I,H,_,_⟩:=h.shape Yo;have A:w.cell? ⟨l,0,none⟩=some (slice (some ⟨cb,0,none⟩) gs.length u):=Aa h.box 0 _ rfl;have K:=Ac h.box;have r:=Yh h;have s:=Yh q;clear h q;go_enter func189,ntmps189;go_wp2
 go_loopg [1] (g i+1) (fun gk z wr=>∃(k:Nat),z=int i64 k/\k<gs.length/\g k<gk/\a k=a i/\wr=w)
 case atStart=>exact⟨i,rfl,hi,Yo,rfl,rfl⟩
 case round=>
  obtain⟨k,rfl,y,J,f,rfl⟩:=hrel;obtain⟨c,d⟩:∃c,gs[k]?=some c:=⟨_,Qb y⟩;obtain⟨B,C,D,E,F,G⟩:=r.o.cell d;obtain⟨m,b,n,p⟩:=s.o k c.up (by rw[Qj,d];rfl);have m:c.leader<gs.length:=by simpa[GC.up]using m
  have b:a c.leader=a k:=b
  by_cases e:c.leader=k
  ·have e':((c.leader:Int) !=(k:Int))=false:=by rw[e];simp
   have j:=Yh (n e);have t:=Yh f;clear d b n p f;go_wp2;go_ret;exact⟨by rw[<-t.o,j.o];rfl,rfl⟩
  ·have e':((c.leader:Int) !=(k:Int))=true:=by rw[QR];omega
   have j:=Yh (b.trans f);have x:=p e;clear d b n p f;go_wp2
   go_roundg (g k)
   case measure=>omega
   case rel=>exact⟨c.leader,rfl,m,x,j.o,rfl⟩
theorem Hs(w:World)(a:Nat)(v:Value)(gs:List GC)(i:Nat)(c:GC)(h:F6 w a v gs)(b:gs[i]?=some c)(hl:gs.length<=4000):
  Calls prog 190 #[Pt a,int i64 i] w fun e w'=>e=returned (.bool c.sym.name.isEmpty)/\w'=w:=by
 have hi:=(Qa.1 b).1;obtain⟨cb,d,rfl,p,o,_,_⟩:=h.shape Yo;have f:w.cell? ⟨a,0,none⟩=some (slice (some ⟨cb,0,none⟩) gs.length d):=Aa h.box 0 _ rfl;obtain⟨g,j,k,l,m,n⟩:=h.cell b;clear h b;go_enter func190,ntmps190;go_wp2;go_ret;exact⟨Ys,rfl⟩
def DA(s t:BJ):Bool:=s.name.isEmpty&&(t.name.isEmpty&&s.num==t.num)
theorem SP(w:World)(s t:BJ):
  Calls prog 207 #[agg #[string ⟨s.name.toArray⟩,int i64 s.num,int i64 s.args],agg #[string ⟨t.name.toArray⟩,int i64 t.num,int i64 t.args]] w fun e w'=>e=returned (.bool (DA s t))/\Ao w w':=by
 have g:YH (∀a b c,a=s.name.isEmpty->b=t.name.isEmpty->c=(s.num==t.num)->DA s t=(a&&(b&&c))):=fun a b c d f i=>by rw[d,f,i];rfl
 cases d:s.name.isEmpty with
 |false=>
  go_enter func207,ntmps207;go_wp2;go_ret;refine⟨?_,Mxt⟩;rw[g.o false _ _ d.symm rfl rfl];rfl
 |true=>
  cases f:t.name.isEmpty with
  |false=>
   go_enter func207,ntmps207;go_wp2;go_ret;refine⟨?_,Mxt⟩;rw[g.o true false _ d.symm f.symm rfl];rfl
  |true=>
   have h:YH (((s.num:Int)==(t.num:Int))=(s.num==t.num)):=by
    show _=_;rw[Bool.eq_iff_iff,JF,JF];omega
   go_enter func207,ntmps207;go_wp2;go_ret;refine⟨?_,Mxt⟩;rw[g.o true true _ d.symm f.symm rfl,<-h.o];rfl
theorem Bf.swap{b:Nat->Nat}{xs a:List Nat}(h:Bf G ρ b xs a):Bf G ρ b a xs:=⟨h.rt,h.grow,h.eq.symm,h.cg,fun val d c e=>h.con val d c e.symm⟩
theorem EA.swap{xs a:List Nat}(h:EA G ρ xs a):EA G ρ a xs:=fun val c b e=>h val c b e.symm
theorem Xl(c:Wf 2 l):∃a b,l=a++b/\Wf 1 a/\Wf 1 b/\TW (B8 l) (FZ l) a b:=by
 obtain⟨a,b,e,ha,hb⟩:=IG (j:=1) (k:=1) c;exact⟨a,b,e,ha,hb,by rw[e];exact R7 ha hb⟩
theorem Tz(c:Wf 2 l):(B8 l).Ok:=by
 obtain⟨a,b,_,_,_,h⟩:=Xl c;exact h.ok
structure D6(gb:Nat)(v:Value)(gs:List GC)(l:List BJ)(w w':World)(gs':List GC):Prop where
 at':F6 w' gb v gs'
 cells:DV gs' l
 sizes:gs'.map (·.size)=gs.map (·.size)
 kept:Ad (Ak v) w w'
 roots:Ce (gs'.map GC.up)<=Ce (gs.map GC.up)
def Xt(gb:Nat)(v:Value)(gs:List GC)(l:Ly)(ρ:Nat->Nat)(a b:Nat)(w:World)(e:Ending)(w':World):Prop:=∃gs',D6 gb v gs l w w' gs'/\∃ρ' rk',Fe (gs'.map GC.up) ρ' rk'/\
 ((e= .returned (.bool true)/\Bf (B8 l) ρ ρ' [a] [b])\/(e= .returned (.bool false)/\EA (B8 l) ρ [a] [b]))
def LS(m:Nat):Prop:=∀(w:World)(gb:Nat)(v:Value)(gs:List GC)(l:Ly)(ρ rk:Nat->Nat)(a b:Nat),F6 w gb v gs->DV gs l->Wf 2 l->Fe (gs.map GC.up) ρ rk->Ce (gs.map GC.up)<=m->a<gs.length->b<gs.length->gs.length<=4000->
 Calls prog 158 #[.pointer (some ⟨gb,0,none⟩),.int .i64 a,.int .i64 b] w fun e w'=>Xt gb v gs l ρ a b w e w'
abbrev Js(l:List BJ)(x:Nat):List Nat:=(B8 l).kids x
def MY(gb:Nat)(v:Value)(gs:List GC)(l:Ly)(ρ:Nat->Nat)(x y:Nat)(w:World)(e:Ending)(w':World):Prop:=∃gs',D6 gb v gs l w w' gs'/\∃ρ' rk',Fe (gs'.map GC.up) ρ' rk'/\
    ((e= .returned (.bool true)/\(AB l x).name=(AB l y).name/\(AB l x).args=(AB l y).args/\Bf (B8 l) ρ ρ' (Js l x) (Js l y))\/
     (e= .returned (.bool false)/\((AB l x).name≠(AB l y).name\/(AB l x).args≠(AB l y).args\/EA (B8 l) ρ (Js l x) (Js l y))))
def L5(m:Nat):Prop:=∀(w:World)(gb:Nat)(v:Value)(gs:List GC)(l:Ly)(ρ rk:Nat->Nat)(x y:Nat),F6 w gb v gs->DV gs l->Wf 2 l->Fe (gs.map GC.up) ρ rk->Ce (gs.map GC.up)<=m->x<gs.length->y<gs.length->gs.length<=4000->
 Calls prog 191 #[.pointer (some ⟨gb,0,none⟩),.int .i64 x,.int .i64 y] w fun e w'=>MY gb v gs l ρ x y w e w'
theorem D6.trans{a:Nat}{gs b c:List GC}(h:D6 a v gs l w w1 b)(k:D6 a v b l w1 w2 c):D6 a v gs l w w2 c:=
 ⟨k.at',k.cells,k.sizes.trans h.sizes,h.kept.trans k.kept,Qq k.roots h.roots⟩
theorem D6.len{b:Nat}{gs:List GC}{a:List GC}(h:D6 b v gs l w w' a):a.length=gs.length:=by simpa using congrArg List.length h.sizes
theorem UD{m:Nat}(h:k<=m):(AW l x m).take k=AW l x k:=by
 induction m generalizing x k with
 |zero=>
  have:k=0:=Yo
  subst this;rfl
 |succ m a=>
  cases k with
  |zero=>rfl
  |succ k=>simp only[AW,Q5];rw[a Yo]
theorem M9(l:Ly)(x k:Nat):AW l x (k+1)=AW l x k++[AJ l x k]:=by
 induction k generalizing x with
 |zero=>rfl
 |succ k a=>
  have e:AW l x (k+1+1)=x::AW l (A6 l x) (k+1):=rfl;rw[e,a];rfl
theorem KL{l:List Nat}{n:Nat}(h:l[k]?=some n):l=l.take k++n::l.drop (k+1):=by
 obtain⟨a,e⟩:=Qa.1 h;have:=QC a;rw[e]at this;rw[<-this,JT]
theorem L8{m:Nat}(h:k<m):AW l x m=AW l x k++AJ l x k::(AW l x m).drop (k+1):=by
 have a:=BN l x m k h;have:=KL a;rw[UD Yo]at this;exact this
theorem PK(m:Nat)(aq:LS m):L5 m:=by
 intro w p v gs l N a8 x y h E q a5 a2 cf cg hl;obtain⟨bu,ad⟩:∃c,gs[x]?=some c:=⟨_,Qb cf⟩;obtain⟨bv,ae⟩:∃c,gs[y]?=some c:=⟨_,Qb cg⟩;obtain⟨cb,n,rfl,cm,cl,cs,cn⟩:=h.shape Yo;have ar:w.cell? ⟨p,0,none⟩=some (slice (some ⟨cb,0,none⟩) gs.length n):=Aa h.box 0 _ rfl;have co:=Ac h.box;obtain⟨bc,bd,be,_,_,_⟩:=h.cell ad;obtain⟨bf,bg,bh,_,_,_⟩:=h.cell ae;obtain⟨ba,_⟩:=E.all x bu ad;obtain⟨bb,_⟩:=E.all y bv ae;have cc:=E.len;obtain⟨bw,au,bx⟩:=Fm q (i:=x) Yo;obtain⟨bz,aw,b0⟩:=Fm q (i:=y) Yo;obtain⟨_,_,_,_,_,b4,_⟩:=DR q (i:=x) Yo;obtain⟨_,_,_,_,_,b5,_⟩:=DR q (i:=y) Yo;have G:∀k,k<(AB l x).args->AJ l (x+1) k<gs.length:=fun k f=>by
  have:=au _ (Qh (BN l (x+1) _ k f));omega
 have af:∀k,k<(AB l y).args->AJ l (y+1) k<gs.length:=fun k f=>by
  have:=aw _ (Qh (BN l (y+1) _ k f));omega
 have b3:(AB l x).args<=4000:=by
  rcases QB 4000 (AB l x).args with X|X
  ·exfalso;have cj:=G 4000 X;have mono:∀k,k<=(AB l x).args->x+1+k<=AJ l (x+1) k:=by
    intro k
    induction k with
    |zero=>intro _;simp[AJ]
    |succ k ch=>
     intro f;have:=ch Yo;rw[BT];have:=G k Yo;obtain⟨_,_,_,_,ck,_⟩:=DR q (i:=AJ l (x+1) k) Yo;omega
   have:=mono 4000 Yo;omega
  ·exact X
 rw[ba]at bc bd be;rw[bb]at bf bg bh;obtain⟨s,K⟩:=Ex (AB l x);obtain⟨t,L⟩:=Ex (AB l y);rw[<-K]at bc bd be G b3;rw[<-L]at bf bg bh af;have S:=Yh K;have T:=Yh L;have ag:=Yh h;have B:=Yh E;have ap:=Yh q;have U:=Yh a5;have bp:=Yh a2;have bn:=Yh aq;have ai:=Yh G;have aj:=Yh af;have ak:YH (Js l x=AW l (x+1) s.args):=by show _=_;rw[K];rfl
 have al:YH (Js l y=AW l (y+1) t.args):=by show _=_;rw[L];rfl
 clear h E q a5 a2 aq G af ad ae ba bb bw au bx bz aw b0 b4 b5 cc K L;have am:YH (∀w',Ad A4 w w'->(s.name≠t.name\/s.args≠t.args)->MY p (slice (some ⟨cb,0,none⟩) gs.length n) gs l N x y w (returned (.bool false)) w'):=fun w' f hd=>by
  refine⟨gs,⟨ag.o.on (fun k b7=>f.block k b7 (fun h=>h)),B.o,rfl,f.mono (fun _ _ h=>h.elim),Qe _⟩,N,a8,U.o,QO ⟨rfl,?_⟩⟩;rw[<-S.o,<-T.o];rcases hd with hd|hd
  ·exact QG hd
  ·exact QO (QG hd)
 by_cases g:s.name=t.name
 ·by_cases D:s.args=t.args
  ·have a3:(s.name !=t.name)=false:=by rw[g];simp
   have b2:((s.args:Int) !=(t.args:Int))=false:=by rw[D];simp
   have bq:=Yh g;have A:=Yh D;clear g D;go_enter func191,ntmps191;go_wp2
   go_loopg [9,10,11] (s.args+1) (fun gk av bt nv wr=>∃(k:Nat)(C:List GC)(H M:Nat->Nat),av=int i64 (AJ l (x+1) k:Nat)/\bt=int i64 (AJ l (y+1) k:Nat)/\nv=int i64 k/\k<=s.args/\s.args-k<gk/\D6 p (slice (some ⟨cb,0,none⟩) gs.length n) gs l w wr C/\Fe (C.map GC.up) H M/\
    Bf (B8 l) N H (AW l (x+1) k) (AW l (y+1) k)/\wr.heap[w.heap.size]?=some (.cells #[string ⟨t.name.toArray⟩,int i64 s.num,int i64 s.args] 133 (0,0)))
   case atStart=>
    have a4:=U.o.rt;rw[Ql,B.o.len]at a4;refine⟨0,gs,N,a8,by simp[AJ],by simp[AJ],Yg,Qm _,Yo,⟨ag.o.ext Mxt,B.o,rfl,((Ad.refl _ w).alloc _).alloc _,Qe _⟩,U.o,Bf.nil a4,?_⟩;have:=Ah (QL w (.cells #[string ⟨t.name.toArray⟩,int i64 s.num,int i64 s.args] 133)) (.cells #[string ⟨t.name.toArray⟩,int i64 t.num,int i64 t.args] 133);simpa using this
   case round=>
    obtain⟨k,C,H,M,rfl,rfl,rfl,f,cp,I,a6,z,J⟩:=hrel;obtain⟨ct,cu,s2,cv⟩:=By J;have b8:=I.len;have ar:wr.cell? ⟨p,0,none⟩=some (slice (some ⟨cb,0,none⟩) gs.length n):=Aa I.at'.box 0 _ rfl;have ce:=Ac J;have r:=Yh I;have an:=Yh a6;have R:=Yh z;have bk:=Yh J;clear I a6 z J
    by_cases a1:k<s.args
    ·have ha:=ai.o k a1;have hb:=aj.o k (by have:=A.o;omega);obtain⟨V,Y⟩:∃a,a=AJ l (x+1) k:=⟨_,rfl⟩;obtain⟨W,aa⟩:∃b,b=AJ l (y+1) k:=⟨_,rfl⟩;rw[<-Y]at ha⊢;rw[<-aa]at hb⊢;have cq:¬((gs.length:Int)<=(V:Int)):=Yo
     have cr:¬((gs.length:Int)<=(W:Int)):=Yo
     have bj:=Yh (bn.o wr p (slice (some ⟨cb,0,none⟩) gs.length n) C l H M V W r.o.at' r.o.cells ap.o an.o (Qq r.o.roots bp.o) Yo Yo Yo);have O:=Yh Y;have P:=Yh aa;clear Y aa;go_wp2_with fail;apply bj.o.mono;rintro e w1 ⟨u,d,bi,a9,a7,cd⟩;have b9:=d.len;have ax:=(d.kept.block _ ce (fun e=>by
      have e:cb=w.heap.size:=by simpa[Ak,Value.ownBlock]using e
      omega)).trans bk.o
     have ar:w1.cell? ⟨p,0,none⟩=some (slice (some ⟨cb,0,none⟩) gs.length n):=Aa d.at'.box 0 _ rfl;obtain⟨ca,ab⟩:∃c,u[V]?=some c:=⟨_,Qb Yo⟩;obtain⟨ci,ac⟩:∃c,u[W]?=some c:=⟨_,Qb Yo⟩;have Z:F6 w1 p (slice (some ⟨cb,0,none⟩) u.length n) u:=by rw[b9,b8];exact d.at'
     obtain⟨_,_,_,br,_,_⟩:=Z.cell ab;obtain⟨_,_,_,bs,_,_⟩:=Z.cell ac;rw[(d.cells.all _ _ ab).2]at br;rw[(d.cells.all _ _ ac).2]at bs;have ah:=Yh d;have ao:=Yh a7;have bl:=Yh ax;clear d a7 ax Z ab ac;rcases cd with⟨rfl,a0⟩|⟨rfl,az⟩
     ·have bo:=Yh a0;clear a0;go_wp2
      go_roundg (s.args-k)
      case measure=>omega
      case rel=>
       refine⟨k+1,u,bi,a9,by rw[BT,<-O.o],by rw[BT,<-P.o],Yg,Yo,Yo,r.o.trans ah.o,ao.o,?_,bl.o⟩;rw[M9,M9,<-O.o,<-P.o];have b1:=Tz ap.o;refine Bf.snoc b1 R.o bo.o (fun j z=> ?_) (fun j z=> ?_)
       ·obtain⟨i,hi⟩:=J0.1 z;have F:=(Qa.1 hi).1;rw[Dp]at F;rw[BN l (x+1) k i F]at hi;simp at hi;subst hi;have:=ai.o i Yo;show _<l.length;have:=B.o.len;omega
       ·obtain⟨i,hi⟩:=J0.1 z;have F:=(Qa.1 hi).1;rw[Dp]at F;rw[BN l (y+1) k i F]at hi;simp at hi;subst hi;have:=aj.o i (by have:=A.o;omega);show _<l.length;have:=B.o.len;omega
     ·have bm:=Yh az;clear az;go_wp2;go_ret;refine⟨u,r.o.trans ah.o,bi,a9,ao.o,QO ⟨rfl,QO (QO ?_)⟩⟩;have ay:=bm.o;rw[O.o,P.o]at ay;have:=EA.snoc R.o ay ((AW l (x+1) s.args).drop (k+1)) ((AW l (y+1) t.args).drop (k+1));rw[<-L8 a1,<-L8 (by have:=A.o;omega)]at this;rw[ak.o,al.o];exact this
    ·have b6:k=s.args:=Yo
     subst b6;go_wp2;go_ret;refine⟨C,r.o,H,M,an.o,QG ⟨rfl,?_,?_,?_⟩⟩
     ·rw[<-S.o,<-T.o];exact bq.o
     ·rw[<-S.o,<-T.o];exact A.o
     ·rw[ak.o,al.o,<-A.o];exact R.o
  ·have a3:(s.name !=t.name)=false:=by rw[g];simp
   have b2:((s.args:Int) !=(t.args:Int))=true:=by rw[QR];omega
   have Q:=Yh D;clear g D;go_enter func191,ntmps191;go_wp2
   all_goals
    go_ret;exact am.o _ (((Ad.refl _ w).alloc _).alloc _) (QO Q.o)
 ·have a3:(s.name==t.name)=false:=by simpa using g
  have Q:=Yh g;clear g;go_enter func191,ntmps191;go_wp2
  all_goals
   go_ret;exact am.o _ (((Ad.refl _ w).alloc _).alloc _) (QG Q.o)
theorem T5(m:Nat)(a5:∀k,k<m->L5 k):LS m:=by
 intro w j v gs l g L a b h Q ao A bc ha hb hl;have q:=A.rt;rw[Ql]at q;have B:=q.lt a ha;have r:=q.lt b hb;have ap:=q.idem a ha;have aq:=q.idem b hb;obtain⟨x,ac⟩:=Ex (g a);obtain⟨y,ae⟩:=Ex (g b);rw[<-ac]at B ap;rw[<-ae]at r aq;obtain⟨E,R⟩:∃c,gs[x]?=some c:=⟨_,Qb B⟩;obtain⟨F,ab⟩:∃c,gs[y]?=some c:=⟨_,Qb r⟩;obtain⟨cb,D,rfl,b4,b3,b7,b5⟩:=h.shape Yo;have b1:w.cell? ⟨j,0,none⟩=some (slice (some ⟨cb,0,none⟩) gs.length D):=Aa h.box 0 _ rfl;have b6:=Ac h.box;have b8:=(h.cell R).2.2.2.2.1;have b9:=(h.cell ab).2.2.2.2.1;obtain⟨bj,_⟩:=Q.all x E R;obtain⟨bk,_⟩:=Q.all y F ab;have bx:=Q.len;rw[bx]at q;have a8:=Tz ao;have N:=Yh (Fo w j _ gs g L a h A ha hl);have O:=Yh (Fo w j _ gs g L b h A hb hl);rw[<-ac]at N;rw[<-ae]at O;have M:=Yh (Hs w j _ gs x E h R hl);have I:a<(B8 l).n:=by show a<l.length;omega
 have J:b<(B8 l).n:=by show b<l.length;omega
 have bg:∀x y,x<gs.length->y<gs.length->g x=x->g y=y->x≠y->Fe ((Ez gs x y).map GC.up) (mg g x y) (fun i=>if g i=x then L i+L y+1 else L i):=fun x y d ak G bw al=>by
  rw[O4];exact A.turn (by simpa using d) (by simpa using ak) G bw al
 have bd:∀x y,x<gs.length->g x=x->x≠y->Ce ((Ez gs x y).map GC.up)<Ce (gs.map GC.up):=fun x y d G al=>by
  rw[O4];obtain⟨b2,a6,a7,_⟩:=A.root _ x _ (Qe _) (Qb (by simpa using d));rw[G]at a6 a7;exact Fk a6 a7 al
 have bb:∀(x y:Nat) c,gs[x]?=some c->F6 (w.setCell ⟨cb,x*6+4,none⟩ (int i64 y)) j (slice (some ⟨cb,0,none⟩) gs.length D) (Ez gs x y):=fun x y c d=>h.put d (f:=fun c=>{c with leader:=y}) Yo rfl;have bf:∀x y,(Ez gs x y).map (·.size)=gs.map (·.size):=fun x y=>by
  apply JR;intro i;rw[Qj,Qj,Ez,JL]
  cases gs[i]? with
  |none=>rfl
  |some c=>simp;split<;>rfl
 have ba:∀i u,Ad (Ak (slice (some ⟨cb,0,none⟩) gs.length D)) w (w.setCell ⟨cb,i,none⟩ u):=fun i u=>(Ad.refl _ w).setCell (p:=⟨cb,i,none⟩) (fun _=>(rfl:some cb=some cb)) u;have bl:=Yh h;have W:=Yh Q;have bu:=Yh ao;have bt:=Yh A;have br:=Yh bc;have s:=Yh q;have U:=Yh a8;have bp:=Yh a5;have t:=Yh ac;have z:=Yh ae;have Y:=Yh ap;have P:=Yh aq;have bo:=Yh R;have ax:=Yh ab;have ah:=Yh bg;have af:=Yh bd;have az:=Yh bb;have ag:=Yh bf;have ay:=Yh ba;have a2:=Yh bj;have a3:=Yh bk;clear h Q ao A bc q a8 a5 ac ae ap aq R ab bg bd bb bf ba bj bk
 by_cases ad:x=y
 ·have b0:((x:Int)==(y:Int))=true:=by rw[JF];omega
  have C:=Yh ad;clear ad;go_enter func158,ntmps158;go_wp2_with fail;apply N.o.mono;rintro e w1 ⟨rfl,rfl⟩;go_wp2_with fail;apply O.o.mono;rintro e w1 ⟨rfl,rfl⟩;go_wp2;go_ret;exact⟨gs,⟨bl.o,W.o,rfl,Ad.refl _ _,Qe _⟩,g,L,bt.o,QG ⟨rfl,Bf.same s.o (t.o.symm.trans (C.o.trans z.o))⟩⟩
 ·have b0:((x:Int)==(y:Int))=false:=by rw[Qu];omega
  have C:=Yh ad;clear ad
  by_cases S:E.sym.name=[]
  ·have am:E.sym.name.isEmpty=true:=by simpa using S
   rw[am]at M;go_enter func158,ntmps158;go_wp2_with fail;apply N.o.mono;rintro e w1 ⟨rfl,rfl⟩;go_wp2_with fail;apply O.o.mono;rintro e w1 ⟨rfl,rfl⟩;go_wp2_with fail;apply M.o.mono;rintro e w1 ⟨rfl,rfl⟩;go_wp2;go_ret;exact⟨Ez gs x y,⟨az.o x y E bo.o,W.o.lead _ _,ag.o _ _,ay.o _ _,JW (af.o x y B Y.o C.o)⟩,_,_,ah.o x y B r Y.o P.o C.o,
    QG ⟨rfl,Bf.var s.o I J (QG ⟨t.o,z.o⟩) C.o (by show(AB l x).name=[];rw[<-a2.o];exact S)⟩⟩
  ·have am:E.sym.name.isEmpty=false:=by simpa using S
   rw[am]at M;obtain⟨ai,aa⟩:∃bv,bv=w.setCell ⟨cb,y*6+4,none⟩ (int i64 x):=⟨_,rfl⟩;have Z:=az.o y x F ax.o;rw[<-aa]at Z;have K:y≠x:=fun e=>C.o e.symm;have a9:(Ez gs y x)[y]?=some {F with leader:=x}:=by
    rw[Ez,JL,ax.o];simp
   have V:=Yh (Hs ai j _ (Ez gs y x) y _ Z a9 (by rw[Gz];exact hl));have av:YH (Ad (Ak (slice (some ⟨cb,0,none⟩) gs.length D)) w ai):=by rw[aa];exact ay.o _ _
   have au:=Yh Z;have aw:=Yh aa;clear Z aa a9
   by_cases T:F.sym.name=[]
   ·have an:F.sym.name.isEmpty=true:=by simpa using T
    rw[an]at V;go_enter func158,ntmps158;go_wp2_with fail;apply N.o.mono;rintro e w1 ⟨rfl,rfl⟩;go_wp2_with fail;apply O.o.mono;rintro e w1 ⟨rfl,rfl⟩;go_wp2_with fail;apply M.o.mono;rintro e w1 ⟨rfl,rfl⟩;go_wp2_with fail;rw[<-aw.o];apply V.o.mono;rintro e w2 ⟨rfl,rfl⟩;go_wp2;go_ret;exact⟨Ez gs y x,⟨au.o,W.o.lead _ _,ag.o _ _,av.o,JW (af.o y x r P.o K)⟩,_,_,ah.o y x r B P.o Y.o K,
     QG ⟨rfl,Bf.var s.o I J (QO ⟨z.o,t.o⟩) K (by show(AB l y).name=[];rw[<-a3.o];exact T)⟩⟩
   ·have an:F.sym.name.isEmpty=false:=by simpa using T
    rw[an]at V;have be:=af.o y x r P.o K;have bm:=Yh (bp.o (Ce ((Ez gs y x).map GC.up)) (by have:=br.o;omega) ai j (slice (some ⟨cb,0,none⟩) gs.length D) (Ez gs y x) l (mg g y x) _ x y au.o (W.o.lead _ _) bu.o (ah.o y x r B P.o Y.o K) (Qe _) (by rw[Gz];exact B) (by rw[Gz];exact r) (by rw[Gz];exact hl));have a0:YH ((AB l x).name≠[]):=by show _≠_;rw[<-a2.o];exact S
    have X:YH ((AB l y).name≠[]):=by show _≠_;rw[<-a3.o];exact T
    have bs:=Yh be;clear S T be;go_enter func158,ntmps158;go_wp2_with fail;apply N.o.mono;rintro e w1 ⟨rfl,rfl⟩;go_wp2_with fail;apply O.o.mono;rintro e w1 ⟨rfl,rfl⟩;go_wp2_with fail;apply M.o.mono;rintro e w1 ⟨rfl,rfl⟩;go_wp2_with fail;rw[<-aw.o];apply V.o.mono;rintro e w2 ⟨rfl,rfl⟩;go_wp2_with fail;apply bm.o.mono;rintro e w2 ⟨aj,H,ar,bi,bh,bz⟩;have a1:YH (D6 j (slice (some ⟨cb,0,none⟩) gs.length D) gs l w1 w2 aj):=⟨H.at',H.cells,H.sizes.trans (ag.o _ _),av.o.trans H.kept,Qq H.roots (JW bs.o)⟩;have a4:=Yh bh;clear H bh;rcases bz with⟨rfl,d,ak,G⟩|⟨rfl,d⟩
    ·have bq:YH (Bf (B8 l) g ar [a] [b]):=Bf.name U.o s.o I J (QO ⟨z.o,t.o⟩) K X.o d.symm G.swap;clear d ak G;go_wp2;go_ret;exact⟨aj,a1.o,ar,bi,a4.o,QG ⟨rfl,bq.o⟩⟩
    ·have bn:YH (EA (B8 l) g [a] [b]):=by
      by_cases hn:(AB l x).name=(AB l y).name
      ·rcases d with d|d|d
       ·exact absurd hn d
       ·exact HG U.o s.o I J (QO ⟨z.o,t.o⟩) X.o a0.o (QO (fun e=>d e.symm))
       ·exact LX U.o s.o I J (QO ⟨z.o,t.o⟩) X.o hn.symm d.swap
      ·exact HG U.o s.o I J (QO ⟨z.o,t.o⟩) X.o a0.o (QG (fun e=>hn e.symm))
     clear d;go_wp2;go_ret;exact⟨aj,a1.o,ar,bi,a4.o,QO ⟨rfl,bn.o⟩⟩
theorem Wi(m:Nat):LS m:=by
 induction m using Nat.strongRecOn with
 |_ m b=>exact T5 m (fun k a=>PK k (b k a))
def DG(l:Ly)(gs:List GC)(p:Nat):List GC:=gs.mapIdx (fun i c=>if p<=i then{c with behind:=A6 l i}else c)
theorem EV(l:Ly)(gs:List GC)(p i:Nat):(DG l gs p)[i]?=(gs[i]?).map (fun c=>if p<=i then{c with behind:=A6 l i}else c):=by
 unfold DG;rw[List.getElem?_mapIdx]
theorem ER(l:Ly)(gs:List GC)(p:Nat):(DG l gs p).length=gs.length:=by simp[DG]
theorem RK{gs:List GC}:(DG l gs (p+1)).modify p (fun c=>{c with behind:=A6 l p})=DG l gs p:=by
 apply JR;intro i;rw[JL,EV,EV]
 cases gs[i]? with
 |none=>rfl
 |some c=>
  simp
  by_cases e:p=i
  ·subst e;have a:¬p+1<=p:=Yo
   simp[a]
  ·rw[QP e]
   by_cases h:p+1<=i
   ·rw[QQ h,QQ Yo]
   ·rw[QP h,QP Yo]
theorem Ua(l:Ly)(gs:List GC)(p:Nat)(h:gs.length<=p):DG l gs p=gs:=by
 apply JR;intro i;rw[EV]
 cases a:gs[i]? with
 |none=>rfl
 |some c=>
  have:=(Qa.1 a).1;simp;omega
theorem Oy(w:World)(b:Nat)(v:Value)(gs:List GC)(l:Ly)(h:F6 w b v gs)(s:gs.length=l.length)(P:∀i c,gs[i]?=some c->c.sym=AB l i)(H:Wf 2 l)(hl:gs.length<=4000):
  Calls prog 188 #[Pt b] w fun e w'=>e=Rq #[]/\F6 w' b v (DG l gs 0)/\Ad (Ak v) w w':=by
 have O:0<gs.length:=by have:=BR H;omega
 obtain⟨cb,m,rfl,av,au,a2,ax⟩:=h.shape O;have X:w.cell? ⟨b,0,none⟩=some (slice (some ⟨cb,0,none⟩) gs.length m):=Aa h.box 0 _ rfl;have R:=Yh h;have W:=Yh P;have y:=Yh H;have V:=Yh s;clear h P H s;go_enter func188,ntmps188;go_wp2
 go_loopg [2] (gs.length+1) (fun gk aj wr=>∃(p:Nat),aj=int i64 ((p:Int)-1)/\p<=gs.length/\p<gk/\F6 wr b (slice (some ⟨cb,0,none⟩) gs.length m) (DG l gs p)/\Ad (Ak (slice (some ⟨cb,0,none⟩) gs.length m)) w wr)
 case atStart=>exact⟨gs.length,rfl,Qe _,Yo,by rw[Ua _ _ _ (Qe _)];exact R.o,Ad.refl _ _⟩
 case round=>
  obtain⟨p,rfl,a3,a0,n,G⟩:=hrel;have a5:=G.size;have X:wr.cell? ⟨b,0,none⟩=some (slice (some ⟨cb,0,none⟩) gs.length m):=Aa n.box 0 _ rfl;have az:=Ac n.box;have aw:cb<wr.heap.size:=Yo
  have ay:∀j,wr.frozen? ⟨cb,j,none⟩=false:=by
   obtain⟨ap,ao,e,_,_,_,ad⟩:=n.shape (by rw[ER];exact O);simp at e;obtain⟨rfl,_⟩:=e;exact ad
  have I:=Yh n;have K:=Yh G;clear n G
  cases p with
  |zero=>
   go_wp2;go_end0;exact⟨rfl,I.o,K.o⟩
  |succ p=>
   have af:(((p+1:Nat):Int)-1)=(p:Int):=Yo
   have a4:(0:Int)<=(p:Int):=Yo
   have ag:p<gs.length:=Yo
   obtain⟨c,D⟩:∃c,gs[p]?=some c:=⟨_,Qb ag⟩;have E:(DG l gs (p+1))[p]?=some c:=by rw[EV,D];simp;intro h;omega
   have C:F6 wr b (slice (some ⟨cb,0,none⟩) (DG l gs (p+1)).length m) (DG l gs (p+1)):=by rw[ER];exact I.o
   obtain⟨_,_,am,an,_,_⟩:=C.cell E;have Q:=W.o p c D;have s:=V.o;obtain⟨L,z,A⟩:=Fm y.o (i:=p) Yo;obtain⟨_,_,_,_,_,ab,_⟩:=DR y.o (i:=p) Yo;rw[<-Q]at L z A;have r:∀k,k<c.sym.args->p<AJ l (p+1) k/\AJ l (p+1) k<gs.length:=fun k F=>by
    have:=z _ (Qh (BN l (p+1) _ k F));omega
   have ar:c.sym.args<=4000:=by
    rcases QB 4000 c.sym.args with B|B
    ·exfalso;have mono:∀k,k<=c.sym.args->p+1+k<=AJ l (p+1) k:=by
      intro k
      induction k with
      |zero=>intro _;simp[AJ]
      |succ k ai=>
       intro F;have:=ai Yo;rw[BT];have:=r k Yo;obtain⟨_,_,_,_,aq,_⟩:=DR y.o (i:=AJ l (p+1) k) Yo;omega
     have:=mono 4000 Yo;have:=r 4000 B;omega
    ·exact B
   have U:=Yh r;have T:=Yh A;have S:=Yh E;have J:=Yh C;clear r L z A E C ab Q D s;obtain⟨al,ah⟩:∃x,x=wr:=⟨_,rfl⟩;subst ah;rw[af];go_wp2
   go_loopg [3,4] (c.sym.args+1) (fun gk Z nv wr=>∃(k:Nat),Z=int i64 (AJ l (p+1) k:Nat)/\nv=int i64 k/\k<=c.sym.args/\c.sym.args-k<gk/\wr=al)
   case atStart=>exact⟨0,by simp[AJ],Yg,Qm _,Yo,rfl⟩
   case round=>
    obtain⟨k,rfl,rfl,F,a1,rfl⟩:=hrel
    by_cases ae:k<c.sym.args
    ·obtain⟨aa,M⟩:=U.o k ae;obtain⟨q,g⟩:=Ex (AJ l (p+1) k);rw[<-g]at aa M⊢;obtain⟨Y,a⟩:∃c,(DG l gs (p+1))[q]?=some c:=⟨_,Qb (by rw[ER];exact M)⟩;obtain⟨_,_,_,ak,_,_⟩:=J.o.cell a;have N:Y.behind=A6 l q:=by
      rw[EV]at a
      cases hd:gs[q]? with
      |none=>rw[hd]at a;simp at a
      |some d=>
       rw[hd]at a;simp at a;rw[QQ Yo]at a;rw[<-a]
     rw[N]at ak;have t:=Yh g;clear a N g;go_wp2
     go_roundg (c.sym.args-k)
     case measure=>omega
     case rel=>exact⟨k+1,by rw[BT,<-t.o],Yg,Yo,Yo,rfl⟩
    ·have ac:k=c.sym.args:=Yo
     subst ac;obtain⟨q,g⟩:=Ex (AJ l (p+1) c.sym.args);rw[<-g];have t:=Yh g;clear g;go_wp2
     go_roundg (p+1)
     case measure=>omega
     case rel=>
      refine⟨p,by rfl,Yo,Yo,?_,K.o.trans ((Ad.refl _ wr).setCell (p:=⟨cb,p*6+3,none⟩) (fun _=>(rfl:some cb=some cb)) _)⟩;have:=J.o.put S.o (f:=fun c=>{c with behind:=A6 l p}) (j:=3) (u:=int i64 (A6 l p:Nat)) Yo rfl;rw[RK,ER]at this;rw[t.o,T.o];exact this
theorem IS{a0:Act}{vc:Value}{β:Nat->Nat}{lst:Nat->Bool}:∀{ops:List Oper}{kd:List Kd}{k:Nat},(pa a0 vc β lst k ops kd).tmps.size=a0.tmps.size:=by
 intro ops
 induction ops with
 |nil=>intro kd k;simp[pa]
 |cons o os a=>
  intro kd k
  cases kd with
  |nil=>simp[pa]
  |cons q b=>
   rw[pa];split
   ·cases o.dst<;>simp[Act.put,a]
   ·exact a
theorem Ye{a0:Act}{vc:Value}{β:Nat->Nat}{lst:Nat->Bool}:∀{ops:List Oper}{kd:List Kd}{k i:Nat}{o:Oper}{q:Kd}{d:Nat},ops[i]?=some o->kd[i]?=some q->lst (k+i)=true->o.dst=some d->
  (∀j p,ops[j]?=some p->p.dst=some d->j=i)->d<a0.tmps.size->(pa a0 vc β lst k ops kd).tmps[d]?=some (q.val vc β (k+i)):=by
 intro ops
 induction ops with
 |nil=>intro kd k i o q d h;simp at h
 |cons p os u=>
  intro kd k i o q d c a hl hd l g
  cases kd with
  |nil=>simp at a
  |cons r v=>
   cases i with
   |zero=>
    simp at c a;subst c a;simp only[JU]at hl⊢;rw[pa,QQ hl,hd];simp only[Act.put];rw[J9 (by rw[IS];exact g)]
   |succ i=>
    have e:k+(i+1)=k+1+i:=Yo
    have f:=u (kd:=v) (k:=k+1) (i:=i) (by simpa using c) (by simpa using a) (by rw[<-e];exact hl) hd (fun j p' s b=>by
     have:=l (j+1) p' (by simpa using s) b;omega) g
    rw[e,pa];have n:p.dst≠some d:=fun b=>by have:=l 0 p rfl b;omega
    split
    ·cases t:p.dst with
     |none=>simpa[Act.put]using f
     |some m=>
      have:m≠d:=fun e'=>n (by rw[t,e']);simp only[Act.put];rw[Array.getElem?_setIfInBounds_ne (by exact this)];exact f
    ·exact f
inductive Ph where
 |rd (lo hi:Nat) (g:List Value->Value)
 |st (p:Nat)
 |no
def Ph.val(vs:Lv):Ph->Value
 | .rd lo _ g=>g (vs.take lo)
 | .st p=>vs.getD p undef
 | .no=>undef
def Ph.due:Ph->Nat
 | .rd lo _ _=>lo
 | .st p=>p+1
 | .no=>0
def Ph.kd(vs:Lv)(q:Ph):Kd:= .pur (q.val vs)
def Ph.isSt(p:Nat):Ph->Bool
 | .st r=>r==p
 |_=>false
abbrev IB(a0:Act)(vs:List Value)(lst:Nat->Bool)(ops:List Oper)(ph:List Ph):Act:=pa a0 undef Vc lst 0 ops (ph.map (Ph.kd vs))
abbrev EB(a0:Act)(ops:List Oper)(ph:List Ph)(vs:List Value):Act:=IB a0 vs (fun _=>true) ops ph
theorem OH{a0:Act}{lst:Nat->Bool}{f a:Ph->Kd}:∀{ops:List Oper}{ph:List Ph}{k:Nat},(∀j q,ph[j]?=some q->lst (k+j)=true->(f q).val undef Vc (k+j)=(a q).val undef Vc (k+j))->
  pa a0 undef Vc lst k ops (ph.map f)=pa a0 undef Vc lst k ops (ph.map a):=by
 intro ops
 induction ops with
 |nil=>intro ph k _;simp[pa]
 |cons o os d=>
  intro ph k h
  cases ph with
  |nil=>simp[pa]
  |cons q i=>
   have h0:=h 0 q rfl;simp only[JU]at h0;have g:=d (ph:=i) (k:=k+1) (fun j r c=>by
    have:=h (j+1) r (by simpa using c);have e:k+1+j=k+(j+1):=Yo
    rw[e];exact this)
   simp only[Qx];rw[pa,pa,g];split
   ·rename_i b;rw[h0 b]
   ·rfl
def EZ(ops:List Oper):Nat->Nat->Nat->Bool
 |0,_,_=>false
 |n+1,i,j=>match ops[i]? with
  |some o=>C5 o j||(List.range i).any fun k=>C5 o k&&EZ ops n k j
  |none=>false
theorem IZ{ops:List Oper}{L:Nat->Bool}(b:∀(i:Nat) o,ops[i]?=some o->L i=true->∀j,C5 o j=true->L j=true):∀(n i j:Nat),EZ ops n i j=true->L i=true->L j=true:=by
 intro n
 induction n with
 |zero=>intro i j h;simp[EZ]at h
 |succ n e=>
  intro i j h hl;unfold EZ at h
  cases a:ops[i]? with
  |none=>rw[a]at h;simp at h
  |some o=>
   rw[a]at h;simp only[JO,List.any_eq_true,JK,Q6]at h;rcases h with h|⟨k,_,c,d⟩
   ·exact b i o a hl j h
   ·exact e k j d (b i o a hl k c)
theorem SG{ops:List Oper}{L:Nat->Bool}(d:∀(i:Nat) o,ops[i]?=some o->L i=true->∀j,C5 o j=true->L j=true){n i j:Nat}{o:Oper}(e:ops[i]?=some o)(a:∀k,C5 o k=true->L k=true)(h:EZ ops n i j=true):L j=true:=by
 cases n with
 |zero=>simp[EZ]at h
 |succ n=>
  unfold EZ at h;rw[e]at h;simp only[JO,List.any_eq_true,JK,Q6]at h;rcases h with h|⟨k,_,b,c⟩
  ·exact a j h
  ·exact IZ d n k j c (a k b)
def Ik(ph:List Ph)(p:Nat)(f:Nat->Bool):Bool:=(List.range ph.length).any fun j=>(match ph[j]? with|some r=>r.isSt p|none=>false)&&f j
theorem HX{ph:List Ph}{f:Nat->Bool}(h:Ik ph p f=true):∃j,ph[j]?=some (.st p)/\f j=true:=by
 unfold Ik at h;simp only[List.any_eq_true,JK,Q6]at h;obtain⟨j,_,a,c⟩:=h
 cases b:ph[j]? with
 |none=>rw[b]at a;simp at a
 |some r=>
  rw[b]at a
  cases r with
  |st q=>
   simp only[Ph.isSt,JF]at a;subst a;exact⟨j,b,c⟩
  |_=>simp[Ph.isSt]at a
def Yy(T:Nat)(ops:List Oper)(ph:List Ph)(m n:Nat):Bool:=
 (ops.length==ph.length&&(List.range m).all fun p=>Ik ph p (fun _=>true))&&
 (List.range ops.length).all fun i=>match ops[i]?,ph[i]? with
  |some o,some q=>
   (match o.guard with
    |none=>true
    |some (j,_)=>C5 o j&&(match ops[j]? with
     |some p=>match p.dst with|some d=>decide (d<T)|none=>false
     |_=>false))&&(match o.op with| .select .. =>false|_=>true)&&
   (o.after.all fun e=> !Region.binds .any e||e.on<i)&&
   ((List.range ops.length).all fun j=>match ops[j]? with
    |some p=>match p.dst with
     |some d=>((j==i)||(o.dst !=some d))&&(!(o.looksAt ops.toArray).contains d||C5 o j)
     |none=>true
    |none=>true)&&
   (match q with
    | .rd lo hi _=>(lo==0||Ik ph (lo-1) (fun j=>EZ ops n i j))&&(decide (m<=hi)||Ik ph hi (fun j=>EZ ops n j i))
    | .st p=>decide (p<m)&&(p==0||Ik ph (p-1) (fun j=>EZ ops n i j))&&((List.range ops.length).all fun j=>j==i||(match ph[j]? with|some r=> !r.isSt p|none=>true))
    | .no=>o.guard.isSome)
  |_,_=>false
inductive VB (P:Program) (S:List Value->World->Prop) (vs:List Value) (u:World) (ev:Operand->Value) (o:Oper):Prop
 |value (v:Value) (w':World) (h:(execOp ev o).run P u= .ok (.value v) w') (hS:S (vs++[v]) w')
 |skip (w':World) (h:(execOp ev o).run P u= .ok .skip w') (hS:S (vs++[undef]) w')
 |call (f:FuncId) (args:Array Value) (u1:World) (h:(execOp ev o).run P u= .ok (.enter f args) u1) (hS:Calls P f args u1 (fun e u'=>∃v,e= .returned v/\S (vs++[v]) u'))
 |row (f:String) (args:Array Value) (u1:World) (h:(execOp ev o).run P u= .ok (.row f args) u1) (hS:Rows P f args u1 (fun v u'=>S (vs++[v]) u'))
def YE(P:Program)(S:Lv->World->Prop)(FA:Lv->Act)(ph:List Ph)(o:Oper)(q:Ph):Prop:=
 (match o.guard with
  |none=>True
  |some (j,b)=>match ph[j]? with
   |none=>False
   |some r=>∀vs u,r.due<=vs.length->S vs u->(match q with| .no=>r.val vs≠.bool b|_=>r.val vs= .bool b))/\
 (match q with
  | .rd lo hi g=>∀vs u,lo<=vs.length->vs.length<=hi->S vs u->(execOp (FA vs).eval o).run P u= .ok (.value (g (vs.take lo))) u
  | .st p=>∀vs u,vs.length=p->S vs u->VB P S vs u (FA vs).eval o
  | .no=>True)
structure RB(ops:List Oper)(ph:List Ph)(m:Nat)(a0:Act)(S:List Value->World->Prop)(L:Array Bool)(a:Act)(w:World):Prop where
 size:L.size=ops.length
 closed:∀(i:Nat) o,ops[i]?=some o->L.getD i false=true->∀j,C5 o j=true->L.getD j false=true
 st:∃vs,a=IB a0 vs (fun j=>L.getD j false) ops ph/\S vs w/\vs.length<=m/\(∀(i p:Nat),ph[i]?=some (Ph.st p)->(L.getD i false=true↔p<vs.length))/\(∀(i:Nat) q,ph[i]?=some q->L.getD i false=true->q.due<=vs.length)
theorem VU{a0:Act}{vc:Value}{β:Nat->Nat}{lst i:Nat->Bool}{x:Operand}:∀{ops:List Oper}{kd:List Kd}{k:Nat},(∀j o d,ops[j]?=some o->o.dst=some d->x= .tmp d->lst (k+j)=i (k+j))->
  (pa a0 vc β lst k ops kd).eval x=(pa a0 vc β i k ops kd).eval x:=by
 intro ops
 induction ops with
 |nil=>intro kd k _;simp[pa]
 |cons o os n=>
  intro kd k h
  cases kd with
  |nil=>simp[pa]
  |cons q p=>
   have g:=n (kd:=p) (k:=k+1) (fun j r d m hd a=>by
    have e:k+1+j=k+(j+1):=Yo
    rw[e];exact h (j+1) r d (by simpa using m) hd a)
   rw[pa,pa]
   by_cases a:∃d,o.dst=some d/\x= .tmp d
   ·obtain⟨d,hd,rfl⟩:=a;have h0:=h 0 o d rfl hd rfl;simp only[JU]at h0;rw[<-h0];split
    ·rw[hd];simp only[Act.eval,Act.put,Array.getD_eq_getD_getElem?];rcases QB d a0.tmps.size with c|c
     ·rw[J9 (by rw[IS];exact c),J9 (by rw[IS];exact c)]
     ·rw[Array.getElem?_eq_none (by simp[IS];omega),Array.getElem?_eq_none (by simp[IS];omega)]
    ·exact g
   ·have l:∀d,o.dst=some d->x≠.tmp d:=fun d hd e=>a ⟨d,hd,e⟩;have f:∀(b:Bool)(A:Act)(v:Value),(if b then A.put o.dst v else A).eval x=A.eval x:=fun b A v=>by
     cases b
     ·rfl
     ·exact Act.eval_put l
    rw[f,f];exact g
theorem Un{o:Oper}{j:Nat}(h:C5 o j=true):∃e∈o.after,Region.binds .any e=true/\e.on=j:=by
 unfold C5 at h;rw[<-Array.any_toList]at h;obtain⟨e,a,hb⟩:=List.any_eq_true.1 h;simp only[Q6,JF]at hb;exact⟨e,by simpa using a,hb.1,hb.2⟩
def OT(z T:Nat)(ops:List Oper)(ph:List Ph)(m n:Nat):Bool:=
 (ops.length==ph.length&&(List.range m).all fun p=>Ik ph p (fun _=>true))&&
 (List.range ops.length).all fun i=>match ops[i]?,ph[i]? with
  |some o,some q=>
   (match o.guard with
    |none=>true
    |some (j,_)=>C5 o j&&(match ops[j]? with
     |some p=>match p.dst with|some d=>decide (d<T)|none=>false
     |_=>false))&&(match o.op with| .select .. =>false|_=>true)&&
   (o.after.all fun e=> !Region.binds .any e||e.on<i)&&
   ((List.range ops.length).all fun j=>match ops[j]? with
    |some p=>match p.dst with
     |some d=>((j==i)||(o.dst !=some d))&&(!(o.looksAt ops.toArray).contains d||(C5 o j&&j !=z)||(j==z&&C5 p i))
     |none=>true
    |none=>true)&&
   (match q with
    | .rd lo hi _=>(lo==0||Ik ph (lo-1) (fun j=>EZ ops n i j))&&(decide (m<=hi)||Ik ph hi (fun j=>EZ ops n j i))
    | .st p=>decide (p<m)&&(p==0||Ik ph (p-1) (fun j=>EZ ops n i j))&&((List.range ops.length).all fun j=>j==i||(match ph[j]? with|some r=> !r.isSt p|none=>true))
    | .no=>o.guard.isSome)
  |_,_=>false
structure Yl(z T:Nat)(ops:List Oper)(ph:List Ph)(m n i:Nat)(o:Oper)(q:Ph):Prop where
 gd:o.guard=none\/∃j b p d,o.guard=some (j,b)/\C5 o j=true/\ops[j]?=some p/\p.dst=some d/\d<T
 sel:∀cs b,o.op≠.select cs b
 low:∀e∈o.after,Region.binds .any e=true->e.on<i
 dst:∀j p d,ops[j]?=some p->p.dst=some d->j=i\/o.dst≠some d
 look:∀j p d,ops[j]?=some p->p.dst=some d->d∈o.looksAt ops.toArray->(C5 o j=true/\j≠z)\/(j=z/\C5 p i=true)
 rdl:∀lo hi g,q= .rd (lo+1) hi g->∃j,ph[j]?=some (.st lo)/\EZ ops n i j=true
 rdh:∀lo hi g,q= .rd lo hi g->m<=hi\/∃j,ph[j]?=some (.st hi)/\EZ ops n j i=true
 stm:∀p,q= .st p->p<m
 stl:∀p,q= .st (p+1)->∃j,ph[j]?=some (.st p)/\EZ ops n i j=true
 stu:∀p,q= .st p->∀j,ph[j]?=some (.st p)->j=i
 ng:q= .no->o.guard≠none
theorem TJ{v T:Nat}{ops:List Oper}{ph:List Ph}{m n:Nat}(h:OT v T ops ph m n=true){i:Nat}{o:Oper}(t:ops[i]?=some o):∃q,ph[i]?=some q/\Yl v T ops ph m n i o q:=by
 unfold OT at h;simp only[Q6,List.all_eq_true,JK,JF]at h;obtain⟨⟨hl,_⟩,h⟩:=h;have hi:=(Qa.1 t).1;have h:=h i hi;rw[t]at h
 cases u:ph[i]? with
 |none=>rw[u]at h;simp at h
 |some q=>
  rw[u]at h;simp only[Q6,List.all_eq_true,JK]at h;obtain⟨⟨⟨⟨k,l⟩,w⟩,r⟩,a⟩:=h;refine⟨q,rfl,?_,?_,?_,?_,?_,?_,?_,?_,?_,?_,?_⟩
  ·cases z:o.guard with
   |none=>exact QG rfl
   |some B=>
    obtain⟨j,b⟩:=B;rw[z]at k;simp only[Q6]at k;obtain⟨x,f⟩:=k
    cases c:ops[j]? with
    |none=>rw[c]at f;simp at f
    |some p=>
     rw[c]at f;simp only at f
     cases hd:p.dst with
     |none=>rw[hd]at f;simp at f
     |some d=>
      rw[hd]at f;exact QO ⟨j,b,p,d,rfl,x,c,hd,by simpa using f⟩
  ·intro cs b e;rw[e]at l;simp at l
  ·intro e y hb;have:=Array.all_eq_true_iff_forall_mem.1 w e y;simpa[hb]using this
  ·intro j p d c hd;have:=r j (Qa.1 c).1;rw[c]at this;simp only[hd,Q6,JO,JF,QR]at this;exact this.1
  ·intro j p d c hd A;have:=r j (Qa.1 c).1;rw[c]at this;simp only[hd,Q6,JO,JF,QR]at this;rcases this.2 with(h|h)|h
   ·simp[A]at h
   ·exact QG h
   ·exact QO h
  ·intro lo hi g e;subst e;simp only[Q6,JO]at a;rcases a.1 with h|h
   ·simp at h
   ·exact HX h
  ·intro lo hi g e;subst e;simp only[Q6,JO,Q7]at a;rcases a.2 with h|h
   ·exact QG h
   ·exact QO (HX h)
  ·intro p e;subst e;simp only[Q6,Q7]at a;exact a.1.1
  ·intro p e;subst e;simp only[Q6,JO]at a;rcases a.1.2 with h|h
   ·simp at h
   ·exact HX h
  ·intro p e j s;subst e;simp only[Q6,List.all_eq_true,JK,JO,JF]at a;rcases a.2 j (by have:=(Qa.1 s).1;omega)with h|h
   ·exact h
   ·rw[s]at h;simp[Ph.isSt]at h
  ·intro e;subst e;intro hn;rw[hn]at a;simp at a
abbrev Yj(z i:Nat)(a0:Act)(ops:List Oper)(ph:List Ph)(vs:List Value):Act:=IB a0 vs (fun j=>i==z||j !=z) ops ph
def Ot(P:Program)(S:Lv->World->Prop)(z:Nat)(a0:Act)(ops0:List Oper)(ph0:List Ph):Nat->List Oper->List Ph->Prop
 |k,o::os,q::qs=>YE P S (Yj z k a0 ops0 ph0) ph0 o q/\Ot P S z a0 ops0 ph0 (k+1) os qs
 |_,_,_=>True
theorem Ot.at{S:Lv->World->Prop}{f:Nat}{a0:Act}{d:List Oper}{c:List Ph}:∀{ops:List Oper}{ks:List Ph}{k:Nat},Ot P S f a0 d c k ops ks->
  ∀{i:Nat}{o:Oper}{q:Ph},ops[i]?=some o->ks[i]?=some q->YE P S (Yj f (k+i) a0 d c) c o q:=by
 intro ops
 induction ops with
 |nil=>intro ks k _ i o q h;simp at h
 |cons p os g=>
  intro ks k h i o q b a
  cases ks with
  |nil=>simp at a
  |cons r j=>
   cases i with
   |zero=>simp at b a;subst b a;exact h.1
   |succ i=>
    have:=g h.2 (i:=i) (by simpa using b) (by simpa using a);have e:k+1+i=k+(i+1):=Yo
    rw[e]at this;exact this
theorem BW{ops:List Oper}{b6:Nat}{aw:Exit->Act->World->Prop}{a0:Act}(bv:P.follows .mixedOrders=true)(V:Nat)(ph:List Ph)(m n:Nat)(G:OT V a0.tmps.size ops ph m n=true)
  (S:Lv->World->Prop) (bl:S [] w.drew) (bx:Ot P S V a0 ops ph 0 ops ph)
  (bk:∀vs u,vs.length=m->S vs u->aw .normal (EB a0 ops ph vs) u):
  (Code.region b6 ops.toArray true).wp P aw a0 w:=by
 have a3:ops.length=ph.length/\∀p,p<m->∃j:Nat,ph[j]?=some (Ph.st p):=by
  unfold OT at G;simp only[Q6,JF,List.all_eq_true,JK]at G;exact⟨G.1.1,fun p N=>by obtain⟨j,h,_⟩:=HX (G.1.2 p N);exact⟨j,h⟩⟩
 obtain⟨a3,bm⟩:=a3;have cb:∀{t:Nat}{Q:Ph},ph[t]?=some Q->∃O,ops[t]?=some O/\Yl V a0.tmps.size ops ph m n t O Q:=fun{t Q} s=>by
  have A:=Qb (l:=ops) (i:=t) (by have:=(Qa.1 s).1;omega);obtain⟨cd,am,bj⟩:=TJ G A;rw[s]at am;simp at am;subst am;exact⟨_,A,bj⟩
 refine wp_region_any bv (M4 (J:=RB ops ph m a0 S) ?_ ?_ _ _ _ _ ?_ ?_)
 ·intro L a u i T ak;obtain⟨ao,Z,vs,rfl,K,bb,I,aa⟩:=ak;obtain⟨h0,o,a6,_⟩:=mem_ready.1 T;have A:ops[i]?=some o:=by simpa using a6
  have hi:i<ops.length:=(Qa.1 A).1;have a1:i<L.size:=Yo
  have ag:L.getD i false=false:=by simp[a1]at h0⊢;exact h0
  obtain⟨q,H,B⟩:=TJ G A;have Y:=bx.at A H;have ap:∀k,C5 o k=true->L.getD k false=true:=fun k ab=>DQ T A ab;rw[JJ]at Y;have bp:execOp (IB a0 vs (fun j=>L.getD j false) ops ph).eval o=execOp (Yj V i a0 ops ph vs).eval o:=by
   refine execOp_congr o B.sel (fun x b5=>VU (fun j p d N hd e=> ?_));subst e;simp only[JJ];rcases B.look j p d N hd (Q9 _ (List.mem_filterMap.2 ⟨.tmp d,by simpa using b5,rfl⟩))with⟨ah,bu⟩|⟨rfl,ah⟩
   ·rw[DQ T A ah];symm;simp only[JO,QR];exact QO bu
   ·have bt:L.getD j false=false:=by
     cases bz:L.getD j false with
     |false=>rfl
     |true=>
      have:=Z j p N bz i ah;rw[ag]at this;simp at this
    rw[bt];have bs:i≠j:=by
     intro e;subst e;rw[A]at N;simp at N;subst N;obtain⟨e',bo,bn,ca⟩:=Un ah;have:=B.low e' bo bn;omega
    symm;simp[bs]
  have bc:∀j b,o.guard=some (j,b)->∃r,ph[j]?=some r/\r.due<=vs.length/\yielded ops.toArray (IB a0 vs (fun j=>L.getD j false) ops ph).tmps j=(match r.val vs with| .bool c=>some c|_=>none):=by
   intro j b z;rcases B.gd with al|⟨ai,b9,p,d,al,s,X,aj,bf⟩
   ·rw[al]at z;simp at z
   ·rw[al]at z;simp only[Qo,Prod.mk.injEq]at z;obtain⟨rfl,rfl⟩:=z;obtain⟨r,y,bi⟩:=TJ G X;have ab:(ph.map (Ph.kd vs))[ai]?=some (r.kd vs):=by simp[y]
    have b2:=Ye (a0:=a0) (vc:=undef) (β:=Vc) (lst:=fun j=>L.getD j false) (k:=0) X ab (by simpa using ap ai s) aj (fun b7 p' bg bh=>by
     rcases bi.dst b7 p' d bg bh with h|h
     ·exact h
     ·exact absurd aj h) bf
    refine⟨r,y,aa ai r y (ap ai s),?_⟩;unfold yielded;simp only[List.getElem?_toArray,X,Option.bind_some,aj,b2,Kd.val,Ph.kd]
    cases r.val vs<;>rfl
  have ae:=Ko a1;have a7:∀j,L.getD j false=true->(L.setIfInBounds i true).getD j false=true:=fun j h=>by rw[ae,h];rfl
  have ac:∀j,j≠i->(L.setIfInBounds i true).getD j false=L.getD j false:=fun j h=>by
   rw[ae];have:(j==i)=false:=by rw[Qu];exact h
   simp[this]
  have a8:∀E,(∀j r,ph[j]?=some r->L.getD j false=true->r.val vs=r.val E)->
    (IB a0 vs (fun j=>L.getD j false) ops ph).put o.dst (q.val E)=IB a0 E (fun j=>(L.setIfInBounds i true).getD j false) ops ph:=by
   intro E U;have bd:IB a0 vs (fun j=>L.getD j false) ops ph=IB a0 E (fun j=>L.getD j false) ops ph:=OH (fun j r y hl=>by
    simp only[JJ]at hl;exact U j r y hl)
   rw[bd];have ab:(ph.map (Ph.kd E))[i]?=some (q.kd E):=by simp[H]
   have W:=Vk (a0:=a0) (vc:=undef) (β:=Vc) (lst:=fun j=>L.getD j false) (k:=0) A ab (by simpa using ag) B.dst;simp only[JJ]at W;have be:(q.kd E).val undef Vc i=q.val E:=rfl;rw[be]at W;show(pa a0 undef Vc (fun j=>L.getD j false) 0 ops (ph.map (Ph.kd E))).put o.dst (q.val E)=_;rw[<-W];exact Gc (fun j r y=>⟨by simp only[JJ,ae],fun _=>rfl⟩)
  have ay:∀(t:Nat) O,ops[t]?=some O->(L.setIfInBounds i true).getD t false=true->∀j,C5 O j=true->(L.setIfInBounds i true).getD j false=true:=by
   intro t O s C j M
   by_cases e:t=i
   ·subst e;rw[A]at s;simp at s;subst s;exact a7 _ (DQ T A M)
   ·exact a7 _ (Z t O s ((ac t e).symm.trans C) j M)
  have ba:∀j,EZ ops n i j=true->L.getD j false=true:=fun j h=>SG (L:=fun j=>L.getD j false) Z A ap h;have a2:(∀p,q≠.st p)->q.due<=vs.length->RB ops ph m a0 S (L.setIfInBounds i true) ((IB a0 vs (fun j=>L.getD j false) ops ph).put o.dst (q.val vs)) u:=fun bw b0=>by
   refine⟨by simpa using ao,ay,vs,a8 vs (fun _ _ _ _=>rfl),K,bb,?_,?_⟩
   ·intro t p s;have a5:t≠i:=fun e=>by subst e;rw[H]at s;exact bw p (Option.some.inj s)
    rw[ac t a5];exact I t p s
   ·intro t Q s C
    by_cases e:t=i
    ·subst e;rw[H]at s;simp at s;subst s;exact b0
    ·exact aa t Q s ((ac t e).symm.trans C)
  unfold wpOp;simp only[a6]
  by_cases an:q= .no
  ·subst an
   cases z:o.guard with
   |none=>exact absurd z (B.ng rfl)
   |some av=>
    obtain⟨j,b⟩:=av;obtain⟨r,y,hd,ar⟩:=bc j b z;have D:=Y.1;rw[z]at D;simp only[y]at D;have U:=D vs u hd K;have aq:Region.wanted o (yielded ops.toArray (IB a0 vs (fun j=>L.getD j false) ops ph).tmps)=false:=by
     unfold Region.wanted;rw[z];simp only;rw[ar]
     cases b1:r.val vs with
     |bool c=>
      rw[b1]at U;have:c≠b:=fun e=>U (by rw[e]);simpa using this
     |_=>simp
    rw[QP (by rw[aq];simp)];exact a2 (fun p=>by simp) (Qm _)
  ·have aq:Region.wanted o (yielded ops.toArray (IB a0 vs (fun j=>L.getD j false) ops ph).tmps)=true:=by
    cases z:o.guard with
    |none=>simp[Region.wanted,z]
    |some av=>
     obtain⟨j,b⟩:=av;obtain⟨r,y,hd,ar⟩:=bc j b z;have D:=Y.1;rw[z]at D;simp only[y]at D;have U:=D vs u hd K;have b3:r.val vs= .bool b:=by cases q<;>first|exact U|exact absurd rfl an
     unfold Region.wanted;rw[z];simp only;rw[ar,b3];simp
   rw[QQ aq];refine QG ?_;unfold Oper.wp;rw[bp]
   cases q with
   |no=>exact absurd rfl an
   |rd lo hi g=>
    have a4:lo<=vs.length:=by
     cases lo with
     |zero=>exact Qm _
     |succ lo=>
      obtain⟨j,s,C⟩:=B.rdl lo hi g rfl;exact(I j lo s).1 (ba j C)
    have bq:vs.length<=hi:=by
     rcases B.rdh lo hi g rfl with h|⟨j,s,C⟩
     ·omega
     ·rcases QB hi vs.length with h|h
      ·have M:=(I j hi s).2 h;have:=IZ (L:=fun j=>L.getD j false) Z n j i C M;rw[ag]at this;simp at this
      ·exact h
    have D:(execOp (Yj V i a0 ops ph vs).eval o).run P u=_:=Y.2 vs u a4 bq K;rw[D];exact a2 (fun p=>by simp) a4
   |st p=>
    have a9:vs.length=p:=by
     have s:¬p<vs.length:=fun h=>by
      have:=(I i p H).2 h;rw[ag]at this;simp at this
     cases p with
     |zero=>omega
     |succ p=>
      obtain⟨j,C,X⟩:=B.stl p rfl;have:=(I j p C).1 (ba j X);omega
    have cc:=B.stm p rfl;have af:∀v R,S (vs++[v]) R->RB ops ph m a0 S (L.setIfInBounds i true) ((IB a0 vs (fun j=>L.getD j false) ops ph).put o.dst v) R:=by
     intro v R F;have b4:(Ph.st p).val (vs++[v])=v:=by
      subst a9;simp[Ph.val]
     refine⟨by simpa using ao,ay,vs++[v],?_,F,by simp;omega,?_,?_⟩
     ·rw[<-a8 (vs++[v]) ?_,b4];intro j r s C;have hd:=aa j r s C
      cases r with
      |rd lo hi g=>
       simp only[Ph.due]at hd;simp only[Ph.val];rw[List.take_append_of_le_length hd]
      |st p'=>
       simp only[Ph.due]at hd;simp only[Ph.val,QZ];rw[Qc Yo]
      |no=>rfl
     ·intro t p' s
      by_cases e:t=i
      ·subst e;rw[H]at s;simp at s;subst s;rw[ae];simp;omega
      ·rw[ac t e,I t p' s];have a5:p'≠p:=fun W=>by subst W;exact e (B.stu p' rfl t s)
       simp only[Qg,Qf,Qt];omega
     ·intro t Q s C;simp only[Qg,Qf,Qt]
      by_cases e:t=i
      ·subst e;rw[H]at s;simp at s;subst s;simp only[Ph.due];omega
      ·have:=aa t Q s ((ac t e).symm.trans C);omega
    have D:VB P S vs u (Yj V i a0 ops ph vs).eval o:=Y.2 vs u a9 K
    cases D with
    |value v w' h F=>rw[h];exact af v w' F
    |skip w' h F=>rw[h];exact af undef w' F
    |call f args b8 h F=>
     rw[h];apply F.mono;rintro e R ⟨v,rfl,y⟩;exact af v R y
    |row f args b8 h F=>
     rw[h];exact F.mono (fun v R y=>af v R y)
 ·intro L a u T ak;obtain⟨ao,Z,vs,rfl,K,bb,I,aa⟩:=ak;have ax:∀i,i<ops.length->L.getD i false=true:=by
   intro i
   induction i using Nat.strongRecOn with
   |_ i au=>
    intro hi
    cases hl:L.getD i false with
    |true=>rfl
    |false=>
     exfalso;have A:ops[i]?=some ops[i]:=Qb hi;obtain⟨q,H,B⟩:=TJ G A;have:i∈Region.ready .any ops.toArray L:=by
      refine mem_ready.2 ⟨?_,ops[i],Ys,fun e az hb=>au e.on (B.low e az hb) (by have:=B.low e az hb;omega)⟩;have br:i<L.size:=Yo
      simp[br]at hl⊢;exact hl
     rw[T]at this;simp at this
  have e:IB a0 vs (fun j=>L.getD j false) ops ph=EB a0 ops ph vs:=Gc (fun j r y=>⟨by
   simp only[JJ];exact ax j (by have:=(Qa.1 y).1;simp at this;omega),fun _=>rfl⟩)
  rw[e];refine bk vs u ?_ K;rcases QB vs.length m with h|h
  ·obtain⟨j,M⟩:=bm _ h;have:=(I j _ M).1 (ax j (by have:=(Qa.1 M).1;omega));omega
  ·omega
 ·have:(ops.toArray).size=ops.length:=Ys
  unfold X6;exact Qq (List.length_filter_le _ _) Ys
 ·have hz:∀j,(Array.replicate ops.toArray.size false).getD j false=false:=fun j=>by
   simp only[Array.getD_eq_getD_getElem?,Array.getElem?_replicate];split<;>rfl
  refine⟨Ys,?_,[],?_,bl,Qm _,?_,?_⟩
  ·intro i o _ h;rw[hz]at h;simp at h
  ·have:∀(k:Nat)(os:List Oper)(ad:List Kd),pa a0 undef Vc (fun j=>(Array.replicate ops.toArray.size false).getD j false) k os ad=a0:=by
    intro k os
    induction os generalizing k with
    |nil=>intro ad;simp[pa]
    |cons o os au=>
     intro ad
     cases ad with
     |nil=>simp[pa]
     |cons q ad=>rw[pa,hz];simp only[JQ,if_false];exact au _ _
   exact(this _ _ _).symm
  ·intro i p _;rw[hz];simp
  ·intro i q _ h;rw[hz]at h;simp at h
def Jr(W:World)(V:Value->Prop)(Q:Value->World->Prop):Lv->World->Prop
 |[],y=>y=W
 |[v],y=>V v/\Q v y
 |_,_=>False
theorem Jr.at{a:World}{V:Value->Prop}{b:Value->World->Prop}{y:World}(h:Jr a V b vs y):vs.length<=0->y=a:=by
 match vs,h with
 |[],h=>exact fun _=>h
 |[v],h=>exact fun h=>by simp at h
def YA(W:World)(Q Q':Value->World->Prop):Lv->World->Prop
 |[],y=>y=W
 |[v],y=>Q v y
 |[v,_],y=>Q' v y
 |_,_=>False
theorem YA.at{a:World}{b c:Value->World->Prop}{y:World}(h:YA a b c vs y)(hl:vs.length<=0):y=a:=by
 obtain rfl:=Q3.1 (show vs.length=0 by omega);exact h
attribute [local simp] Yj EB IB pa Ph.kd Ph.val Kd.val
def gr(cs:List AS):Gr:=⟨cs.length,fun i=>((cs[i]?).map AS.sym).getD ⟨[],0,0⟩,fun i=>((cs[i]?).map AS.kids).getD []⟩
theorem NZ(cs:List AS)(x y:Nat):gr (turn cs x y)=gr cs:=by
 unfold gr;rw[Gg]
 congr 1
 ·funext i
  rw[GW]
  cases cs[i]? with
  |none=>rfl
  |some c=>simp;split<;>rfl
 ·funext i
  rw[GW]
  cases cs[i]? with
  |none=>rfl
  |some c=>simp;split<;>rfl
theorem Cs{cs:List AS}{c:AS}(h:cs[i]?=some c):(gr cs).hd i=c.sym/\(gr cs).kids i=c.kids:=by simp[gr,h]
theorem CK(w:World)(g n a i:Nat)(u:Value):Ad (Ak (slice (some ⟨g,0,none⟩) n a)) w (w.setCell ⟨g,i,none⟩ u):=(Ad.refl _ w).setCell (p:=⟨g,i,none⟩) (fun _=>(rfl:some g=some g)) u
theorem Wo{cs d:List AS}(h:gr d=gr cs){i:Nat}{c a:AS}(f:cs[i]?=some c)(g:d[i]?=some a):a.sym=c.sym/\a.kids=c.kids:=by
 have e:=Cs f;have b:=Cs g;rw[h]at b;exact⟨b.1.symm.trans e.1,b.2.symm.trans e.2⟩
theorem Vy{cs a:List AS}(h:gr a=gr cs):a.length=cs.length:=congrArg Gr.n h
theorem Gp{l:List Nat}{n:Nat}(h:l[k]?=some n):l.take (k+1)=l.take k++[n]:=by rw[QU,h];rfl
theorem Hi{l:List Nat}{n:Nat}(h:l[k]?=some n):l=l.take k++n::l.drop (k+1):=by
 obtain⟨a,e⟩:=Qa.1 h;have:=QC a;rw[e]at this;rw[<-this,JT]
def Iq(m:Nat):Prop:=∀(w:World)(B:Nat)(lv:Value)(cs:List AS)(vs:Lv)(ρ rk:Nat->Nat)(a b:Nat),Bd w B lv cs vs->Fe cs ρ rk->(gr cs).Ok->Ce cs<=m->a<cs.length->b<cs.length->cs.length<=4000->(∀(i:Nat),((gr cs).kids i).length<=4000)->
 Calls prog 211 #[lv,.int .i64 a,.int .i64 b] w fun e w'=>∃(q:Bool)(cs':List AS)(ρ' rk':Nat->Nat),e= .returned (.bool q)/\Bd w' B lv cs' vs/\gr cs'=gr cs/\Fe cs' ρ' rk'/\Ce cs'<=Ce cs/\Ad (Ak lv) w w'/\
  (q=true->Bf (gr cs) ρ ρ' [a] [b])/\(q=false->EA (gr cs) ρ [a] [b])
theorem Rb(m:Nat)(bl:∀k,k<m->Iq k):Iq m:=by
 intro w B dz cs vs r ah a b h ag bs b7 ha hb hl a4;have bf:=Yh a4;clear a4;have X:=ag.rt;have t:=X.lt a ha;have A:=X.lt b hb;have bb:=X.idem a ha;have bc:=X.idem b hb;obtain⟨x,au⟩:=Ex (r a);obtain⟨y,aw⟩:=Ex (r b);rw[<-au]at t bb;rw[<-aw]at A bc;obtain⟨g,E,c,d0,rfl,bu,G,ds,dx,dt,c1,c2,c3,c4,c6,a6⟩:=h.at t;obtain⟨dp,df,f,d2,bz,bw,P,_,_,_,c7,c8,c9,da,dc,a7⟩:=h.at A;simp only[QH,Qo,Addr.mk.injEq]at bz;obtain⟨⟨rfl,_⟩,_,rfl⟩:=bz;obtain⟨d4,c5,rfl⟩:=Ab a6;obtain⟨d5,db,rfl⟩:=Ab a7;have N:=Yh (Mb w B _ cs vs r ah a h ag ha hl);have O:=Yh (Mb w B _ cs vs r ah b h ag hb hl);rw[<-au]at N;rw[<-aw]at O;have R:=Yh h;have C:=Yh ag;have z:=Yh bs;have cl:=Yh b7;have S:=Yh X;have ch:=Yh bl;have U:=Yh au;have V:=Yh aw;have T:=Yh bb;have Z:=Yh bc;have l:=Yh bu;have p:=Yh bw;have dd:=Yh a6;have cm:=Yh G;have cn:=Yh P;have de:=Yh a7;clear h ag bs b7 X bl au aw bb bc bu bw a6 a7 G P
 by_cases av:x=y
 ·have c0:((x:Int)==(y:Int))=true:=by rw[JF];omega
  have s:=Yh av;clear av;go_enter func211,ntmps211;go_wp2_with fail;apply N.o.mono;rintro e w1 ⟨rfl,rfl⟩;go_wp2_with fail;apply O.o.mono;rintro e w1 ⟨rfl,rfl⟩;go_wp2;go_ret;exact⟨true,cs,r,ah,rfl,R.o,rfl,C.o,Qe _,Ad.refl _ _,fun _=>Bf.same S.o (U.o.symm.trans (s.o.trans V.o)),Ys⟩
 ·have c0:((x:Int)==(y:Int))=false:=by rw[Qu];omega
  have s:=Yh av;clear av
  by_cases G:c.sym.name=[]
  ·have cy:c.sym.name.isEmpty=true:=by simpa using G
   go_enter func211,ntmps211;go_wp2_with fail;apply N.o.mono;rintro e w1 ⟨rfl,rfl⟩;go_wp2_with fail;apply O.o.mono;rintro e w1 ⟨rfl,rfl⟩;go_wp2;go_ret;refine⟨true,turn cs x y,mg r x y,_,rfl,R.o.turn t y,NZ _ _ _,C.o.turn t A T.o Z.o s.o,?_,CK _ _ _ _ _ _,fun _=>Bf.var S.o ha hb (QG ⟨U.o,V.o⟩) s.o (by rw[(Cs l.o).1];exact G),Ys⟩;obtain⟨br,H,I,_⟩:=C.o.root _ x c (Qe _) l.o;rw[T.o]at H I;exact JW (Fk H I s.o)
  ·have cy:c.sym.name.isEmpty=false:=by simpa using G
   by_cases P:f.sym.name=[]
   ·have cz:f.sym.name.isEmpty=true:=by simpa using P
    go_enter func211,ntmps211;go_wp2_with fail;apply N.o.mono;rintro e w1 ⟨rfl,rfl⟩;go_wp2_with fail;apply O.o.mono;rintro e w1 ⟨rfl,rfl⟩;go_wp2;go_ret;refine⟨true,turn cs y x,mg r y x,_,rfl,R.o.turn A x,NZ _ _ _,C.o.turn A t Z.o T.o (fun e=>s.o e.symm),?_,CK _ _ _ _ _ _,fun _=>Bf.var S.o ha hb (QO ⟨V.o,U.o⟩) (fun e=>s.o e.symm) (by rw[(Cs p.o).1];exact P),Ys⟩;obtain⟨br,H,I,_⟩:=C.o.root _ y f (Qe _) p.o;rw[Z.o]at H I;exact JW (Fk H I (fun e=>s.o e.symm))
   ·have cz:f.sym.name.isEmpty=false:=by simpa using P
    have cf:YH (c.sym.args=c.kids.length):=by have:=z.o.ar x t;rw[(Cs l.o).1,(Cs l.o).2]at this;exact this
    have cg:YH (f.sym.args=f.kids.length):=by have:=z.o.ar y A;rw[(Cs p.o).1,(Cs p.o).2]at this;exact this
    have bd:YH ((c.sym.name≠f.sym.name\/c.kids.length≠f.kids.length)->EA (gr cs) r [a] [b]):=fun h=>by
     refine HG z.o S.o ha hb (QG ⟨U.o,V.o⟩) (by rw[(Cs l.o).1];exact G) (by rw[(Cs p.o).1];exact P) ?_;rw[(Cs l.o).1,(Cs p.o).1,cf.o,cg.o];exact h
    by_cases ao:c.sym.name=f.sym.name
    ·by_cases an:c.kids.length=f.kids.length
     ·have a5:(c.kids.length:Int)=f.kids.length:=Yo
      have bg:=Yh an;have bh:=Yh ao;have a4:c.kids.length<=4000:=by have:=bf.o x;rw[(Cs l.o).2]at this;exact this
      have cr:YH (Ce (turn cs x y)<Ce cs):=by
       obtain⟨br,H,I,_⟩:=C.o.root _ x c (Qe _) l.o;rw[T.o]at H I;exact Fk H I s.o
      go_enter func211,ntmps211;go_wp2_with fail;apply N.o.mono;rintro e w1 ⟨rfl,rfl⟩;go_wp2_with fail;apply O.o.mono;rintro e w1 ⟨rfl,rfl⟩;go_wp2_with fail;go_quiet (fail);go_wp2
      go_loopg [9] (c.kids.length+1) (fun gk i wr=>∃(k:Nat)(D:List AS)(M ax:Nat->Nat),i=int i64 k/\k<=c.kids.length/\c.kids.length-k<gk/\Bd wr B (slice (some ⟨g,0,none⟩) cs.length E) D vs/\gr D=gr cs/\Fe D M ax/\Ce D<Ce cs/\
       Ad (Ak (slice (some ⟨g,0,none⟩) cs.length E)) w1 wr/\Bf (gr cs) (mg r x y) M (c.kids.take k) (f.kids.take k))
      case atStart=>
       exact⟨0,turn cs x y,mg r x y,_,rfl,Qm _,Yo,Bd.turn (w:=w1.drewN nq) (R.o.ext (fun _ _=>rfl)) t y,NZ _ _ _,C.o.turn t A T.o Z.o s.o,cr.o,((Ad.refl _ w1).drewN nq).trans (CK _ _ _ _ _ _),Bf.nil (by have:=(C.o.turn t A T.o Z.o s.o).rt;rw[Gg]at this;exact this)⟩
      case round=>
       obtain⟨k,D,M,ax,rfl,dy,dw,am,ad,b9,b8,b6,W⟩:=hrel;have al:=Vy ad;obtain⟨dq,dg,dm,d1,b0,bv,a9,_,_,_,_,_,ca,_,_,ae⟩:=am.at (i:=x) Yo;obtain⟨dr,dh,dn,d3,b1,bx,ba,_,_,_,_,_,cb,_,_,af⟩:=am.at (i:=y) Yo;simp only[QH,Qo,Addr.mk.injEq]at b0 b1;obtain⟨⟨rfl,_⟩,cw,rfl⟩:=b0;obtain⟨⟨rfl,_⟩,cx,rfl⟩:=b1;clear cw cx;rw[cm.o]at a9;rw[cn.o]at ba;simp only[Qo]at a9 ba;subst a9 ba;rw[(Wo ad l.o bv).2]at ae;rw[(Wo ad p.o bx).2]at af;have be:=Yh am;have ai:=Yh ad;have bk:=Yh b9;have a0:=Yh b8;have az:=Yh b6;have ay:=Yh W;clear am ad b9 b8 b6 W bv bx c1 c2 c3 c4 c6 c7 c8 c9 da dc
       by_cases a8:k<c.kids.length
       ·obtain⟨K,ap⟩:∃n,c.kids[k]?=some n:=⟨_,Qb a8⟩;obtain⟨L,aq⟩:∃n,f.kids[k]?=some n:=⟨_,Qb (bg.o▸a8)⟩;obtain⟨a1,di,dk,b2,_,_,du⟩:=An ae Yo;simp only[QH]at b2;obtain⟨rfl,_,rfl⟩:=b2;obtain⟨a2,dj,dl,b3,_,_,dv⟩:=An af Yo;simp only[QH]at b3;obtain⟨rfl,_,rfl⟩:=b3;have cc:wr.cell? ⟨a1,k,none⟩=some (int i64 K):=Af ae k _ (by simp[AM,ap]);have cd:wr.cell? ⟨a2,k,none⟩=some (int i64 L):=Af af k _ (by simp[AM,aq]);have cu:K<D.length:=by
         have:=z.o.kl x t K (by rw[(Cs l.o).2];exact Qh ap);rw[al];exact this
        have cv:L<D.length:=by
         have:=z.o.kl y A L (by rw[(Cs p.o).2];exact Qh aq);rw[al];exact this
        have ce:=Yh (ch.o (Ce D) (by have:=cl.o;have:=a0.o;omega) wr.drew B (slice (some ⟨g,0,none⟩) cs.length E) D vs M ax K L (be.o.ext (fun _ _=>rfl)) bk.o (by rw[ai.o];exact z.o) (Qe _) cu cv Yo (by rw[ai.o];exact bf.o));have bi:=Yh ap;have bj:=Yh aq;have ct:k<f.kids.length:=Yo
        clear ae af ap aq al an a5 ao;go_wp2_with fail;refine BW Yk 999 [.rd 0 0 (fun _=>slice (some ⟨g,0,none⟩) cs.length E),.rd 0 0 (fun _=>slice (some ⟨g,0,none⟩) cs.length E),.rd 0 0 (fun _=>int i64 x),.rd 0 0 (fun _=>pointer (some ⟨g,x*4,none⟩)),.rd 0 0 (fun _=>pointer (some ⟨g,x*4+2,none⟩)),.rd 0 0 (fun _=>slice (some ⟨a1,0,none⟩) c.kids.length c5),.rd 0 0 (fun _=>int i64 k),.rd 0 0 (fun _=>pointer (some ⟨a1,k,none⟩)),.rd 0 0 (fun _=>int i64 K),
         .rd 0 0 (fun _=>slice (some ⟨g,0,none⟩) cs.length E),.rd 0 0 (fun _=>int i64 y),.rd 0 0 (fun _=>pointer (some ⟨g,y*4,none⟩)),.rd 0 0 (fun _=>pointer (some ⟨g,y*4+2,none⟩)),.rd 0 0 (fun _=>slice (some ⟨a2,0,none⟩) f.kids.length db),.rd 0 0 (fun _=>int i64 k),.rd 0 0 (fun _=>pointer (some ⟨a2,k,none⟩)),.rd 0 0 (fun _=>int i64 L),.st 0,.rd 1 1 (fun vs=>vs.getD 0 undef)] 1 7 Yk
         (Jr wr.drew (fun _=>True) (fun v u=>∃(q:Bool)(F:List AS)(Q Y:Nat->Nat),v= .bool q/\Bd u B (slice (some ⟨g,0,none⟩) cs.length E) F vs/\gr F=gr cs/\Fe F Q Y/\Ce F<Ce cs/\Ad (Ak (slice (some ⟨g,0,none⟩) cs.length E)) wr u/\
          (q=true->Bf (gr cs) M Q [K] [L])/\(q=false->EA (gr cs) M [K] [L]))) rfl ?_ ?_
        ·refine⟨⟨trivial,fun vs y _ hl d=> ?_⟩,⟨trivial,fun vs y _ hl d=> ?_⟩,⟨trivial,fun vs y _ hl d=> ?_⟩,⟨trivial,fun vs y _ hl d=> ?_⟩,⟨trivial,fun vs y _ hl d=> ?_⟩,⟨trivial,fun vs y _ hl d=> ?_⟩,⟨trivial,fun vs y _ hl d=> ?_⟩,⟨trivial,fun vs y _ hl d=> ?_⟩,⟨trivial,fun vs y _ hl d=> ?_⟩,⟨trivial,fun vs y _ hl d=> ?_⟩,⟨trivial,fun vs y _ hl d=> ?_⟩,⟨trivial,fun vs y _ hl d=> ?_⟩,⟨trivial,fun vs y _ hl d=> ?_⟩,⟨trivial,fun vs y _ hl d=> ?_⟩,⟨trivial,fun vs y _ hl d=> ?_⟩,⟨trivial,fun vs y _ hl d=> ?_⟩,⟨trivial,fun vs y _ hl d=> ?_⟩,⟨trivial,fun vs y hl d=> ?_⟩,⟨trivial,fun vs y _ hl d=> ?_⟩,trivial⟩
         iterate 17 (· obtain rfl:=d.at hl;simp[go_sem,ca,cb,cc,cd,a8,ct,t,A])
         ·obtain rfl:=Q3.1 hl;obtain rfl:y=wr.drew:=d;refine .call 211 #[slice (some ⟨g,0,none⟩) cs.length E,int i64 K,int i64 L] _ (by simp[go_sem]) (ce.o.mono ?_);rintro e u ⟨q,F,Q,Y,rfl,aj,aa,ak,a3,J,ab,ac⟩;rw[ai.o]at aa ab ac;exact⟨_,rfl,trivial,q,F,Q,Y,rfl,aj,aa,ak,by have:=a0.o;omega,⟨J.os,J.tape,J.output,J.size,J.block⟩,ab,ac⟩
         obtain⟨v,rfl⟩:=Q1.1 (show vs.length=1 by omega);simp[go_sem]
        rintro vs w2 hl d;obtain⟨vc,rfl⟩:=Q1.1 hl;obtain⟨_,q,F,Q,Y,rfl,aj,aa,ak,a3,J,ab,ac⟩:=d;simp only[EB,IB,CD,pa,Ph.kd,Ph.val,Kd.val,Qx,QX,Ja,Act.put,Q5,List.take_zero,List.getD_cons_zero];have bm:=Yh aj;have bn:=Yh aa;have bo:=Yh ak;have bp:=Yh a3;have bq:=Yh J;have co:=Yh ab;have cp:=Yh ac;clear aj aa ak a3 J ab ac ca cb cc cd;have cj:YH (∀j∈c.kids.take k,j<(gr cs).n):=fun j W=>z.o.kl x t j (by rw[(Cs l.o).2];exact List.mem_of_mem_take W);have ck:YH (∀j∈f.kids.take k,j<(gr cs).n):=fun j W=>z.o.kl y A j (by rw[(Cs p.o).2];exact List.mem_of_mem_take W)
        cases q
        ·go_wp2;refine Jb (v:= .bool false) (by simp[results,results211,go_sem]) rfl ?_;have bt:=EA.snoc ay.o (cp.o trivial) (c.kids.drop (k+1)) (f.kids.drop (k+1));rw[<-Hi bi.o,<-Hi bj.o]at bt;refine QG ⟨rfl,F,bm.o,bn.o,⟨Q,Y,bo.o⟩,JW bp.o,az.o.trans bq.o,?_⟩;exact LX z.o S.o ha hb (QG ⟨U.o,V.o⟩) (by rw[(Cs l.o).1];exact G) (by rw[(Cs l.o).1,(Cs p.o).1];exact bh.o) (by rw[(Cs l.o).2,(Cs p.o).2];exact bt)
        ·go_wp2
         go_roundg (c.kids.length-k)
         case measure=>omega
         case rel=>
          have b4:=Bf.snoc z.o ay.o (co.o trivial) cj.o ck.o;rw[<-Gp bi.o,<-Gp bj.o]at b4;exact⟨k+1,F,Q,Y,Yg,Yo,Yo,bm.o,bn.o,bo.o,bp.o,az.o.trans bq.o,b4⟩
       ·have cq:k=c.kids.length:=Yo
        subst cq;have ci:YH (Bf (gr cs) r M [a] [b]):=by
         have b5:=ay.o;rw[QT,bg.o,QT]at b5;exact Bf.name z.o S.o ha hb (QG ⟨U.o,V.o⟩) s.o (by rw[(Cs l.o).1];exact G) (by rw[(Cs l.o).1,(Cs p.o).1];exact bh.o) (by rw[(Cs l.o).2,(Cs p.o).2];exact b5)
        clear ae af al an a5 ao;go_wp2;go_ret;exact⟨true,D,M,ax,rfl,be.o,ai.o,bk.o,JW a0.o,az.o,fun _=>ci.o,Ys⟩
     ·have a5:¬(c.kids.length:Int)=f.kids.length:=Yo
      go_enter func211,ntmps211;go_wp2_with fail;apply N.o.mono;rintro e w1 ⟨rfl,rfl⟩;go_wp2_with fail;apply O.o.mono;rintro e w1 ⟨rfl,rfl⟩;go_wp2_with fail;go_quiet (fail);go_wp2;go_ret;exact⟨false,cs,r,ah,rfl,R.o.ext (fun _ _=>rfl),rfl,C.o,Qe _,⟨rfl,rfl,rfl,Qe _,fun _ _ _=>rfl⟩,Ys,fun _=>bd.o (QO an)⟩
    ·go_enter func211,ntmps211;go_wp2_with fail;apply N.o.mono;rintro e w1 ⟨rfl,rfl⟩;go_wp2_with fail;apply O.o.mono;rintro e w1 ⟨rfl,rfl⟩;go_wp2_with fail;go_quiet (fail);go_wp2;go_ret;exact⟨false,cs,r,ah,rfl,R.o.ext (fun _ _=>rfl),rfl,C.o,Qe _,⟨rfl,rfl,rfl,Qe _,fun _ _ _=>rfl⟩,Ys,fun _=>bd.o (QG ao)⟩
theorem S5(m:Nat):Iq m:=by
 induction m using Nat.strongRecOn with
 |_ m a=>exact Rb m a
def fresh(st:List Nat):Nat:=(st.filter (fun n=>n==0)).length
theorem Uw:∀{st:List Nat}{x:Nat},st[x]?=some 0->fresh (st.set x 1)<fresh st:=by
 intro st
 induction st with
 |nil=>intro x h;simp at h
 |cons n st a=>
  intro x h
  cases x with
  |zero=>simp at h;subst h;simp[fresh]
  |succ x=>
   have:=a (x:=x) (by simpa using h);simp only[fresh,JD,List.filter_cons]at this⊢;split<;>simp<;>omega
theorem Ta:∀{st:List Nat}{x:Nat},fresh (st.set x 2)<=fresh st:=by
 intro st
 induction st with
 |nil=>intro x;simp[fresh]
 |cons n st a=>
  intro x
  cases x with
  |zero=>simp[fresh,List.filter_cons];split<;>simp
  |succ x=>
   have:=a (x:=x);simp only[fresh,JD,List.filter_cons]at this⊢;split<;>simp<;>omega
def dn(st:List Nat):Nat->Prop:=fun i=>st[i]?=some 2
def on(st:List Nat):Nat->Prop:=fun i=>st[i]?=some 1
theorem Bd.other{g n:Nat}{a:Value}{cs:List AS}(h:Bd w B lv cs vs)(o:w.ownsRow g 3 1 a n xs)(l:∀(j:Nat)(c:AS)(v:Value),cs[j]?=some c->vs[j]?=some v->∀k,v.ownBlock=some k->¬Ak a k)
  (f:Ad (Ak a) w w'):Bd w' B lv cs vs:=
 ⟨h.len,f.owns h.owns (fun k e=>by
  obtain⟨p,m⟩:=Ay h.owns k e;exact Ai o Yd m),fun i c v b d=>f.owns (h.kids i c v b d) (fun k e=>l i c v b d k e)⟩
theorem Rp(l:List Nat)(i n:Nat):(AM l).set i (int i64 n)=AM (l.set i n):=by simp[AM,List.map_set]
theorem Xz{st:List Nat}(h:st[x]?=some 0)(j:Nat):on (st.set x 1) j↔on st j\/j=x:=by
 have a:=(Qa.1 h).1;unfold on;rw[List.getElem?_set]
 by_cases e:x=j
 ·subst e;simp[a]
 ·simp[e];exact fun e'=>absurd e'.symm e
theorem TS{st:List Nat}(h:st[x]?=some 0)(j:Nat):dn (st.set x 1) j↔dn st j:=by
 have a:=(Qa.1 h).1;unfold dn;rw[List.getElem?_set]
 by_cases e:x=j
 ·subst e;rw[h];simp[a]
 ·simp[e]
theorem NP{st:List Nat}(a:x<st.length)(j:Nat):dn (st.set x 2) j↔dn st j\/j=x:=by
 unfold dn;rw[List.getElem?_set]
 by_cases e:x=j
 ·subst e;simp[a]
 ·simp[e];exact fun e'=>absurd e'.symm e
theorem Xb{st:List Nat}(a:x<st.length)(j:Nat):on (st.set x 2) j↔on st j/\j≠x:=by
 unfold on;rw[List.getElem?_set]
 by_cases e:x=j
 ·subst e;simp[a]
 ·simp[e];exact fun _ e'=>absurd e'.symm e
theorem Md{st:List Nat}{v:Nat}(h:∀n∈st,n<=2)(b:v<=2):∀n∈st.set x v,n<=2:=by
 intro n hn;rcases List.mem_or_eq_of_mem_set hn with a|rfl
 ·exact h n a
 ·exact b
theorem CM.congr{D d:Np}{T e:Nat->Ly}(h:CM G ρ D T)(hd:∀i,d i↔D i)(f:∀i,D i->e i=T i):CM G ρ d e:=by
 refine⟨fun r a=>h.lt r ((hd r).1 a),fun r a=> ?_,fun r a k b=>(hd _).2 (h.kid r ((hd r).1 a) k b)⟩;have c:=(hd r).1 a;rw[f r c,h.tm r c]
 congr 2
 exact JE (fun k b=>(f _ (h.kid r c k b)).symm)
def L0(m:Nat):Prop:=∀(w:World)(B Bs:Nat)(lv sv:Value)(cs:List AS)(vs:Lv)(ρ rk:Nat->Nat)(st:List Nat)(T:Nat->Ly)(i:Nat),Bd w B lv cs vs->Fe cs ρ rk->(gr cs).Ok->w.ownsRow Bs 3 1 sv st.length (AM st)->
 (∀(j:Nat)(c:AS)(v:Value),cs[j]?=some c->vs[j]?=some v->∀k,v.ownBlock=some k->¬Ak sv k)->st.length=cs.length->(∀n∈st,n<=2)->fresh st<=m->i<cs.length->cs.length<=4000->(∀j,((gr cs).kids j).length<=4000)->CM (gr cs) ρ (dn st) T->
 Calls prog 212 #[lv,.int .i64 i,sv] w fun e w'=>∃(qv:Value)(st':List Nat)(T':Nat->Ly),e= .returned qv/\w'.ownsRow Bs 3 1 sv st'.length (AM st')/\Ad (Ak sv) w w'/\st'.length=st.length/\
  ((qv= .bool true/\(∀n∈st',n<=2)/\fresh st'<=fresh st/\CM (gr cs) ρ (dn st') T'/\dn st' (ρ i)/\(∀j,on st' j↔on st j)/\(∀j,dn st j->dn st' j/\T' j=T j))\/(qv= .bool false/\FK (gr cs) ρ (on st) i))
theorem Us(m:Nat)(ay:∀k,k<m->L0 k):L0 m:=by
 intro w B ao c0 c3 cs vs t bg st T i h X az W a1 be c a9 hi hl ah a0;have ak:=X.rt;have L:=ak.lt i hi;have am:=ak.idem i hi;obtain⟨x,Y⟩:=Ex (t i);rw[<-Y]at L am;obtain⟨g,bv,d,c4,rfl,a3,bf,cp,cv,cr,cf,cg,ch,ci,cj,ai⟩:=h.at L;obtain⟨c6,c7,rfl⟩:=Ab ai;obtain⟨gs,an,c2,rfl,cq,bc,cy⟩:=An W Yo;obtain⟨n,hn⟩:∃n,st[x]?=some n:=⟨_,Qb Yo⟩;have cd:w.cell? ⟨gs,x,none⟩=some (int i64 n):=Af W x _ (by simp[AM,hn]);have ce:∀j,w.frozen? ⟨gs,j,none⟩=false:=fun j=>Ag bc j;have cx:=c n (Qh hn);have cz:x<st.length:=Yo
 have O:=Yh (Mb w B _ cs vs t bg i h X hi hl);rw[<-Y]at O;have ap:=Yh h;have bs:=Yh X;have Z:=Yh az;have bn:=Yh a9;have bm:=Yh ay;have y:=Yh Y;have bq:=Yh am;have A:=Yh a3;have ck:=Yh ai;have E:=Yh W;have aa:=Yh a1;have aq:=Yh c;have ar:=Yh a0;have l:=Yh hn;have bt:=Yh bf;have au:=Yh ah;have br:=Yh be;clear be;clear h X az a9 ay Y am a3 ai W a1 c a0 hn bf ak bc ah;have b1:n=0\/n=1\/n=2:=Yo
 rcases b1 with rfl|rfl|rfl
 ·have ah:d.kids.length<=4000:=by have:=au.o x;rw[(Cs A.o).2]at this;exact this
  go_enter func212,ntmps212;go_wp2_with fail;apply O.o.mono;rintro e w1 ⟨rfl,rfl⟩;go_wp2
  go_loopg [8] (d.kids.length+1) (fun gk cc wr=>∃(k:Nat)(b:List Nat)(F:Nat->Ly),cc=int i64 k/\k<=d.kids.length/\d.kids.length-k<gk/\wr.ownsRow ao 3 1 (slice (some ⟨gs,0,none⟩) st.length an) b.length (AM b)/\Ad (Ak (slice (some ⟨gs,0,none⟩) st.length an)) w1 wr/\
    b.length=st.length/\(∀n∈b,n<=2)/\fresh b<fresh st/\CM (gr cs) t (dn b) F/\(∀j∈d.kids.take k,dn b (t j))/\(∀j,on b j↔on st j\/j=x)/\(∀j,dn st j->dn b j/\F j=T j))
  case atStart=>
   refine⟨0,st.set x 1,T,Yg,Qm _,Yo,?_,CK _ _ _ _ _ _,Ys,Md aq.o Yo,Uw l.o,ar.o.congr (TS l.o) (fun _ _=>rfl),Ys,Xz l.o,fun j a=>⟨(TS l.o j).2 a,rfl⟩⟩;have:=Mi E.o x (int i64 1);have ae:(AM st).set x (int i64 1)=AM (st.set x 1):=Rp st x 1;rw[ae]at this;simpa using this
  case round=>
   obtain⟨k,b,F,rfl,cw,cu,aj,S,a8,V,a6,a7,G,bb,ba⟩:=hrel;obtain⟨_,_,co,c5,a4,ag,al,_,_,_,_,_,bi,_,_,U⟩:=(ap.o.other E.o aa.o S).at (i:=x) Yo;simp only[QH,Qo,Addr.mk.injEq]at a4;obtain⟨⟨rfl,_⟩,b8,rfl⟩:=a4;clear b8;rw[bt.o]at al;rw[A.o]at ag;simp only[Qo]at al ag;subst al ag;have bl:=Yh (ap.o.other E.o aa.o S);have ad:=Yh aj;have ac:=Yh S;have C:=Yh a8;have ax:=Yh V;have ab:=Yh a6;have aw:=Yh a7;have av:=Yh G;have N:=Yh bb;have D:=Yh ba;have bd:∃bw,wr.heap[gs]?=some (.cells bw 3 (0,0)):=Ay aj gs rfl;clear aj S a8 V a6 a7 G bb ba cf cg ch ci cj cd ce
   by_cases b4:k<d.kids.length
   ·obtain⟨M,I⟩:∃n,d.kids[k]?=some n:=⟨_,Qb b4⟩;obtain⟨bx,cl,cn,a5,_,_,ct⟩:=An U Yo;simp only[QH]at a5;obtain⟨rfl,_,rfl⟩:=a5;have bj:wr.cell? ⟨bx,k,none⟩=some (int i64 M):=Af U k _ (by simp[AM,I]);have bo:YH (M∈(gr cs).kids (t i)):=by show _∈_;rw[<-y.o,(Cs A.o).2];exact Qh I
    have b7:M<cs.length:=Z.o.kl x L M (by rw[(Cs A.o).2];exact Qh I);have bk:=Yh (bm.o (fresh b) (by have:=bn.o;have:=ab.o;omega) wr B ao (slice (some ⟨g,0,none⟩) cs.length bv) (slice (some ⟨gs,0,none⟩) st.length an) cs vs t bg b F M bl.o bs.o Z.o ad.o aa.o (C.o.trans br.o) ax.o (Qe _) b7 hl au.o aw.o);have bp:=Yh I;clear U I bd;go_wp2_with fail;apply bk.o.mono;rintro e w2 ⟨c1,bh,bu,rfl,p,c,q,⟨rfl,f,af,P,Q,R,z⟩|⟨rfl,f⟩⟩
    ·have J:=Yh (And.intro p (And.intro c (And.intro q (And.intro f (And.intro af (And.intro P (And.intro Q (And.intro R z))))))));clear p c q f af P Q R z bi bj;go_wp2
     go_roundg (d.kids.length-k)
     case measure=>omega
     case rel=>
      obtain⟨p,c,q,f,af,P,Q,R,z⟩:=J.o;refine⟨k+1,bh,bu,Yg,Yo,Yo,p,ac.o.trans c,q.trans C.o,f,by have:=ab.o;omega,P,?_,fun j=>(R j).trans (N.o j),fun j a=>⟨(z j (D.o j a).1).1,(z j (D.o j a).1).2.trans (D.o j a).2⟩⟩;intro j a;rw[Gp bp.o]at a;rcases Qk.1 a with a|a
      ·exact(z _ (av.o j a)).1
      ·simp at a;subst a;exact Q
    ·have J:=Yh (And.intro p (And.intro c (And.intro q f)));clear p c q f bi bj;go_wp2;refine Jb (v:= .bool false) (by simp[results,results212,go_sem]) rfl ?_;obtain⟨p,c,q,f⟩:=J.o;have ca:FK (gr cs) t (on st) i:=FK.up Z.o hi (by rw[<-y.o];exact L) bo.o (fun val cb b0=>by
      obtain⟨r,b9,V⟩:=f val cb b0;exact⟨r,by rw[<-y.o];exact(N.o r).1 b9,V⟩)
     exact⟨_,bh,T,rfl,p,ac.o.trans c,q.trans C.o,QO ⟨rfl,ca⟩⟩
   ·have b2:k=d.kids.length:=Yo
    subst b2;obtain⟨cm,a2⟩:=bd;have zs:∃u,wr.cell? ⟨gs,x,none⟩=some u:=by
     have H:=C.o;have K:=ad.o;rw[H]at K;have s:x<b.length:=Yo
     exact⟨_,Af K x (int i64 (b[x]'s)) (by simp[AM,s])⟩
    obtain⟨u,zs⟩:=zs;have c8:∀j,wr.frozen? ⟨gs,j,none⟩=false:=fun j=>Ag a2 j;clear U a2;go_wp2;refine Jb (v:= .bool true) (by simp[results,results212,go_sem]) rfl ?_;have H:=C.o;have s:x<b.length:=Yo
    have b5:¬dn b x:=fun hd=>by
     have:=(N.o x).2 (QO rfl);unfold on at this;unfold dn at hd;rw[this]at hd;simp at hd
    have G:=av.o;rw[QT]at G;have bz:=aw.o.more (r:=x) L bq.o b5 (by rw[(Cs A.o).2];exact G);refine⟨_,b.set x 2,_,rfl,?_,ac.o.trans (CK _ _ _ _ _ _),by simpa using H,QG ⟨rfl,Md ax.o Yo,Qq Ta (JW ab.o),bz.congr (NP s) (fun _ _=>rfl),by rw[<-y.o];exact(NP s x).2 (QO rfl),?_,?_⟩⟩
    ·have K:=ad.o;rw[H]at K;have:=Mi K x (int i64 2);have ae:(AM b).set x (int i64 2)=AM (b.set x 2):=Rp b x 2;rw[ae]at this;simpa[H]using this
    ·intro j;rw[Xb s,N.o];constructor
     ·rintro⟨h|h,b6⟩
      ·exact h
      ·exact absurd h b6
     ·intro h;refine⟨QG h,fun e=> ?_⟩;subst e;unfold on at h;rw[l.o]at h;simp at h
    ·intro j a;refine⟨(NP s j).2 (QG (D.o j a).1),?_⟩;have b3:j≠x:=fun e=>by
      subst e;unfold dn at a;rw[l.o]at a;simp at a
     show(if j=x then _ else F j)=T j;rw[QP b3];exact(D.o j a).2
 ·go_enter func212,ntmps212;go_wp2_with fail;apply O.o.mono;rintro e w1 ⟨rfl,rfl⟩;go_wp2;refine Jb (v:= .bool false) (by simp[results,results212,go_sem]) rfl ?_;exact⟨_,st,T,rfl,E.o,Ad.refl _ _,rfl,QO ⟨rfl,FK.here hi (by rw[<-y.o];exact l.o)⟩⟩
 ·go_enter func212,ntmps212;go_wp2_with fail;apply O.o.mono;rintro e w1 ⟨rfl,rfl⟩;go_wp2;refine Jb (v:= .bool true) (by simp[results,results212,go_sem]) rfl ?_;exact⟨_,st,T,rfl,E.o,Ad.refl _ _,rfl,QG ⟨rfl,aq.o,Qe _,ar.o,by rw[<-y.o];exact l.o,fun _=>Iff.rfl,fun j a=>⟨a,rfl⟩⟩⟩
theorem Vp(m:Nat):L0 m:=by
 induction m using Nat.strongRecOn with
 |_ m a=>exact Us m a
def VX(cs:List AS):Prop:=∀(i j:Nat) c d,cs[i]?=some c->cs[j]?=some d->c.sym.name=[]->d.sym.name=[]->c.sym.num=d.sym.num->i=j
structure C8(cs cs':List AS)(ks:List Nat)(ts:List (List BJ)):Prop where
 ext:∃new,cs'=cs++new
 kl:∀k∈ks,k<cs'.length
 up:∀(i:Nat) c,cs.length<=i->cs'[i]?=some c->c.up=i
 ok:∀(i:Nat) c,cs.length<=i->cs'[i]?=some c->c.sym.args=c.kids.length/\(∀k∈c.kids,k<cs'.length)/\(c.sym.name=[]->c.kids=[])/\(c.sym.name≠[]->c.sym.num=0)/\c.kids.length<=4000
 occ:∀(i:Nat) c,cs.length<=i->cs'[i]?=some c->c.sym.name=[]->Cf c.sym.num ts.flatten
 uniq:VX cs->VX cs'
 tm:∀tm0:Nat->List BJ,(∀(i:Nat) c,cs[i]?=some c->c.sym.name=[]->tm0 i=vr c.sym.num)->∃tm:Nat->List BJ,(∀i,i<cs.length->tm i=tm0 i)/\(∀(i:Nat) c,cs.length<=i->cs'[i]?=some c->tm i=c.sym::(c.kids.map tm).flatten)/\ks.map tm=ts
 len:cs'.length<=cs.length+ts.flatten.length
theorem C8.low{cs a:List AS}{ks:List Nat}(h:C8 cs a ks ts){i:Nat}(hi:i<cs.length):a[i]?=cs[i]?:=by
 obtain⟨new,rfl⟩:=h.ext;exact Qc hi
theorem C8.le{cs a:List AS}{ks:List Nat}(h:C8 cs a ks ts):cs.length<=a.length:=by
 obtain⟨new,rfl⟩:=h.ext;simp
theorem C8.nil(cs:List AS):C8 cs cs [] []:=
 ⟨⟨[],Ys⟩,Ys,fun i c h a=>by have:=(Qa.1 a).1;omega,fun i c h a=>by have:=(Qa.1 a).1;omega,fun i c h a=>by have:=(Qa.1 a).1;omega,fun h=>h,
  fun b _=>⟨b,fun _ _=>rfl,fun i c h a=>by have:=(Qa.1 a).1;omega,rfl⟩,Ys⟩
theorem W7{s:BJ}(h:s.name=[])(ha:s.args=0):[s]=vr s.num:=by cases s;simp at h ha;subst h ha;rfl
theorem C8.snoc{cs e p:List AS}{ks:List Nat}{t:Ly}(h:C8 cs e ks ts)(d:C8 e p [k] [t]):C8 cs p (ks++[k]) (ts++[t]):=by
 have G:=h.le;have H:=d.le;have n:∀(i:Nat) c,p[i]?=some c->(e[i]?=some c/\i<e.length)\/e.length<=i:=fun i c a=>by
  rcases QB i e.length with hi|hi
  ·rw[d.low hi]at a;exact QG ⟨a,hi⟩
  ·exact QO hi
 refine⟨?_,?_,?_,?_,?_,fun A=>d.uniq (h.uniq A),?_,?_⟩
 ·obtain⟨B,rfl⟩:=h.ext;obtain⟨C,rfl⟩:=d.ext;exact⟨B++C,Ys⟩
 ·intro j f;rcases Qk.1 f with f|f
  ·have:=h.kl j f;omega
  ·exact d.kl j f
 ·intro i c hi a;rcases n i c a with⟨b,_⟩|b
  ·exact h.up i c hi b
  ·exact d.up i c b a
 ·intro i c hi a;rcases n i c a with⟨b,_⟩|b
  ·obtain⟨o,s,l,u,v⟩:=h.ok i c hi b;exact⟨o,fun k g=>by have:=s k g;omega,l,u,v⟩
  ·exact d.ok i c b a
 ·intro i c hi a hn;rw[JB,B7];rcases n i c a with⟨b,_⟩|b
  ·exact QG (h.occ i c hi b hn)
  ·exact QO (d.occ i c b a hn)
 ·intro D h0;obtain⟨E,q,r,w⟩:=h.tm D h0;obtain⟨F,m,x,y⟩:=d.tm E (fun i c a hn=>by
   rcases QB i cs.length with hi|hi
   ·rw[q i hi];rw[h.low hi]at a;exact h0 i c a hn
   ·obtain⟨o,_,l,_⟩:=h.ok i c hi a;rw[r i c hi a,l hn];simp only[QX,QY];exact W7 hn (by rw[o,l hn];rfl))
  refine⟨F,fun i hi=>(m i Yo).trans (q i hi),?_,?_⟩
  ·intro i c hi a;rcases n i c a with⟨b,z⟩|b
   ·rw[m i z,r i c hi b]
    congr 2
    exact JE (fun k g=>(m k ((h.ok i c hi b).2.1 k g)).symm)
   ·exact x i c b a
  ·rw[Qr,y]
   congr 1
   rw[<-w];exact JE (fun k g=>m k (h.kl k g))
 ·have:=h.len;have:=d.len;simp only[JB,Qg]at*;omega
theorem C8.hit{cs:List AS}{n:Nat}{c:AS}(b:cs[i]?=some c)(hn:c.sym.name=[])(d:c.sym.num=n):C8 cs cs [i] [vr n]:=by
 have hi:=(Qa.1 b).1;refine⟨⟨[],Ys⟩,by simpa using hi,fun i c h a=>by have:=(Qa.1 a).1;omega,fun i c h a=>by have:=(Qa.1 a).1;omega,fun i c h a=>by have:=(Qa.1 a).1;omega,fun h=>h,fun e h0=> ?_,Ys⟩;exact⟨e,fun _ _=>rfl,fun i c h a=>by have:=(Qa.1 a).1;omega,by simp[h0 i c b hn,d]⟩
theorem C8.miss{cs:List AS}{n:Nat}(p:∀(i:Nat) c,cs[i]?=some c->c.sym.name=[]->c.sym.num≠n):C8 cs (cs++[⟨⟨[],n,0⟩,[],cs.length⟩]) [cs.length] [vr n]:=by
 have b:∀(i:Nat) c,(cs++[(⟨⟨[],n,0⟩,[],cs.length⟩:AS)])[i]?=some c->cs[i]?=some c\/(i=cs.length/\c=⟨⟨[],n,0⟩,[],cs.length⟩):=fun i c a=>by
  rcases QB i cs.length with hi|hi
  ·rw[Qc hi]at a;exact QG a
  ·have:=(Qa.1 a).1;simp at this;have e:i=cs.length:=Yo
   subst e;simp at a;exact QO ⟨rfl,a.symm⟩
 have f:∀(i:Nat) c,cs.length<=i->(cs++[(⟨⟨[],n,0⟩,[],cs.length⟩:AS)])[i]?=some c->i=cs.length/\c=⟨⟨[],n,0⟩,[],cs.length⟩:=fun i c hi a=>by
  rcases b i c a with h|h
  ·have:=(Qa.1 h).1;omega
  ·exact h
 refine⟨⟨_,rfl⟩,Ys,?_,?_,?_,?_,?_,by simp[vr]⟩
 ·intro i c hi a;obtain⟨rfl,rfl⟩:=f i c hi a;rfl
 ·intro i c hi a;obtain⟨rfl,rfl⟩:=f i c hi a;simp
 ·intro i c hi a _;obtain⟨rfl,rfl⟩:=f i c hi a;exact B7.2 (QG (Er.2 rfl))
 ·intro q i j c d a hd l m g;rcases b i c a with o|⟨rfl,rfl⟩
  ·rcases b j d hd with k|⟨rfl,rfl⟩
   ·exact q i j c d o k l m g
   ·exact absurd g (p i c o l)
  ·rcases b j d hd with k|⟨rfl,rfl⟩
   ·exact absurd g.symm (p j d k m)
   ·rfl
 ·intro r _;refine⟨fun i=>if i=cs.length then vr n else r i,fun i hi=>by simp[show i≠cs.length by omega],?_,Ys⟩;intro i c hi a;obtain⟨rfl,rfl⟩:=f i c hi a;simp[vr]
def fill(cs:List AS)(x:Nat)(ks:List Nat):List AS:=cs.modify x (fun c=>{c with kids:=ks})
theorem Hm(cs:List AS)(x:Nat)(ks:List Nat):(fill cs x ks).length=cs.length:=by simp[fill]
theorem KZ(cs:List AS)(x:Nat)(ks:List Nat)(i:Nat):(fill cs x ks)[i]?=(cs[i]?).map (fun c=>if x=i then{c with kids:=ks}else c):=by
 simp only[fill,JL]
 cases cs[i]? with
 |none=>rfl
 |some c=>simp
theorem C8.name{cs g:List AS}{nm:Lu}{ks:List Nat}(hn:nm≠[])(hl:ls.length<=4000)(h:C8 (cs++[⟨⟨nm,0,ls.length⟩,[],cs.length⟩]) g ks ls):C8 cs (fill g cs.length ks) [cs.length] [⟨nm,0,ls.length⟩::ls.flatten]:=by
 obtain⟨new,q⟩:=h.ext;have l:(cs++[(⟨⟨nm,0,ls.length⟩,[],cs.length⟩:AS)]).length=cs.length+1:=Ys
 have y:=h.le;rw[l]at y;have x:ks.length=ls.length:=by
  obtain⟨tm,_,_,e⟩:=h.tm (fun i=>((cs++[(⟨⟨nm,0,ls.length⟩,[],cs.length⟩:AS)])[i]?.map (fun c=>vr c.sym.num)).getD []) (fun i c a _=>by rw[a];rfl);simpa using congrArg List.length e
 have D:g[cs.length]?=some ⟨⟨nm,0,ls.length⟩,[],cs.length⟩:=by rw[q];simp
 have r:(fill g cs.length ks)[cs.length]?=some ⟨⟨nm,0,ls.length⟩,ks,cs.length⟩:=by rw[KZ,D];simp
 have p:∀i,i≠cs.length->(fill g cs.length ks)[i]?=g[i]?:=fun i hi=>by
  rw[KZ]
  cases g[i]? with
  |none=>rfl
  |some c=>simp;intro e;exact absurd e.symm hi
 have o:∀(i:Nat) c,cs.length<=i->(fill g cs.length ks)[i]?=some c->(i=cs.length/\c=⟨⟨nm,0,ls.length⟩,ks,cs.length⟩)\/(cs.length+1<=i/\g[i]?=some c):=fun i c hi a=>by
  by_cases e:i=cs.length
  ·subst e;rw[r]at a;exact QG ⟨rfl,(Option.some.inj a).symm⟩
  ·rw[p i e]at a;exact QO ⟨Yo,a⟩
 refine⟨?_,?_,?_,?_,?_,?_,?_,?_⟩
 ·refine⟨⟨⟨nm,0,ls.length⟩,ks,cs.length⟩::new,?_⟩;apply JR;intro i;rcases QB i cs.length with hi|hi
  ·rw[p i Yo,q,Qi,Qc hi,Qc hi]
  ·by_cases e:i=cs.length
   ·subst e;rw[r];simp
   ·rw[p i e,q,Qi,Qd hi,Qd hi]
    cases F:i-cs.length with
    |zero=>omega
    |succ j=>simp
 ·rw[Hm];simp;omega
 ·intro i c hi a;rcases o i c hi a with⟨rfl,rfl⟩|⟨b,f⟩
  ·rfl
  ·exact h.up i c (by rw[l];exact b) f
 ·intro i c hi a;rw[Hm];rcases o i c hi a with⟨rfl,rfl⟩|⟨b,f⟩
  ·exact⟨x.symm,h.kl,fun e=>absurd e hn,fun _=>rfl,by simp only;omega⟩
  ·exact h.ok i c (by rw[l];exact b) f
 ·intro i c hi a k;rcases o i c hi a with⟨rfl,rfl⟩|⟨b,f⟩
  ·exact absurd k hn
  ·obtain⟨s,z,m⟩:=h.occ i c (by rw[l];exact b) f k;exact⟨s,by simp;exact QO (List.mem_flatten.1 z),m⟩
 ·intro A;have B:VX (cs++[⟨⟨nm,0,ls.length⟩,[],cs.length⟩]):=by
   intro i j c d a hd b f m;have n:∀(i:Nat) c,(cs++[(⟨⟨nm,0,ls.length⟩,[],cs.length⟩:AS)])[i]?=some c->c.sym.name=[]->cs[i]?=some c:=fun i c a k=>by
    rcases QB i cs.length with hi|hi
    ·rw[Qc hi]at a;exact a
    ·have:=(Qa.1 a).1;simp at this;have e:i=cs.length:=Yo
     subst e;simp at a;subst a;exact absurd k hn
   exact A i j c d (n i c a b) (n j d hd f) b f m
  have C:=h.uniq B;have n:∀(i:Nat) c,(fill g cs.length ks)[i]?=some c->c.sym.name=[]->g[i]?=some c:=fun i c a k=>by
   by_cases e:i=cs.length
   ·subst e;rw[r]at a;simp at a;subst a;exact absurd k hn
   ·rw[p i e]at a;exact a
  intro i j c d a hd b f m;exact C i j c d (n i c a b) (n j d hd f) b f m
 ·intro E h0;obtain⟨tm,t,v,w⟩:=h.tm (fun i=>if i=cs.length then⟨nm,0,ls.length⟩::ls.flatten else E i) (fun i c a k=>by
   rcases QB i cs.length with hi|hi
   ·rw[Qc hi]at a;simp only[show i≠cs.length by omega,if_false];exact h0 i c a k
   ·have:=(Qa.1 a).1;simp at this;have e:i=cs.length:=Yo
    subst e;simp at a;subst a;exact absurd k hn)
  have u:tm cs.length=⟨nm,0,ls.length⟩::ls.flatten:=by rw[t _ (by rw[l];omega)];simp
  refine⟨tm,fun i hi=> ?_,?_,by simp[u]⟩
  ·rw[t i (by rw[l];omega)];simp[show i≠cs.length by omega]
  ·intro i c hi a;rcases o i c hi a with⟨rfl,rfl⟩|⟨b,f⟩
   ·rw[u,<-w]
   ·exact v i c (by rw[l];exact b) f
 ·have:=h.len;rw[Hm];simp at this⊢;omega
end Go.Proofs.YtlmjilpjmgjjcaaGreatDoor
