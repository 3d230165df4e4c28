/-
  PROVED HERE: how the program's nodes and clauses lie in memory (the conditions stand in each statement).
-/
import Derived.Test.YtlmjilpjmgjjcaaGreatDoorT4
import Derived.Laws.OwnMore
set_option linter.unusedSimpArgs false
set_option linter.unusedVariables false
set_option maxRecDepth 10000
set_option maxHeartbeats 4000000
namespace Go.Proofs.YtlmjilpjmgjjcaaGreatDoor
open Go.RowKit
open _root_.Go.Proofs.Tryz
open Go.Value (int slice string agg pointer tuple)
open Go.IntKind (i64)
open Go.Ending (returned)
variable {w w' w1 w2 w0 wr:World}{k B b i p size cap M rb bW x:Nat}{v cv gv vv lv:Value}{xs ys vs:Lv}{X Y S:Np}{s:ByteArray}{t e:TypeId}{P:Program}{l:Ly}{ls ts:Ll}{ρ:Nat->Nat}{σ:Nat->Ly}{cs:Lc}{c:Db}{a:Ll×At}{ds r:Ln}{st:RS}{L:Bj}{G:Gr}{A:List Lu}
attribute [local simp] Yj EB IB pa Ph.kd Ph.val Kd.val
theorem infoCell:(prog.info? 314).map (fun i=>(i.zero,i.size,i.bytes))=some (some (agg #[string ⟨#[]⟩,int i64 0,Nl,int i64 0]),4,56):=by kernel_rfl
theorem Mg{n m:Int}{ca:Oa}{cl cc:Nat}:∀u∈(#[Value.string s,int i64 n,slice ca cl cc,int i64 m]:Av).toList,u.oneCell'=true:=by
 intro u a;simp at a;rcases a with rfl|rfl|rfl|rfl<;>rfl
structure NR(w:World)(B:Nat)(lv:Value)(cs:List AS)(vs:List Value)(lv':Value)(k:Nat)(cs':List AS)(vs':List Value)(ts:List (List BJ))(w':World):Prop where
 cells:Bd w' B lv' cs' vs'
 vals:∃new,vs'=vs++new
 kept:Ad (Ak lv) w w'
 where_:lv'.ownBlock=lv.ownBlock\/∃g,lv'.ownBlock=some g/\w.heap.size<=g
 fresh:∀(i:Nat) v k,vs.length<=i->vs'[i]?=some v->v.ownBlock=some k->w.heap.size<=k
def Pp(n:Nat):Prop:=∀(w:World)(B:Nat)(lv:Value)(cs:List AS)(vs:Lv)(X:Np)(a b c:Value)(t:Ly),t.length<=n->Bd w B lv cs vs->CB X w a b c t->B<=w.heap.size->cs.length+t.length<=4000->
 Calls prog 210 #[lv,.agg #[a,b,c]] w fun e w'=>∃(lv':Value)(k:Nat)(cs':List AS)(vs':Lv),e= .returned (.tuple #[lv',.int .i64 k])/\NR w B lv cs vs lv' k cs' vs' [t] w'/\C8 cs cs' [k] [t]
theorem Rl:∀{cs:List AS}{vs:Lv}(c:AS)(v:Value),vs.length=cs.length->B9 (cs++[c]) (vs++[v])=B9 cs vs++G9 c v:=by
 intro cs
 induction cs with
 |nil=>intro vs c v h;cases vs with
  |nil=>simp[B9]
  |cons _ _=>simp at h
 |cons d cs a=>
  intro vs c v h
  cases vs with
  |nil=>simp at h
  |cons u vs=>
   simp only[Qy,B9];rw[a c v (by simpa using h)];simp
theorem Bd.snoc{g:Value}{cs:List AS}(h:Bd w B lv cs vs)(c:AS)(l:c.kids=[])(ha:Ar w B 314 4 lv (cs.length+1) (B9 cs vs++G9 c Nl) g w1):
  Bd w1 B g (cs++[c]) (vs++[Nl]):=by
 refine⟨by simp[h.len],?_,?_⟩
 ·rw[Rl c _ h.len];simpa using ha.owns
 ·intro i d v a b;rcases QB i cs.length with hi|hi
  ·rw[Qc hi]at a;rw[Qc (by rw[h.len];exact hi)]at b;have f:=h.kids i d v a b;exact ha.kept.owns f (fun k e e'=>by
    obtain⟨m,j⟩:=Ay f k e;exact Ai h.owns Yd j e')
  ·have:=(Qa.1 a).1;simp at this;have e:i=cs.length:=Yo
   subst e;rw[Qd (by rw[h.len];exact Qe _),h.len]at b;simp at a b;subst a b;rw[l];exact Q2 _ _ _ _
theorem P5:∀{cs:List AS}{vs:Lv}{x:Nat}{ks:List Nat}{v:Value},vs.length=cs.length->x<cs.length->B9 (fill cs x ks) (vs.set x v)=(B9 cs vs).set (x*4+2) v:=by
 intro cs
 induction cs with
 |nil=>intro vs x ks v _ h;simp at h
 |cons d cs c=>
  intro vs x ks v hl b
  cases vs with
  |nil=>simp at hl
  |cons u vs=>
   cases x with
   |zero=>simp[fill,B9,G9]
   |succ x=>
    have e:=c (vs:=vs) (x:=x) (ks:=ks) (v:=v) (by simpa using hl) (by simpa using b);have a:fill (d::cs) (x+1) ks=d::fill cs x ks:=by simp[fill]
    rw[a,JD,B9,B9,e,List.set_append_right _ _ (by simp[G9];omega)]
    congr 2
    simp[G9]
    try omega
theorem U5{cs:List AS}{c:AS}(h:cs[x]?=some c):fill cs x c.kids=cs:=by
 apply JR;intro i;rw[KZ]
 by_cases e:x=i
 ·subst e;rw[h];simp
 ·cases cs[i]? with
  |none=>rfl
  |some d=>simp[e]
theorem Bd.fill{g n:Nat}{cs:List AS}(h:Bd w B (slice (some ⟨g,0,none⟩) n cap) cs vs){x:Nat}(q:x<cs.length){ks:List Nat}{av:Value}(ha:w.ownsRow B 3 1 av ks.length (AM ks)):
  Bd (w.setCell ⟨g,x*4+2,none⟩ av) B (slice (some ⟨g,0,none⟩) n cap) (YtlmjilpjmgjjcaaGreatDoor.fill cs x ks) (vs.set x av):=by
 have l:∀{m:Nat}{v:Value}{z:Lv},w.ownsRow B 3 1 v m z->∀k,v.ownBlock=some k->k≠g:=fun f k e e'=>by
  subst e';obtain⟨j,s⟩:=Ay f k e;obtain⟨C,o⟩:=Ay h.owns k rfl;rw[s]at o;simp at o
 refine⟨by rw[Hm];simpa using h.len,?_,?_⟩
 ·rw[Hm,P5 h.len q];have p:=h.owns;refine⟨by simpa using p.1,?_⟩;rcases p.2 with⟨a,_⟩|⟨D,A,j,a,hb,t,hn,d,u,y⟩
  ·simp at a
  ·simp at a;obtain⟨rfl,rfl,rfl⟩:=a;refine .inr ⟨g,cap,j.setIfInBounds (x*4+2) av,rfl,hb,Ae t _ _,hn,d,by simpa using u,?_⟩;rw[<-y];simp[List.take_set]
 ·intro i c v a b;rw[KZ]at a
  cases d:cs[i]? with
  |none=>rw[d]at a;simp at a
  |some r=>
   rw[d]at a;simp only[JN,Qo]at a
   by_cases e:x=i
   ·subst e;rw[QQ rfl]at a;subst a;rw[List.getElem?_set_self (by rw[h.len];exact q)]at b;simp only[Qo]at b;subst b;exact Aj ha (fun k e=>Below.heap_setCell _ _ _ _ (l ha k e))
   ·rw[QP e]at a;subst a;rw[QF e]at b;have f:=h.kids i r v d b;exact Aj f (fun k e=>Below.heap_setCell _ _ _ _ (l f k e))
theorem Vw(w:World)(B:Nat)(I:Value)(cs:List AS)(vs:Lv)(n:Nat)(h:Bd w B I cs vs)(al:B<=w.heap.size)(hl:cs.length+1<=4000):
  Calls prog 210 #[I,agg #[string ⟨#[]⟩,int i64 n,Nl]] w fun e w'=>∃(J:Value)(k:Nat)(M:List AS)(ah:Lv),e=Rq #[J,int i64 k]/\NR w B I cs vs J k M ah [vr n] w'/\C8 cs M [k] [vr n]:=by
 obtain⟨la,ag,rfl⟩:=Ab h.owns;have U:=Yh h;clear h;go_enter func210,ntmps210;go_wp2
 go_loopg [6] (cs.length+1) (fun gk i wr=>∃(k:Nat),i=int i64 k/\k<=cs.length/\cs.length-k<gk/\Ad A4 w wr/\wr.heap[w.heap.size]?=some (.cells #[string ⟨#[]⟩,int i64 n,Nl] 183 (0,0))/\
   (∀(i:Nat) c,i<k->cs[i]?=some c->c.sym.name=[]->c.sym.num≠n))
 case atStart=>exact⟨0,Yg,Qm _,Yo,(Ad.refl _ w).alloc _,QL w _,fun i c h=>by omega⟩
 case round=>
  obtain⟨k,rfl,u,Q,G,h0,T⟩:=hrel;obtain⟨aj,b1,b2,ak⟩:=By h0;have s:=Yh G;have j:=Yh h0;have A:=Yh T;have f:=Yh (U.o.ext (w':=wr) (fun k u=>G.block k u (fun h=>h)));clear G h0 T
  by_cases H:k<cs.length
  ·obtain⟨g,L,c,v,P,b,q,_,ac,O,V,W,X,Y,cf,_⟩:=f.o.at H;simp only[QH]at P;obtain⟨rfl,_,rfl⟩:=P;have z:=Yh b;clear b q
   by_cases hn:c.sym.name=[]
   ·have ad:c.sym.name.isEmpty=true:=by simpa using hn
    by_cases y:c.sym.num=n
    ·have ae:((c.sym.num:Int)==(n:Int))=true:=by rw[JF];omega
     have C:=Yh y;clear y;go_wp2_with fail;go_quiet (fail);go_wp2;go_ret2;exact⟨_,k,cs,vs,rfl,⟨f.o.ext (fun _ _=>rfl),⟨[],Ys⟩,(s.o.drewN _).mono (fun _ _ h=>h.elim),QG rfl,fun i v k Z m=>by have:=(Qa.1 m).1;omega⟩,C8.hit z.o hn C.o⟩
    ·have ae:((c.sym.num:Int)==(n:Int))=false:=by rw[Qu];omega
     have C:=Yh y;clear y;go_wp2_with fail;go_quiet (fail);go_wp2
     go_roundg (cs.length-k)
     case measure=>omega
     case rel=>
      refine⟨k+1,Yg,Yo,Yo,s.o.drewN _,j.o,fun i d hi hd t=> ?_⟩
      by_cases e:i=k
      ·subst e;rw[z.o]at hd;simp at hd;subst hd;exact C.o
      ·exact A.o i d Yo hd t
   ·have ad:c.sym.name.isEmpty=false:=by simpa using hn
    go_wp2_with fail;go_quiet (fail);go_wp2
    go_roundg (cs.length-k)
    case measure=>omega
    case rel=>
     refine⟨k+1,Yg,Yo,Yo,s.o.drewN _,j.o,fun i d hi hd t=> ?_⟩
     by_cases e:i=k
     ·subst e;rw[z.o]at hd;simp at hd;subst hd;exact absurd t hn
     ·exact A.o i d Yo hd t
  ·have ab:k=cs.length:=Yo
   subst ab;have af:=Ac j.o
   go_wp2_with (at_builtin;refine Al _ rfl (.tmp 43) (.tmp 50) 308 rfl B 314 infoCell underlying308 rfl Yd _ cs.length (B9 cs vs) rfl f.o.owns _ rfl rfl rfl Mg ?_ ?_ ?_)
   ·omega
   ·omega
   intro J w1 p;have E:=Bd.snoc f.o ⟨⟨[],n,0⟩,[],cs.length⟩ rfl p;obtain⟨g,L,c,v,rfl,b,q,am,ac,O,V,W,X,Y,cf,_⟩:=E.at (i:=cs.length) Ys;have D:=(p.kept.block _ af (Ai f.o.owns Yd j.o)).trans j.o;obtain⟨ao,ap,aq,au⟩:=By D;have K:=Yh E;have r:=Yh p;have ai:=Yh D;have an:=p.kept.size;have R:(cs++[(⟨⟨[],n,0⟩,[],cs.length⟩:AS)]).length=cs.length+1:=Ys
   clear E p D b q;rw[R]at K r O⊢;clear R;go_wp2
   go_loopg [0,8,9] 1 (fun gk l ar i wr=>l=slice (some ⟨g,0,none⟩) (cs.length+1) L/\ar=Nl/\i=int i64 0/\0<gk/\wr=w1)
   case atStart=>exact⟨rfl,rfl,rfl,Yo,rfl⟩
   case round=>
    obtain⟨rfl,rfl,rfl,_,rfl⟩:=hrel;go_wp2;go_ret2;have F:=K.o.fill (x:=cs.length) (ks:=[]) (av:=Nl) Ys (Q2 _ _ _ _);rw[U5 (c:=⟨⟨[],n,0⟩,[],cs.length⟩) Ys]at F;have q:(vs++[Value.slice none 0 0]).set cs.length Nl=vs++[Nl]:=by
     rw[<-f.o.len];simp
    rw[q]at F;refine⟨_,cs.length,_,_,rfl,⟨F,⟨_,rfl⟩,?_,?_,?_⟩,C8.miss (fun i c b=>A.o i c (Qa.1 b).1 b)⟩
    ·have u:=((s.o.mono (fun _ _ h=>h.elim)).then (S:=Ak (slice la cs.length ag)) r.o.kept (fun _ _ h=>h));refine Ad.setCell u (fun H=> ?_) _;rcases r.o.where_ with a|⟨N,a,Q⟩
     ·exact a.symm
     ·simp[Value.ownBlock]at a;subst a;simp only at H;omega
    ·rcases r.o.where_ with a|⟨N,a,Q⟩
     ·exact QG a
     ·exact QO ⟨N,a,Yo⟩
    ·intro i v k Z m aa;have:=(Qa.1 m).1;simp at this;have e:i=vs.length:=Yo
     subst e;simp at m;subst m;simp[Value.ownBlock]at aa
theorem U1(m:Nat)(ak:Pp m)(w:World)(B:Nat)(ab:Value)(cs:List AS)(vs:Lv)(X:Np)(nm:Lu)(a9:nm≠[])(c:Value)(ls:Ll)(xs:Lv)(h:Bd w B ab cs vs)(H:Ed X w c ls xs)(c4:B<=w.heap.size)(db:ls.flatten.length<=m)(hl:cs.length+ls.flatten.length+1<=4000):
  Calls prog 210 #[ab,agg #[string ⟨nm.toArray⟩,int i64 0,c]] w fun e w'=>∃(ac:Value)(k:Nat)(ao:List AS)(cm:Lv),e=Rq #[ac,int i64 k]/\NR w B ab cs vs ac k ao cm [⟨nm,0,ls.length⟩::ls.flatten] w'/\C8 cs ao [k] [⟨nm,0,ls.length⟩::ls.flatten]:=by
 obtain⟨la,be,rfl⟩:=Ab h.owns;obtain⟨ca,P,rfl⟩:=Ab H.1;have bc:=H.wf;have da:ls.length<=ls.flatten.length:=BR (CU bc);have c7:nm.isEmpty=false:=by simpa using a9
 have I:=Yh h;have ai:=Yh H;have bp:=Yh ak;clear h H ak;go_enter func210,ntmps210;go_wp2
 go_loopg [6] 1 (fun gk i wr=>i=int i64 0/\0<gk/\wr=w.alloc (.cells #[string ⟨nm.toArray⟩,int i64 0,slice ca ls.length P] 183))
 case atStart=>exact⟨rfl,Yo,rfl⟩
 case round=>
  obtain⟨rfl,_,rfl⟩:=hrel;have K:=Yh (I.o.ext (w':=w.alloc (.cells #[string ⟨nm.toArray⟩,int i64 0,slice ca ls.length P] 183)) (fun k E=>Jd _ _ _ E))
  go_wp2_with (at_builtin;refine Al _ rfl (.tmp 43) (.tmp 50) 308 rfl B 314 infoCell underlying308 rfl Yd _ cs.length (B9 cs vs) rfl K.o.owns _ rfl Ys rfl Mg ?_ ?_ ?_)
  ·omega
  ·simp;omega
  intro ac w1 s;have ax:=Bd.snoc K.o ⟨⟨nm,0,ls.length⟩,[],cs.length⟩ rfl s;have h0:=(s.kept.block _ Ys (Ai K.o.owns Yd (QL w _))).trans (QL w _);have bn:=Yh ax;have af:=Yh s;have bk:=Yh h0;have ba:=s.kept.size;simp at ba;obtain⟨dd,de,rfl⟩:=Ab s.owns;clear ax s h0;go_wp2
  go_loopg [0,8,9] (ls.length+1) (fun gk lv2 av i wr=>∃(k:Nat)(n:List AS)(p:Lv)(ks:List Nat),i=int i64 k/\k<=ls.length/\ls.length-k<gk/\Bd wr B lv2 n p/\(∃new,p=(vs++[Nl])++new)/\C8 (cs++[⟨⟨nm,0,ls.length⟩,[],cs.length⟩]) n ks (ls.take k)/\ks.length=k/\
    wr.ownsRow (w.heap.size+1) 3 1 av ks.length (AM ks)/\Ad (Ak (slice la cs.length be)) w wr/\(lv2.ownBlock=(Value.slice la cs.length be).ownBlock\/∃g,lv2.ownBlock=some g/\w.heap.size<g)/\(∀(i:Nat) v k,p[i]?=some v->v.ownBlock=some k->¬Ak av k/\(vs.length<=i->w.heap.size<=k))/\
    wr.heap[w.heap.size]?=some (.cells #[string ⟨nm.toArray⟩,int i64 0,slice ca ls.length P] 183 (0,0)))
  case atStart=>
   refine⟨0,_,_,[],Yg,Qm _,Yo,bn.o,⟨[],Ys⟩,C8.nil _,rfl,Q2 _ _ _ _,((Ad.refl _ w).alloc _).then af.o.kept (fun _ _ h=>h),?_,?_,bk.o⟩;rcases af.o.where_ with a|⟨f,a,a3⟩
   ·exact QG a
   ·exact QO ⟨f,a,by simp at a3;omega⟩
   ·intro i v k l b;refine⟨fun e=>by simp[Ak,Value.ownBlock]at e,fun hi=> ?_⟩;have:=(Qa.1 l).1;simp at this;have e:i=vs.length:=Yo
    subst e;simp at l;subst l;simp[Value.ownBlock]at b
  case round=>
   obtain⟨k,n,p,ks,rfl,E,a3,T,bb,G,rfl,S,a5,bd,a2,hb⟩:=hrel;obtain⟨cu,b1,b2,cv⟩:=By hb;obtain⟨ci,cj,rfl⟩:=Ab T.owns;obtain⟨N,O,rfl⟩:=Ab S;have b9:=Ac hb;have a8:n.length+(ls.drop ks.length).flatten.length<=4000:=by
    have l:=G.len;have b:=congrArg List.length (congrArg List.flatten (JT ks.length ls));simp only[JB,Qg,Qf,Qt]at l b;omega
   have b6:=G.le;simp only[Qg,Qf,Qt]at b6;have r:=Yh T;have aj:=Yh bb;have ah:=Yh G;have x:=Yh S;have M:=Yh a5;have C:=Yh bd;have ag:=Yh hb;have L:=Yh a2;clear T bb G S a5 bd hb ba a2
   by_cases b7:ks.length<ls.length
   ·obtain⟨u,F⟩:∃u,ls[ks.length]?=some u:=⟨_,Qb b7⟩;obtain⟨_,az,c9,_⟩:=GS F bc;obtain⟨cq,ct,cw,bh,bi,bj,Z⟩:=ai.o.2.2 ks.length u F;obtain⟨bg,bf,al,an,am,rfl,rfl,rfl⟩:=Z.shape;have Y:∀j,j<w.heap.size->¬X j->Cz w j->wr.heap[j]?=w.heap[j]?/\¬X j:=fun j b4 cg cb=>by
     obtain⟨R,bx⟩:=cb;exact⟨M.o.block j b4 (Ai I.o.owns Yd bx),cg⟩
    have A:=ai.o.on Y;obtain⟨g,c2,R,a4,bv,b3,c6⟩:=An A.1 Yo;simp only[QH]at a4;obtain⟨rfl,_,rfl⟩:=a4;have cn:wr.cell? ⟨g,ks.length*3,none⟩=some (string bg):=Af A.1 _ _ bh;have co:wr.cell? ⟨g,ks.length*3+1,none⟩=some (int i64 bf):=Af A.1 _ _ bi;have cp:wr.cell? ⟨g,ks.length*3+2,none⟩=some (slice al an am):=Af A.1 _ _ bj;have b5:n.length+u.length<=4000:=by
     rw[az]at a8;simp only[Q4,Qg]at a8;omega
    have bl:=Yh (bp.o wr B (slice ci n.length cj) n p X (string bg) (int i64 bf) (slice al an am) u Yo r.o (Z.on Y) Yo b5);have br:=Yh F;clear b3 A Z bh bi bj F az Y;go_wp2_with fail;apply bl.o.mono;rintro e w2 ⟨df,ch,Q,ae,rfl,t,a6⟩;obtain⟨ck,cl,rfl⟩:=Ab t.cells.owns;have au:=t.kept.owns x.o (fun j e e'=>by
     obtain⟨R,y⟩:=Ay x.o j e;exact Ai r.o.owns Yd y e')
    have aw:=(t.kept.block _ b9 (Ai r.o.owns Yd ag.o)).trans ag.o;have dc:=t.kept.size;have d:=Yh t;have bq:=Yh a6;have J:=Yh au;have bm:=Yh aw;clear t a6 au aw cn co cp
    go_wp2_with (at_builtin;refine Al _ rfl (.tmp 70) (.tmp 72) 25 rfl (w.heap.size+1) 3 infoInt underlying25 rfl Yd _ ks.length (AM ks) rfl J.o _ rfl rfl rfl (DT _) ?_ ?_ ?_)
    ·omega
    ·omega
    intro cr w3 aq;have q:=Yh aq;clear aq;go_wp2
    go_roundg (ls.length-ks.length)
    case measure=>omega
    case rel=>
     have ar:∀j,Ak (slice N ks.length O) j->w.heap.size<j:=fun j e=>(J.o.lt j e).1;have ay:∀(i:Nat) v,ae[i]?=some v->∀j,v.ownBlock=some j->¬Ak (slice N ks.length O) j:=fun i v b j e=>by
      obtain⟨ad,z⟩:=d.o.vals;rcases QB i p.length with hi|hi
      ·rw[z,Qc hi]at b;exact(L.o i v j b e).1
      ·have c3:=d.o.fresh i v j hi b e;intro e';have:=(x.o.lt j e').2;omega
     have bw:Bd w3 B (slice ck Q.length cl) Q ae:=by
      refine⟨d.o.cells.len,q.o.kept.owns d.o.cells.owns (fun j e e'=> ?_),fun i c v l b=> ?_⟩
      ·obtain⟨R,y⟩:=Ay d.o.cells.owns j e;exact Ai J.o Yd y e'
      ·have E:=d.o.cells.kids i c v l b;exact q.o.kept.owns E (ay i v b)
     have cc:ls.take (ks.length+1)=ls.take ks.length++[u]:=by rw[QU,br.o];rfl
     obtain⟨new,W⟩:=aj.o;obtain⟨ad,z⟩:=d.o.vals;refine⟨ks.length+1,Q,ae,ks++[ch],Yg,Yo,Yo,bw,⟨new++ad,by rw[z,W];simp⟩,by rw[cc];exact ah.o.snoc bq.o,Ys,by simpa[AM]using q.o.owns,?_,?_,?_,?_⟩
     ·refine(M.o.then d.o.kept (fun i hi e=> ?_)).then q.o.kept (fun i hi e=>absurd (ar i e) Yo)
      rcases C.o with a|⟨f,a,D⟩
      ·exact a.symm.trans e
      ·have:some f=some i:=a.symm.trans e;simp at this;omega
     ·rcases d.o.where_ with a|⟨f,a,D⟩
      ·rcases C.o with aa|⟨bt,aa,b0⟩
       ·exact QG (a.trans aa)
       ·exact QO ⟨bt,a.trans aa,b0⟩
      ·exact QO ⟨f,a,Yo⟩
     ·intro i v j b e;have ce:v.ownBlock=some j->j<w2.heap.size:=fun e=>by
       have hi:=(Qa.1 b).1;rw[d.o.cells.len]at hi;exact((d.o.cells.kids i _ v (Qb hi) b).lt j e).2
      refine⟨fun e'=> ?_,fun hi=> ?_⟩
      ·rcases q.o.where_ with a|⟨f,a,D⟩
       ·exact ay i v b j e (a.symm.trans e')
       ·have bu:some f=some j:=a.symm.trans e';have:=ce e;simp at bu;omega
      ·rcases QB i p.length with U|U
       ·obtain⟨ad,z⟩:=d.o.vals;rw[z,Qc U]at b;exact(L.o i v j b e).2 hi
       ·have:=d.o.fresh i v j U b e;omega
     ·exact(q.o.kept.block _ Yo (fun e=>by have:=ar _ e;omega)).trans bm.o
   ·have a1:ks.length=ls.length:=Yo
    have bo:=Yh a1;have V:cs.length<n.length:=Yo
    obtain⟨g,c1,c,v,a0,y,cd,bv,c8,c5,cx,cy,cz,c0,cf,_⟩:=r.o.at V;simp only[QH]at a0;obtain⟨rfl,_,rfl⟩:=a0;have bs:YH (vs.length=cs.length):=I.o.len;clear a1 y cd;go_wp2;go_ret2;have a7:=ah.o;rw[JS (by rw[bo.o];exact Qe _)]at a7;have bz:=r.o.fill V (AI x.o Yo);obtain⟨new,W⟩:=aj.o;refine⟨_,cs.length,_,_,rfl,⟨bz,?_,?_,?_,?_⟩,C8.name a9 Yo a7⟩
    ·refine⟨slice N ks.length O::new,?_⟩;rw[W,<-bs.o];simp
    ·refine Ad.setCell M.o (fun b8=> ?_) _;rcases C.o with a|⟨f,a,D⟩
     ·exact a.symm
     ·simp[Value.ownBlock]at a;subst a;simp only at b8;omega
    ·rcases C.o with a|⟨f,a,D⟩
     ·exact QG a
     ·exact QO ⟨f,a,Yo⟩
    ·intro i v j l b e
     by_cases ap:cs.length=i
     ·subst ap;rw[List.getElem?_set_self (by rw[r.o.len];exact V)]at b;simp only[Qo]at b;subst b;have:=(x.o.lt j e).1;omega
     ·rw[QF ap]at b;exact(L.o i v j b e).2 l
theorem P7:∀n,Pp n:=by
 intro n
 induction n with
 |zero=>
  intro w B d cs vs X a b c t hl _ h;have:=BR (h.wf _ (Qe _));omega
 |succ n l=>
  intro w B d cs vs X a b c t hl f h e g;rcases h.o with⟨k,rfl,rfl,rfl,rfl⟩|⟨nm,ls,xs,i,rfl,rfl,rfl,j⟩
  ·exact Vw w B d cs vs k f e (by simpa using g)
  ·simp only[Qf]at hl g;exact U1 n l w B d cs vs X nm i c ls xs f j e Yo Yo
theorem Wq{q g:List AS}{y:Nat}{a b:Ly}(m:C8 [] q [x] [a])(n:C8 q g [y] [b]):
  ∃tm,TW (gr g) tm a b/\x<g.length/\y<g.length/\tm x=a/\tm y=b/\Fy (gr g) (fun i=>i)/\Fe g (fun i=>i) (fun _=>0)/\∀i,((gr g).kids i).length<=4000:=by
 have h:=m.snoc n;obtain⟨tm,_,s,o⟩:=h.tm (fun _=>[]) (fun i c f=>by simp at f);simp only[Qy,Qz,Qx,QX,QI,and_true]at o;have u:=h.uniq (fun i j c d f=>by simp at f);have l:∀i,i<g.length->∃c,g[i]?=some c/\(gr g).hd i=c.sym/\(gr g).kids i=c.kids:=fun i hi=>by
  have f:g[i]?=some g[i]:=Qb hi;exact⟨_,f,(Cs f).1,(Cs f).2⟩
 refine⟨tm,⟨⟨?_,?_,?_,?_⟩,?_,?_⟩,h.kl x Ys,h.kl y Ys,o.1,o.2,⟨⟨fun i hi=>hi,fun i _=>rfl⟩,?_,fun _ _ _=>rfl,fun i _ hn=>⟨hn,rfl⟩⟩,?_,?_⟩
 ·intro i hi k r;obtain⟨c,f,_,e⟩:=l i hi;rw[e]at r;exact(h.ok i c (Qm _) f).2.1 k r
 ·intro i hi;obtain⟨c,f,e,e'⟩:=l i hi;rw[e,e'];exact(h.ok i c (Qm _) f).1
 ·intro i hi hn;obtain⟨c,f,e,e'⟩:=l i hi;rw[e]at hn;rw[e'];exact(h.ok i c (Qm _) f).2.2.1 hn
 ·intro i hi hn;obtain⟨c,f,e,e'⟩:=l i hi;rw[e]at hn⊢;exact(h.ok i c (Qm _) f).2.2.2.1 hn
 ·intro i hi;obtain⟨c,f,e,e'⟩:=l i hi;rw[e,e'];exact s i c (Qm _) f
 ·intro i hi hn;obtain⟨c,f,e,_⟩:=l i hi;rw[e]at hn⊢;have:=h.occ i c (Qm _) f hn;simp only[Qy,Qz,Q4,QY,Qs,B7]at this;exact this
 ·intro i j hi t m n p;obtain⟨c,f,e,_⟩:=l i hi;obtain⟨d,hd,e',_⟩:=l j t;rw[e]at m p;rw[e']at n p;exact u i j c d f hd m n p
 ·intro i c f;have:=h.up i c (Qm _) f;exact⟨by rw[this];exact(Qa.1 f).1,this,fun _=>rfl,fun e=>absurd this e⟩
 ·intro i;rcases QB i g.length with hi|hi
  ·obtain⟨c,f,_,e⟩:=l i hi;rw[e];exact(h.ok i c (Qm _) f).2.2.2.2
  ·simp[gr,QV hi]
theorem T4(w:World)(n:Nat)(hn:n<=100000):∃w',(Instr.makeSlice 25 (int i64 (n:Int)) (int i64 (n:Int))).run prog w= .ok (slice (some ⟨w.heap.size,0,none⟩) n n) w'/\
  w'.ownsRow w.heap.size 3 1 (slice (some ⟨w.heap.size,0,none⟩) n n) (List.replicate n 0).length (AM (List.replicate n 0))/\w.grownBy w' none:=by
 obtain⟨i,b,c,d,f⟩:=info_parts infoInt;obtain⟨w',g,a,h⟩:=run_make_full (P:=prog) w w.heap.size 25 3 i _ 1 underlying25 b c d .i64 .i64 n (by rw[f];omega) (by simp only[maxLen];omega) (Qe _);refine⟨w',g,?_,h⟩;have e:(madeCells (Value.int .i64 0).cells (n*1)).toList=AM (List.replicate n 0):=by
  have:(Value.int .i64 0).cells=#[int i64 0]:=rfl;rw[this,toList_madeCells_one];simp[AM]
 rw[e]at a;simpa using a
theorem HV(w:World)(X:Np)(a b c ad ae af:Value)(l m:Ly)(h:CB X w a b c l)(M:CB X w ad ae af m)(hl:l.length+m.length<=4000):
  Calls prog 206 #[agg #[a,b,c],agg #[ad,ae,af]] w fun e w'=>∃D,e=returned D/\Ao w w'/\((D= .bool true/\∃g,Ts g/\ap g l=ap g m)\/(D= .bool false/\De l m)):=by
 obtain⟨a8,a7,ag,ai,ah,rfl,rfl,rfl⟩:=h.shape;obtain⟨s2,W,J,L,K,rfl,rfl,rfl⟩:=M.shape;have bf:=Yh (P7 l.length ((w.alloc (.cells #[string a8,int i64 a7,slice ag ai ah] 183)).alloc (.cells #[string s2,int i64 W,slice J L K] 183)) (w.heap.size+2) Nl [] [] X _ _ _ l (Qe _)
  ⟨rfl,Q2 _ _ _ _,fun i c v h=>by simp at h⟩ (h.ext Mxt (fun _ _ h=>h)) Ys Yp)
 have a9:=Yh M;clear h M;go_enter func206,ntmps206;go_wp2_with fail;apply bf.o.mono;rintro e w1 ⟨cg,x,bp,b4,rfl,f,U⟩;obtain⟨cc,cd,rfl⟩:=Ab f.cells.owns;have Q:Ad A4 w w1:=(((Ad.refl A4 w).alloc _).alloc _).then f.kept (fun i hi e=>by simp[Ak,Value.ownBlock]at e)
 have aj:w1.heap[w.heap.size+1]?=some (.cells #[string s2,int i64 W,slice J L K] 183 (0,0)):=(f.kept.block (w.heap.size+1) Ys (fun e=>by simp[Ak,Value.ownBlock]at e)).trans
  (by have:=QL (w.alloc (.cells #[string a8,int i64 a7,slice ag ai ah] 183)) (.cells #[string s2,int i64 W,slice J L K] 183);simp only[World.alloc,Array.size_push]at this⊢;exact this)
 obtain⟨bz,b0,b1,b2⟩:=By aj;have bw:=f.kept.size;simp at bw;have bu:=U.len;simp only[Qt,Q4,QY,Qs]at bu;have bg:=Yh (P7 m.length w1 (w.heap.size+2) _ bp b4 X _ _ _ m (Qe _) f.cells (a9.o.ext (Ao.of Q) (fun _ _ h=>h)) Yo Yo);have bj:=Yh f;have bh:=Yh U;have bb:=Yh Q;clear f U Q aj;go_wp2_with fail;apply bg.o.mono;rintro e w2 ⟨lv2,y,n,Y,rfl,p,V⟩;obtain⟨ce,cf,rfl⟩:=Ab p.cells.owns;obtain⟨tm,T,t,C,a2,a3,an,a4,d⟩:=Wq bh.o V;have bv:=V.len;simp only[Q4,QY,Qs]at bv;have b9:=p.kept.size;have aq:Below w.heap.size w w2:=(Ao.of bb.o).trans (p.kept.below Yo (fun k e=>by have:=(bj.o.cells.owns.lt k e).1;omega));have z:=Yh (S5 (Ce n) w2 (w.heap.size+2) _ n Y _ _ x y p.cells a4 T.ok (Qe _) t C Yo d);have bk:=Yh p;have A:=Yh T;have F:=Yh an;have bc:=Yh aq;have bd:=Yh d;have H:=Yh a2;have I:=Yh a3;clear p V T an aq a4 d a2 a3 bz b0 b1 b2;go_wp2_with fail;apply z.o.mono;rintro e w3 ⟨q,B,Z,b3,rfl,al,O,a5,_,R,ay,az⟩;have ak:=Vy O;have ar:Below w.heap.size w w3:=bc.o.trans (R.below Yo (fun k e=>by have:=(bk.o.cells.owns.lt k e).1;omega));have ca:=R.size;have aa:=Yh al;have u:=Yh O;have bo:=Yh a5;have ab:=Yh ar;have bl:=Yh ay;have bm:=Yh az;have E:=Yh ak;clear al O a5 R ar ay az ak
 cases q
 ·go_wp2;refine Jb (v:= .bool false) (by simp[results,results206,go_sem]) rfl ?_;exact⟨_,rfl,ab.o,QO ⟨rfl,Ra A.o F.o t C H.o I.o (bm.o trivial)⟩⟩
 ·obtain⟨w4,b8,ax,P⟩:=T4 w3 n.length Yo;have cb:=P.size;have d:Ad A4 w3 w4:=(Ad.of_grown P).mono (fun _ _ e=>by simp at e);have a6:=bo.o;have am:Bd w4 (w.heap.size+2) _ B Y:=aa.o.ext (fun k bt=>d.block k bt (fun h=>h));have ao:=bl.o rfl;have s:CM (gr B) Z (dn (List.replicate n.length 0)) (fun _=>[]):=(CM.none (gr B) Z (fun _=>[])).congr (fun i=>by
   unfold dn;simp only[iff_false];intro h;have:=Qh h;simp at this) (fun _ h=>h.elim)
  have ba:=Yh (Vp (fresh (List.replicate n.length 0)) w4 (w.heap.size+2) w3.heap.size _ _ B Y Z b3 (List.replicate n.length 0) (fun _=>[]) x am a6 (by rw[u.o];exact A.o.ok) ax (fun j c v bq br k e e'=>by
    have b6:=((aa.o.kids j c v bq br).lt k e).2;have N:some w3.heap.size=some k:=e';simp at N;omega) (by simp[E.o]) Ys (Qe _) (by rw[E.o];exact t) (by rw[E.o];omega) (by rw[u.o];exact bd.o) s)
  have be:=Yh d;have z:=Yh ao;clear d am ao s ax P a6;go_wp2_with fail;apply ba.o.mono;rintro e w5 ⟨D,ch,b5,rfl,_,au,_,a1⟩;have av:Below w.heap.size w w5:=(ab.o.trans (Ad.below (be.o) Yo (fun _ h=>h.elim))).trans (au.below Yo (fun k e=>by
   have N:some w3.heap.size=some k:=e;simp at N;omega))
  have ac:=Yh av;have G:=Yh a1;clear au av a1;rcases G.o with⟨rfl,_,_,S,hd,_,_⟩|⟨rfl,s⟩
  ·have bn:YH (∃g,Ts g/\ap g l=ap g m):=by
    rw[u.o]at S;have aw:=(PM A.o F.o t C H.o I.o z.o S hd).1;exact⟨_,aw.ts,aw.unif⟩
   clear S hd G;go_wp2;refine Jb (v:= .bool true) (by simp[results,results206,go_sem]) rfl ?_;exact⟨_,rfl,ac.o,QG ⟨rfl,bn.o⟩⟩
  ·have bi:YH (De l m):=by
    rw[u.o]at s;refine O3 A.o F.o t C H.o I.o z.o (i:=x) (fun val bx bs=> ?_);obtain⟨r,a0,b7⟩:=s val bx bs;unfold on at a0;have:=Qh a0;simp at this
   clear s G;go_wp2;refine Jb (v:= .bool false) (by simp[results,results206,go_sem]) rfl ?_;exact⟨_,rfl,ac.o,QO ⟨rfl,bi.o⟩⟩
def Fi:List (Nat×Ly)->Nat->Ly
 |L=>fun n=>L.foldl (fun t s=>ap (Br s.1 s.2) t) (vr n)
theorem LR(L:List (Nat×Ly))(v:Nat)(t:Ly):Fi (L++[(v,t)])=fun n=>ap (Br v t) (Fi L n):=by
 funext n;simp[Fi]
theorem infoSub:(prog.info? 300).map (fun i=>(i.zero,i.size,i.bytes))=some (some (agg #[int i64 0,string ⟨#[]⟩,int i64 0,Nl]),4,56):=by kernel_rfl
theorem TI{n m:Int}{ca:Oa}{cl cc:Nat}:∀u∈(#[Value.int .i64 m,string s,int i64 n,slice ca cl cc]:Av).toList,u.oneCell'=true:=by
 intro u a;simp at a;rcases a with rfl|rfl|rfl|rfl<;>rfl
structure GU(X:Nat->Prop)(w:World)(B:Nat)(cv:Value)(n:Nat)(L:List (Nat×List BJ))(xs:List Value):Prop where
 owns:w.ownsRow B 300 4 cv n xs
 len:L.length=n
 all:∀(i:Nat)(s:Nat×List BJ),L[i]?=some s->∃a b c,xs[i*4]?=some (.int .i64 s.1)/\xs[i*4+1]?=some a/\xs[i*4+2]?=some b/\xs[i*4+3]?=some c/\CB X w a b c s.2
theorem GU.nil(X:Np)(w:World)(B:Nat):GU X w B Nl 0 [] []:=⟨Q2 _ _ _ _,rfl,fun i a h=>by simp at h⟩
theorem GU.on{n:Nat}{L:List (Nat×Ly)}(h:GU X w B cv n L xs)(e:∀k,cv.ownBlock=some k->w'.heap[k]?=w.heap[k]?)(d:∀k,k<w.heap.size->¬X k->Cz w k->w'.heap[k]?=w.heap[k]?/\¬Y k):GU Y w' B cv n L xs:=
 ⟨Aj h.owns e,h.len,fun i s f=>by
  obtain⟨a,b,c,j,l,m,o,g⟩:=h.all i s f;exact⟨a,b,c,j,l,m,o,g.on d⟩⟩
theorem GU.ext{B' n:Nat}{L:List (Nat×Ly)}(h:GU X w B cv n L xs)(e:Ao w w')(c:∀k,Y k->X k)(b:B'<=B):GU Y w' B' cv n L xs:=by
 have:=h.on (Y:=Y) (w':=w') (fun k a=>e.block k (h.owns.lt k a).2) (fun k a hn _=>⟨e.block k a,fun h=>hn (c k h)⟩);exact⟨AI this.owns b,this.len,this.all⟩
theorem GU.step{n:Nat}{cv':Value}{L:List (Nat×Ly)}{a b c:Value}{v:Nat}{t:Ly}(h:GU X w B cv n L xs)(j:CB X w a b c t)(ha:Ar w B 300 4 cv (n+1) (xs++[int i64 v,a,b,c]) cv' w'):
  GU X w' B cv' (n+1) (L++[(v,t)]) (xs++[int i64 v,a,b,c]):=by
 have o:∀{a b c:Value}{l:Ly},CB X w a b c l->CB X w' a b c l:=fun j=>j.on (fun k x z y=>by
  obtain⟨F,u⟩:=y;exact⟨ha.kept.block k x (Ai h.owns Yd u),z⟩)
 have f:=h.owns.1;have m:=h.len;refine⟨ha.owns,by simp[m],fun i s d=> ?_⟩;rcases QB i L.length with hi|hi
 ·rw[Qc hi]at d;obtain⟨p,q,r,A,C,D,E,g⟩:=h.all i s d;refine⟨p,q,r,?_,?_,?_,?_,o g⟩
  ·rw[Qc Yo];exact A
  ·rw[Qc Yo];exact C
  ·rw[Qc Yo];exact D
  ·rw[Qc Yo];exact E
 ·have:=(Qa.1 d).1;simp at this;have e:i=L.length:=Yo
  subst e;simp at d;subst d;rw[m];refine⟨a,b,c,?_,?_,?_,?_,o j⟩
  ·rw[Qd Yo,f];simp
  ·rw[Qd Yo,f];simp
  ·rw[Qd Yo,f];simp
  ·rw[Qd Yo,f];simp
structure Dr(Y:Nat->Prop)(B:Nat)(u u':World):Prop where
 size:u.heap.size<=u'.heap.size
 block:∀k,k<u.heap.size->¬Y k->u'.heap[k]?=u.heap[k]?
 low:Below B u u'
theorem Dr.ext{u a:World}(h:Ao u a)(b:B<=u.heap.size):Dr Y B u a:=⟨h.size,fun k c _=>h.block k c,h.mono b⟩
theorem Dr.of{u a:World}(h:Ad S u a)(d:B<=u.heap.size)(b:∀k,S k->Y k)(c:∀k,S k->B<=k):Dr Y B u a:=⟨h.size,fun k f hn=>h.block k f (fun e=>hn (b k e)),h.below d c⟩
theorem Dr.trans{u a b:World}(h:Dr Y B u a)(k:Dr Y B a b):Dr Y B u b:=⟨Qq h.size k.size,fun i hi hn=>(k.block i (JM hi h.size) hn).trans (h.block i hi hn),h.low.trans k.low⟩
theorem CB.stay{u d:World}{a b c:Value}(h:CB Y u a b c l)(f:Dr Y B u d):CB Y d a b c l:=h.on (fun k e hn _=>⟨f.block k e hn,hn⟩)
theorem GU.stay{u b:World}{B' n:Nat}{L:List (Nat×Ly)}(h:GU Y u B' cv n L xs)(a:Dr Y B u b)(c:∀k,B'<=k->¬Y k):GU Y b B' cv n L xs:=
 h.on (fun k e=>a.block k (h.owns.lt k e).2 (c k (h.owns.lt k e).1)) (fun k d hn _=>⟨a.block k d hn,hn⟩)
theorem Dr.put3{n:Nat}{u:World}(hb:B<=b/\b<B+n)(c:B<=u.heap.size)(x y a:Value):Dr (A7 X B n) B u (((u.setCell ⟨b,0,none⟩ x).setCell ⟨b,1,none⟩ y).setCell ⟨b,2,none⟩ a):=
 Dr.of (S:=only b) ((((Ad.refl (only b) u).put 0 x).put 1 y).put 2 a) c (fun k e=>QO (by have e:k=b:=e;omega)) (fun k e=>by have e:k=b:=e;omega)
theorem EI{n:Nat}(h:A7 X B n k)(a:k<B):X k:=by
 rcases h with h|h
 ·exact h
 ·omega
def EL(V:List Nat)(l:Ly):Nat:=(V.filter (fun v=>l.any (fun s=>s.name.isEmpty&&s.num==v))).length
theorem K1{v:Nat}:l.any (fun s=>s.name.isEmpty&&s.num==v)=true↔Cf v l:=by
 simp only[List.any_eq_true,Q6,JF,List.isEmpty_iff];constructor
 ·rintro⟨s,h,a,b⟩;exact⟨s,h,a,b⟩
 ·rintro⟨s,h,a,b⟩;exact⟨s,h,a,b⟩
theorem Na{V:List Nat}{a:Ly}{v:Nat}(d:v∈V)(b:Cf v l)(hn:¬Cf v a)(c:∀n,Cf n a->Cf n l):EL V a<EL V l:=by
 unfold EL;refine Jx (x:=v) (fun n _ h=>K1.2 (c n (K1.1 h))) d (K1.2 b) ?_
 cases h:a.any (fun s=>s.name.isEmpty&&s.num==v)with
 |false=>rfl
 |true=>exact absurd (K1.1 h) hn
theorem E0{v n:Nat}{y:Ly}(h:Cf n (ap (Br v y) l)):(n≠v/\Cf n l)\/(Cf v l/\Cf n y):=by
 rw[Jn]at h;obtain⟨k,b,a⟩:=h;unfold Br at a;split at a
 ·rename_i e;subst e;exact QO ⟨b,a⟩
 ·rename_i e;rw[Er]at a;subst a;exact QG ⟨e,b⟩
def PO(L:List (Nat×Ly)):Prop:=(∀s∈L,Wf 1 s.2/\s.2.length<=30)/\∀k n,(Fi (L.take k) n).length<=30
theorem PO.nil:PO []:=⟨Ys,fun k n=>by simp[Fi,vr]⟩
theorem PO.snoc{L:List (Nat×Ly)}(h:PO L){v:Nat}{t l m la lb:Ly}(g:Wf 1 t/\t.length<=30)(b:Hf l m (Fi (L++[(v,t)])) la lb)(ha:la.length<=30)(hb:lb.length<=30):PO (L++[(v,t)]):=by
 refine⟨fun s a=> ?_,fun k n=> ?_⟩
 ·rcases Qk.1 a with a|a
  ·exact h.1 s a
  ·simp at a;subst a;exact g
 ·rcases QB k (L.length+1)with f|f
  ·rw[List.take_append_of_le_length Yo];exact h.2 k n
  ·rw[JS Yp];have e:∀{l:Ly},Cf n l->1<=l.length:=fun⟨s,a,_⟩=>by cases ‹Ly›with|nil=>simp at a|cons _ _=>simp
   by_cases c:Cf n l
   ·have:=Fw b.ts c;rw[<-b.ha]at this;have:=e c;omega
   ·by_cases d:Cf n m
    ·have:=Fw b.ts d;rw[<-b.hb]at this;have:=e d;omega
    ·rw[b.own n c d];simp[vr]
def Ox(X:Np)(l m:Ly)(w w':World)(r:Value):Prop:=
 (r= .tuple #[.slice none 0 0,.int .i64 0]/\De l m)\/(r= .tuple #[.slice none 0 0,.int .i64 3]/\Hd l m)\/
 (∃cv L xs,r= .tuple #[cv,.int .i64 1]/\GU X w' w.heap.size cv L.length L xs/\ID (Fi L) l m/\(ap (Fi L) l).length<=30/\PO L/\L.length<=60)
theorem Gk(a:1<=k)(h:∀n,(σ n).length<=k)(l:Ly):(ap σ l).length<=l.length*k:=by
 induction l with
 |nil=>simp[ap]
 |cons s l b=>
  rw[Bu];have:(ED σ s).length<=k:=by
   unfold ED;split
   ·exact h _
   ·simpa using a
  simp only[Qg,Qf,Nat.add_mul,Nat.one_mul];omega
theorem EU{v:Nat}{t:Ly}(a:t.length<=30)(hl:l.length<=30):(ap (Br v t) l).length<=900:=by
 have:=Gk (σ:=Br v t) (k:=30) Yo (fun n=>by
  unfold Br;split
  ·exact a
  ·simp[vr]) l
 omega
theorem DW.len{a b x y:Ly}(h:DW a b x y):x.length<=a.length/\y.length<=b.length:=by
 obtain⟨p,c,d,rfl,rfl⟩:=h.ex;simp;omega
set_option maxHeartbeats 8000000 in
theorem Xi(w:World)(X:Np)(a b c fe ff fg:Value)(l m:Ly)(h:CB X w a b c l)(dn:CB X w fe ff fg m)(fr:∀k,X k->k<w.heap.size)(hl:l.length<=30)(gy:m.length<=30):
  Calls prog 181 #[agg #[a,b,c],agg #[fe,ff,fg]] w fun e w'=>∃r,e=returned r/\Ao w w'/\Ox X l m w w' r:=by
 have w1:=h.wf _ (Qe _);have w2:=dn.wf _ (Qe _);obtain⟨ga,f7,fh,fj,fi,rfl,rfl,rfl⟩:=h.shape;obtain⟨s2,f8,fk,fm,fl,rfl,rfl,rfl⟩:=dn.shape;have dq:=Yh h;have dr:=Yh dn;have a3:=Yh fr;have gh:=Yh w1;have gi:=Yh w2;obtain⟨V,fq⟩:∃V:List Nat,V=(l++m).map BJ.num:=⟨_,rfl⟩;have dy:YH (V.length<=60/\∀v,Cf v l\/Cf v m->v∈V):=by
  subst fq;refine⟨by simp;omega,fun v f3=> ?_⟩;rw[<-B7]at f3;obtain⟨s,g1,_,e⟩:=f3;exact Q0.2 ⟨s,g1,e⟩
 clear h dn fr w1 w2 fq;go_enter func181,ntmps181;go_wp2
 go_loopg [8] (EL V (l++m)+1) (fun gk gu wr=>∃(L:List (Nat×Ly))(xs:Lv)(la lb:Ly)(di:ByteArray)(df:Nat)(cc:Oa)(ce cd:Nat)(dj:ByteArray)(dg:Nat)(cf:Oa)(ch cg:Nat),
   Ao w wr/\GU (A7 X w.heap.size 4) wr (w.heap.size+4) gu L.length L xs/\Hf l m (Fi L) la lb/\la.length<=30/\lb.length<=30/\PO L/\EL V (la++lb)<gk/\L.length+EL V (la++lb)<=60/\
   wr.heap[w.heap.size]?=some (.cells #[string di,int i64 df,slice cc ce cd] 183 (0,0))/\wr.heap[w.heap.size+1]?=some (.cells #[string dj,int i64 dg,slice cf ch cg] 183 (0,0))/\
   wr.heap[w.heap.size+1+1]?=some (.cells #[string ga,int i64 f7,slice fh fj fi] 183 (0,0))/\wr.heap[w.heap.size+1+1+1]?=some (.cells #[string s2,int i64 f8,slice fk fm fl] 183 (0,0))/\
   CB (A7 X w.heap.size 4) wr (string di) (int i64 df) (slice cc ce cd) la/\CB (A7 X w.heap.size 4) wr (string dj) (int i64 dg) (slice cf ch cg) lb)
 case atStart=>
  have ft:∀k,k<w.heap.size->A7 X w.heap.size 4 k->X k:=fun k z h=>by
   rcases h with h|h
   ·exact h
   ·omega
  refine⟨[],[],l,m,ga,f7,fh,fj,fi,s2,f8,fk,fm,fl,Mxt,GU.nil _ _ _,Hf.start gh.o gi.o,hl,gy,PO.nil,Yo,?_,?_,?_,?_,?_,dq.o.ext Mxt ft,dr.o.ext Mxt ft⟩
  ·have:EL V (l++m)<=V.length:=List.length_filter_le _ _;have:=dy.o.1;simp;omega
  ·exact Ah (Ah (Ah (QL w _) _) _) _
  ·simpa using Ah (Ah (QL (w.alloc _) _) _) _
  ·simpa using Ah (QL ((w.alloc _).alloc _) _) _
  ·simpa using QL (((w.alloc _).alloc _).alloc _) _
 case round=>
  obtain⟨L,xs,la,lb,di,df,cc,ce,cd,dj,dg,cf,ch,cg,fx,ew,fw,cu,dp,fp,fy,fo,h0,el,fn,em,eu,ev⟩:=hrel;obtain⟨hh,b1,b2,hi⟩:=By h0;obtain⟨hj,hk,hm,hn⟩:=By el;obtain⟨dl,dm,rfl⟩:=Ab ew.owns;have hq:=Ac em;have fs:∀k,A7 X w.heap.size 4 k->k<wr.heap.size:=fun k h=>by have:=C7 a3.o k h;omega
  have gb:=Yh (RE la.length wr (A7 X w.heap.size 4) _ _ _ _ _ _ la lb (Qe _) Yo Yo eu ev fs);have F:=Yh fx;have ed:=Yh ew;have ac:=Yh fw;have dw:=Yh fp;have e7:=Yh h0;have e8:=Yh el;have e9:=Yh fn;have fa:=Yh em;have fc:=Yh eu;have fd:=Yh ev;have fb:=Yh fy;have bx:=Yh fo;clear fx ew fw fp h0 el fn em eu ev fs fy fo;go_wp2_with fail;apply gb.o.mono;rintro e w1 ⟨r,rfl,eq,aa,n5,au,aw,av,ab,d,ax,az,ay,q,rfl,f1,f2⟩;have G:=Yh eq;have hp:=eq.size;have ge:=Yh f1;have gf:=Yh f2;clear eq f1 f2
  cases q
  ·have gc:YH (la=lb):=ge.o rfl;go_wp2;go_ret2;have z:∀o f9,Ao wr ((w1.alloc o).alloc f9):=fun o f9=>G.o.trans (((Jc _ w1).alloc Yo _).alloc Yp _);refine⟨_,rfl,F.o.trans ((z _ _).mono F.o.size),QO (QO ⟨_,L,xs,rfl,?_,ac.o.done gc.o,by rw[<-ac.o.ha];exact cu,dw.o,by have:=bx.o;omega⟩)⟩;exact ed.o.ext (z _ _) (fun k h=>QG h) Yo
  ·obtain⟨x,y,bu,bv,bo⟩:=gf.o rfl;have ho:=bo.len;rcases bu.o with⟨v,a0,er,fu,rfl⟩|⟨nm,ls,hv,fz,a0,er,bw,_⟩
   ·simp only[Value.string.injEq,Value.int.injEq,true_and,QH]at a0 er fu;obtain⟨rfl,rfl,rfl⟩:=fu;subst a0;have gz:n5=v:=Yo
    subst gz;have ei:=Yh (fun g (f:Ao w1 g)=>Li y.length g (A7 X w.heap.size 4) _ _ _ y n5 (Qe _) Yo (bv.ext f (fun j _ h=>QG h)));have eg:=Yh bv;have P:=Yh bo;clear bu bv bo;go_wp2_with fail;apply(ei.o _ Mxt).mono;rintro e w2 ⟨r,rfl,S,ct⟩;have B:YH (Ao w1 w2):=Below.trans Mxt (S.mono Yp);have b3:=Yh ct;have ex:=S.size;simp at ex;have co:w2.heap[w1.heap.size]?=some (.cells #[string ⟨#[]⟩,int i64 n5,Nl] 183 (0,0)):=(S.block _ Yp).trans (Ah (QL w1 _) _);have cn:w2.heap[w1.heap.size+1]?=some (.cells #[string ab,int i64 d,slice ax az ay] 183 (0,0)):=(S.block _ Ys).trans (by simpa using QL (w1.alloc _) _);obtain⟨hd,he,hf,hg⟩:=By co;obtain⟨g7,g8,g9,hb⟩:=By cn;clear S ct co cn
    cases r
    ·have ak:Dr (A7 X w.heap.size 4) w.heap.size wr w2:=(Dr.ext G.o Yo).trans (Dr.ext B.o Yo);have g4:=ak.size;have bc:=((B.o.block w.heap.size Yo).trans (G.o.block _ Yo)).trans e7.o;have bf:=((B.o.block (w.heap.size+1) Yo).trans (G.o.block _ Yo)).trans e8.o;obtain⟨a8,a9,ba,bb⟩:=By bc;obtain⟨al,am,an,ao⟩:=By bf;have de:w.heap.size<w2.heap.size:=Yo
     have e1:w.heap.size+1<w2.heap.size:=Yo
     have b7:YH (CB (A7 X w.heap.size 4) w2 (string ab) (int i64 d) (slice ax az ay) y):=(eg.o.ext (Y:=A7 X w.heap.size 4) (w':=w2) B.o (fun k _ h=>QG h));have ds:=Yh (fun g (f:Ao w2 g)=>Jg la.length g (A7 X w.heap.size 4) (string di) (int i64 df) (slice cc ce cd) la n5 (string ab) (int i64 d) (slice ax az ay) y (Qe _) ((fc.o.stay ak).ext f (fun _ _ h=>h)) (b7.o.ext f (fun _ _ h=>h)) (fun k h=>by have:=C7 a3.o k h;have:=f.size;omega) (by have:=EU (v:=n5) (t:=y) (l:=la) Yo cu;omega));have eh:=Yh ak;have bz:=Yh bc;have d2:=Yh bf;clear ak bc bf;go_wp2_with fail;apply(ds.o _ Mxt).mono;rintro e w3 ⟨gj,gm,gp,rfl,aj,br⟩;obtain⟨dk,dh,ci,ck,cj,rfl,rfl,rfl⟩:=br.shape;have ey:=aj.size;simp at ey;have H:Ao w2 w3:=(Mxt:Ao w2 _).trans (aj.mono Ys);obtain⟨a8,a9,ba,bb⟩:=By ((H.block _ de).trans bz.o);have bg:=(H.block _ e1).trans d2.o;obtain⟨al,am,an,ao⟩:=By bg;have I:w3.heap[w2.heap.size]?=some (.cells #[int i64 n5,string ab,int i64 d,slice ax az ay] 300 (0,0)):=(aj.block _ Ys).trans (QL w2 _);have q0:w3.cell? ⟨w2.heap.size,0,none⟩=some (int i64 n5):=Aa I 0 _ rfl;have e2:w3.cell? ⟨w2.heap.size,1,none⟩=some (string ab):=Aa I 1 _ rfl;have e3:w3.cell? ⟨w2.heap.size,2,none⟩=some (int i64 d):=Aa I 2 _ rfl;have e4:w3.cell? ⟨w2.heap.size,3,none⟩=some (slice ax az ay):=Aa I 3 _ rfl;have c3:Dr (A7 X w.heap.size 4) w.heap.size wr w3:=eh.o.trans (Dr.ext H Yo);have a1:=Yh H;have dx:=Yh I;have a6:=Yh c3;have d9:=Yh br;have b8:=Yh (b7.o.ext H (fun _ _ h=>h));have d3:=Yh bg;have g5:¬w2.heap.size=w.heap.size:=Yo
     have g6:¬w.heap.size+1=w.heap.size:=Yo
     clear aj br H I c3 bg;have dt:=Yh (fun g (f:Dr (A7 X w.heap.size 4) w.heap.size w3 g)=>Jg lb.length g (A7 X w.heap.size 4) (string dj) (int i64 dg) (slice cf ch cg) lb n5 (string ab) (int i64 d) (slice ax az ay) y (Qe _) (fd.o.stay (a6.o.trans f)) (b8.o.stay f) (fun k h=>by have:=C7 a3.o k h;have:=f.size;omega) (by have:=EU (v:=n5) (t:=y) (l:=lb) Yo dp;omega));go_wp2_with fail;apply(dt.o _ (Dr.put3 Yo Yo _ _ _)).mono;rintro e w4 ⟨gl,gn,gq,rfl,A,bs⟩;obtain⟨ar,aq,af,ah,ag,rfl,rfl,rfl⟩:=bs.shape;have ez:=A.size;simp at ez;have J:=G1 ((a1.o.block _ de).trans bz.o) (string dk) (int i64 dh) (slice ci ck cj);have W:Dr (A7 X w.heap.size 4) w.heap.size w3 w4:=(Dr.put3 Yo Yo _ _ _).trans (Dr.ext A Yp);have bd:=(A.block w.heap.size Yp).trans J.1;have bh:=(A.block (w.heap.size+1) Yp).trans ((J.2.block _ Yo Yo).trans d3.o);have Q:=(A.block w2.heap.size Yp).trans ((J.2.block _ Yo Yo).trans dx.o);have cp:=(A.block (w.heap.size+1+1) Yp).trans ((J.2.block _ Yo Yo).trans ((a1.o.block _ Yo).trans (((B.o.block _ Yo).trans (G.o.block _ Yo)).trans e9.o)));have cr:=(A.block (w.heap.size+1+1+1) Yp).trans ((J.2.block _ Yo Yo).trans ((a1.o.block _ Yo).trans (((B.o.block _ Yo).trans (G.o.block _ Yo)).trans fa.o)));obtain⟨a8,a9,ba,bb⟩:=By bd;obtain⟨al,am,an,ao⟩:=By bh;have q0:w4.cell? ⟨w2.heap.size,0,none⟩=some (int i64 n5):=Aa Q 0 _ rfl;have e2:w4.cell? ⟨w2.heap.size,1,none⟩=some (string ab):=Aa Q 1 _ rfl;have e3:w4.cell? ⟨w2.heap.size,2,none⟩=some (int i64 d):=Aa Q 2 _ rfl;have e4:w4.cell? ⟨w2.heap.size,3,none⟩=some (slice ax az ay):=Aa Q 3 _ rfl;have K:=G1 bh (string ar) (int i64 aq) (slice af ah ag);obtain⟨cb,R⟩:∃ek,ek=((w4.setCell ⟨w.heap.size+1,0,none⟩ (string ar)).setCell ⟨w.heap.size+1,1,none⟩ (int i64 aq)).setCell ⟨w.heap.size+1,2,none⟩ (slice af ah ag):=⟨_,rfl⟩;have E:Dr (A7 X w.heap.size 4) w.heap.size w4 cb:=by rw[R];exact Dr.put3 Yo Yo _ _ _
     rw[<-R]at K;have g3:=E.size;have cl:∀k,w.heap.size+4<=k->¬A7 X w.heap.size 4 k:=fun k z h=>by have:=C7 a3.o k h;omega
     have bt:=ed.o.stay (a6.o.trans (W.trans E)) cl;have cx:=d9.o.stay (W.trans E);have cy:=bs.stay E;have c1:=b8.o.stay (W.trans E);have c4:=a6.o.trans (W.trans E);have cm:=(K.2.block w.heap.size Yo Yo).trans bd;have cq:=(K.2.block (w.heap.size+1+1) Yo Yo).trans cp;have cs:=(K.2.block (w.heap.size+1+1+1) Yo Yo).trans cr;have ae:=Yh bt;have ea:=Yh cx;have eb:=Yh cy;have ec:=Yh c1;have a7:=Yh c4;have d1:=Yh cm;have d4:=Yh K.1;have d5:=Yh cq;have d6:=Yh cs;have dz:=Yh R;have ef:YH ((((w4.setCell ⟨w.heap.size+1,0,none⟩ (string ar)).setCell ⟨w.heap.size+1,1,none⟩ (int i64 aq)).setCell ⟨w.heap.size+1,2,none⟩ (slice af ah ag)).ownsRow (w.heap.size+4) 300 4 (slice dl L.length dm) L.length xs):=by
      rw[<-R];exact bt.owns
     have gv:=bx.o;clear A bs W bd bh Q cp cr J K E bt cx cy c1 c4 cm cq cs R cl
     go_wp2_with (at_builtin;refine Al _ rfl (.tmp 52) (.tmp 54) 283 rfl (w.heap.size+4) 300 infoSub underlying283 rfl Yd _ L.length xs rfl ef.o _ rfl Ys rfl TI ?_ ?_ ?_)
     ·omega
     ·simp;omega
     rw[<-dz.o];intro cv' w5 p;obtain⟨gr,gs,rfl⟩:=Ab p.owns;have T:∀k,k<w.heap.size+4->¬Ak (slice dl L.length dm) k:=fun k z e=>by have:=(ae.o.owns.lt k e).1;omega
     have be:=(p.kept.block _ Yo (T w.heap.size Yo)).trans d1.o;have bi:=(p.kept.block _ Yo (T (w.heap.size+1) Yo)).trans d4.o;have bj:=(p.kept.block _ Yo (T (w.heap.size+1+1) Yo)).trans d5.o;have bl:=(p.kept.block _ Yo (T (w.heap.size+1+1+1) Yo)).trans d6.o;have U:∀{a b c:Value}{t:Ly},CB (A7 X w.heap.size 4) cb a b c t->CB (A7 X w.heap.size 4) w5 a b c t:=fun et=>et.on (fun k z bw e0=>by
      obtain⟨gt,ep⟩:=e0;exact⟨p.kept.block k z (Ai ae.o.owns Yd ep),bw⟩)
     have c2:=ae.o.step ec.o p;have bp:=U ea.o;have bq:=U eb.o;have cw:Below w.heap.size w w5:=(F.o.trans a7.o.low).trans (p.kept.below Yo (fun k e=>by have:=(ae.o.owns.lt k e).1;omega));have cz:=U ((dq.o.ext F.o (fun k z h=>EI h z)).stay a7.o);have c0:=U ((dr.o.ext F.o (fun k z h=>EI h z)).stay a7.o);obtain⟨a8,a9,ba,bb⟩:=By be;obtain⟨al,am,an,ao⟩:=By bi;obtain⟨c6,c7,c8,c9⟩:=By bj;obtain⟨da,db,dc,dd⟩:=By bl;have a0:=p.kept.size;have bk:=ac.o.step (v:=n5) (y:=y) (QG P.o) rfl;rw[<-LR]at bk;have gw:=EU (v:=n5) (t:=y) (l:=la) Yo cu;have gx:=EU (v:=n5) (t:=y) (l:=lb) Yo dp;have du:=Yh (Gi (ap (Br n5 y) la).length w5 (A7 X w.heap.size 4) _ _ _ (ap (Br n5 y) la) (Qe _) Yo bp);have dv:=Yh (fun g (f:Ao w5 g)=>Gi (ap (Br n5 y) lb).length g (A7 X w.heap.size 4) _ _ _ (ap (Br n5 y) lb) (Qe _) Yo (bq.ext f (fun _ _ h=>h)));have d0:=Yh be;have b0:=Yh bi;have a4:=Yh bj;have a5:=Yh bl;have ee:=Yh c2;have d7:=Yh bp;have d8:=Yh bq;have O:=Yh cw;have b5:=Yh cz;have b6:=Yh c0;have ad:=Yh bk;have b4:YH (Cf n5 la):=P.o.occ.1 (Er.2 rfl);have ca:YH (∀k,Cf k y->Cf k lb):=fun k=>P.o.occ.2;have ej:YH (Wf 1 y/\y.length<=30):=⟨P.o.wy,Yo⟩;clear be bi bj bl U c2 bp bq cw cz c0 bk T p;go_wp2_with fail;apply du.o.mono;rintro e hc ⟨rfl,M⟩;have N:=Yh M;have Z:=M.size;obtain⟨al,am,an,ao⟩:=By ((M.block _ Yo).trans b0.o);obtain⟨c6,c7,c8,c9⟩:=By ((M.block _ Yo).trans a4.o);obtain⟨da,db,dc,dd⟩:=By ((M.block _ Yo).trans a5.o);clear M
     by_cases ai:30<(ap (Br n5 y) la).length
     ·have en:(30:Int)<((ap (Br n5 y) la).length:Nat):=Yo
      have a2:=Yh (fun g (f:Ao w5 g)=>HV g (A7 X w.heap.size 4) _ _ _ _ _ _ l m (b5.o.ext f (fun _ _ h=>h)) (b6.o.ext f (fun _ _ h=>h)) Yo);go_wp2_with fail;apply(a2.o _ N.o).mono;rintro e e6 ⟨e5,rfl,u,⟨rfl,n⟩|⟨rfl,n⟩⟩
      ·have C:=Yh u;have D:=Yh (ad.o.vast (QG ai) n);clear u n;go_wp2;refine Jb (v:=tuple #[Nl,int i64 3]) (by simp[results,results181,go_sem]) rfl ?_;exact⟨_,rfl,O.o.trans ((Below.trans N.o (C.o.mono Yo)).mono Yo),QO (QG ⟨rfl,D.o⟩)⟩
      ·have C:=Yh u;have D:=Yh n;clear u n;go_wp2;refine Jb (v:=tuple #[Nl,int i64 0]) (by simp[results,results181,go_sem]) rfl ?_;exact⟨_,rfl,O.o.trans ((Below.trans N.o (C.o.mono Yo)).mono Yo),QG ⟨rfl,D.o⟩⟩
     ·have en:¬(30:Int)<((ap (Br n5 y) la).length:Nat):=Yo
      have cv:(ap (Br n5 y) la).length<=30:=Yo
      clear ai;go_wp2_with fail;apply(dv.o _ N.o).mono;rintro e w7 ⟨rfl,bm⟩;have i:=Yh (Below.trans N.o (bm.mono Z));have g2:=bm.size;obtain⟨c6,c7,c8,c9⟩:=By ((i.o.block _ Yo).trans a4.o);obtain⟨da,db,dc,dd⟩:=By ((i.o.block _ Yo).trans a5.o);clear bm
      by_cases ai:30<(ap (Br n5 y) lb).length
      ·have eo:(30:Int)<((ap (Br n5 y) lb).length:Nat):=Yo
       have a2:=Yh (fun g (f:Ao w5 g)=>HV g (A7 X w.heap.size 4) _ _ _ _ _ _ l m (b5.o.ext f (fun _ _ h=>h)) (b6.o.ext f (fun _ _ h=>h)) Yo);go_wp2_with fail;apply(a2.o _ i.o).mono;rintro e e6 ⟨e5,rfl,u,⟨rfl,n⟩|⟨rfl,n⟩⟩
       ·have C:=Yh u;have D:=Yh (ad.o.vast (QO ai) n);clear u n;go_wp2;refine Jb (v:=tuple #[Nl,int i64 3]) (by simp[results,results181,go_sem]) rfl ?_;exact⟨_,rfl,O.o.trans ((Below.trans i.o (C.o.mono Yo)).mono Yo),QO (QG ⟨rfl,D.o⟩)⟩
       ·have C:=Yh u;have D:=Yh n;clear u n;go_wp2;refine Jb (v:=tuple #[Nl,int i64 0]) (by simp[results,results181,go_sem]) rfl ?_;exact⟨_,rfl,O.o.trans ((Below.trans i.o (C.o.mono Yo)).mono Yo),QG ⟨rfl,D.o⟩⟩
      ·have eo:¬(30:Int)<((ap (Br n5 y) lb).length:Nat):=Yo
       have bn:¬Cf n5 y:=fun h=>by have:=b3.o.2 h;simp at this
       have c5:EL V (ap (Br n5 y) la++ap (Br n5 y) lb)<EL V (la++lb):=by
        refine Na (v:=n5) (dy.o.2 n5 (ac.o.occs (QG b4.o))) (B7.2 (QG b4.o)) (fun h=> ?_) (fun k h=> ?_)
        ·rw[B7]at h;rcases h with h|h
         ·rcases E0 h with⟨h,_⟩|⟨_,h⟩
          ·exact h rfl
          ·exact bn h
         ·rcases E0 h with⟨h,_⟩|⟨_,h⟩
          ·exact h rfl
          ·exact bn h
        ·rw[B7]at h⊢;rcases h with h|h
         ·rcases E0 h with⟨_,h⟩|⟨_,h⟩
          ·exact QG h
          ·exact QO (ca.o k h)
         ·rcases E0 h with⟨_,h⟩|⟨_,h⟩
          ·exact QO h
          ·exact QO (ca.o k h)
       have b9:=Yh c5;clear c5 bn;go_wp2
       go_roundg (EL V (la++lb))
       case measure=>exact fb.o
       case rel=>
        refine⟨L++[(n5,y)],xs++[int i64 n5,string ab,int i64 d,slice ax az ay],ap (Br n5 y) la,ap (Br n5 y) lb,dk,dh,ci,ck,cj,ar,aq,af,ah,ag,O.o.trans (i.o.mono Yo),?_,ad.o,cv,Yo,?_,b9.o,?_,
         (i.o.block _ Yo).trans d0.o,(i.o.block _ Yo).trans b0.o,(i.o.block _ Yo).trans a4.o,(i.o.block _ Yo).trans a5.o,d7.o.ext i.o (fun _ _ h=>h),d8.o.ext i.o (fun _ _ h=>h)⟩
        ·have:=ee.o.ext i.o (Y:=A7 X w.heap.size 4) (B':=w.heap.size+4) (fun _ h=>h) (Qe _);simpa using this
        ·exact dw.o.snoc ej.o ad.o cv Yo
        ·have:=b9.o;have:=bx.o;simp;omega
    ·go_wp2;refine Jb (v:=tuple #[Nl,int i64 0]) (by simp[results,results181,go_sem]) rfl ?_;refine⟨_,rfl,(F.o.trans (G.o.mono F.o.size)).trans (B.o.mono Yo),QG ⟨rfl,ac.o.none (QG (Ku P.o rfl (b3.o.1 trivial)))⟩⟩
   ·have f4:aa.toList.isEmpty=false:=by
     simp only[Value.string.injEq]at a0;subst a0;rw[Dx];simpa using fz
    have hr:¬aa.toList=[]:=by
     intro e;rw[e]at f4;simp at f4
    have gg:=Yh bw;clear a0 er bw;rcases bv.o with⟨v,Z,es,fv,rfl⟩|⟨hu,ht,hw,f0,Z,es,f5,_⟩
    ·simp only[Value.string.injEq,Value.int.injEq,true_and,QH]at Z es fv;obtain⟨rfl,rfl,rfl⟩:=fv;subst Z;have g0:d=v:=Yo
     subst g0;have ei:=Yh (fun g (f:Ao w1 g)=>Li x.length g (A7 X w.heap.size 4) _ _ _ x d (Qe _) Yo (bu.ext f (fun j _ h=>QG h)));have eg:=Yh bu;have P:=Yh bo.symm;clear bv bu bo;go_wp2_with fail;apply(ei.o _ Mxt).mono;rintro e w2 ⟨r,rfl,S,ct⟩;have B:YH (Ao w1 w2):=Below.trans Mxt (S.mono Yp);have b3:=Yh ct;have ex:=S.size;simp at ex;have co:w2.heap[w1.heap.size]?=some (.cells #[string ⟨#[]⟩,int i64 d,Nl] 183 (0,0)):=(S.block _ Yp).trans (Ah (Ah (QL w1 _) _) _);have cn:w2.heap[w1.heap.size+1]?=some (.cells #[string aa,int i64 n5,slice au aw av] 183 (0,0)):=(S.block _ Ys).trans (by simpa using Ah (QL (w1.alloc _) _) _);obtain⟨hd,he,hf,hg⟩:=By co;obtain⟨g7,g8,g9,hb⟩:=By cn;clear S ct co cn
     cases r
     ·have ak:Dr (A7 X w.heap.size 4) w.heap.size wr w2:=(Dr.ext G.o Yo).trans (Dr.ext B.o Yo);have g4:=ak.size;have bc:=((B.o.block w.heap.size Yo).trans (G.o.block _ Yo)).trans e7.o;have bf:=((B.o.block (w.heap.size+1) Yo).trans (G.o.block _ Yo)).trans e8.o;obtain⟨a8,a9,ba,bb⟩:=By bc;obtain⟨al,am,an,ao⟩:=By bf;have de:w.heap.size<w2.heap.size:=Yo
      have e1:w.heap.size+1<w2.heap.size:=Yo
      have b7:YH (CB (A7 X w.heap.size 4) w2 (string aa) (int i64 n5) (slice au aw av) x):=(eg.o.ext (Y:=A7 X w.heap.size 4) (w':=w2) B.o (fun k _ h=>QG h));have ds:=Yh (fun g (f:Ao w2 g)=>Jg la.length g (A7 X w.heap.size 4) (string di) (int i64 df) (slice cc ce cd) la d (string aa) (int i64 n5) (slice au aw av) x (Qe _) ((fc.o.stay ak).ext f (fun _ _ h=>h)) (b7.o.ext f (fun _ _ h=>h)) (fun k h=>by have:=C7 a3.o k h;have:=f.size;omega) (by have:=EU (v:=d) (t:=x) (l:=la) Yo cu;omega));have eh:=Yh ak;have bz:=Yh bc;have d2:=Yh bf;clear ak bc bf;go_wp2_with fail;apply(ds.o _ Mxt).mono;rintro e w3 ⟨gj,gm,gp,rfl,aj,br⟩;obtain⟨dk,dh,ci,ck,cj,rfl,rfl,rfl⟩:=br.shape;have ey:=aj.size;simp at ey;have H:Ao w2 w3:=(Mxt:Ao w2 _).trans (aj.mono Ys);obtain⟨a8,a9,ba,bb⟩:=By ((H.block _ de).trans bz.o);have bg:=(H.block _ e1).trans d2.o;obtain⟨al,am,an,ao⟩:=By bg;have I:w3.heap[w2.heap.size]?=some (.cells #[int i64 d,string aa,int i64 n5,slice au aw av] 300 (0,0)):=(aj.block _ Ys).trans (QL w2 _);have q0:w3.cell? ⟨w2.heap.size,0,none⟩=some (int i64 d):=Aa I 0 _ rfl;have e2:w3.cell? ⟨w2.heap.size,1,none⟩=some (string aa):=Aa I 1 _ rfl;have e3:w3.cell? ⟨w2.heap.size,2,none⟩=some (int i64 n5):=Aa I 2 _ rfl;have e4:w3.cell? ⟨w2.heap.size,3,none⟩=some (slice au aw av):=Aa I 3 _ rfl;have c3:Dr (A7 X w.heap.size 4) w.heap.size wr w3:=eh.o.trans (Dr.ext H Yo);have a1:=Yh H;have dx:=Yh I;have a6:=Yh c3;have d9:=Yh br;have b8:=Yh (b7.o.ext H (fun _ _ h=>h));have d3:=Yh bg;have g5:¬w2.heap.size=w.heap.size:=Yo
      have g6:¬w.heap.size+1=w.heap.size:=Yo
      clear aj br H I c3 bg;have dt:=Yh (fun g (f:Dr (A7 X w.heap.size 4) w.heap.size w3 g)=>Jg lb.length g (A7 X w.heap.size 4) (string dj) (int i64 dg) (slice cf ch cg) lb d (string aa) (int i64 n5) (slice au aw av) x (Qe _) (fd.o.stay (a6.o.trans f)) (b8.o.stay f) (fun k h=>by have:=C7 a3.o k h;have:=f.size;omega) (by have:=EU (v:=d) (t:=x) (l:=lb) Yo dp;omega));go_wp2_with fail;apply(dt.o _ (Dr.put3 Yo Yo _ _ _)).mono;rintro e w4 ⟨gl,gn,gq,rfl,A,bs⟩;obtain⟨ar,aq,af,ah,ag,rfl,rfl,rfl⟩:=bs.shape;have ez:=A.size;simp at ez;have J:=G1 ((a1.o.block _ de).trans bz.o) (string dk) (int i64 dh) (slice ci ck cj);have W:Dr (A7 X w.heap.size 4) w.heap.size w3 w4:=(Dr.put3 Yo Yo _ _ _).trans (Dr.ext A Yp);have bd:=(A.block w.heap.size Yp).trans J.1;have bh:=(A.block (w.heap.size+1) Yp).trans ((J.2.block _ Yo Yo).trans d3.o);have Q:=(A.block w2.heap.size Yp).trans ((J.2.block _ Yo Yo).trans dx.o);have cp:=(A.block (w.heap.size+1+1) Yp).trans ((J.2.block _ Yo Yo).trans ((a1.o.block _ Yo).trans (((B.o.block _ Yo).trans (G.o.block _ Yo)).trans e9.o)));have cr:=(A.block (w.heap.size+1+1+1) Yp).trans ((J.2.block _ Yo Yo).trans ((a1.o.block _ Yo).trans (((B.o.block _ Yo).trans (G.o.block _ Yo)).trans fa.o)));obtain⟨a8,a9,ba,bb⟩:=By bd;obtain⟨al,am,an,ao⟩:=By bh;have q0:w4.cell? ⟨w2.heap.size,0,none⟩=some (int i64 d):=Aa Q 0 _ rfl;have e2:w4.cell? ⟨w2.heap.size,1,none⟩=some (string aa):=Aa Q 1 _ rfl;have e3:w4.cell? ⟨w2.heap.size,2,none⟩=some (int i64 n5):=Aa Q 2 _ rfl;have e4:w4.cell? ⟨w2.heap.size,3,none⟩=some (slice au aw av):=Aa Q 3 _ rfl;have K:=G1 bh (string ar) (int i64 aq) (slice af ah ag);obtain⟨cb,R⟩:∃ek,ek=((w4.setCell ⟨w.heap.size+1,0,none⟩ (string ar)).setCell ⟨w.heap.size+1,1,none⟩ (int i64 aq)).setCell ⟨w.heap.size+1,2,none⟩ (slice af ah ag):=⟨_,rfl⟩;have E:Dr (A7 X w.heap.size 4) w.heap.size w4 cb:=by rw[R];exact Dr.put3 Yo Yo _ _ _
      rw[<-R]at K;have g3:=E.size;have cl:∀k,w.heap.size+4<=k->¬A7 X w.heap.size 4 k:=fun k z h=>by have:=C7 a3.o k h;omega
      have bt:=ed.o.stay (a6.o.trans (W.trans E)) cl;have cx:=d9.o.stay (W.trans E);have cy:=bs.stay E;have c1:=b8.o.stay (W.trans E);have c4:=a6.o.trans (W.trans E);have cm:=(K.2.block w.heap.size Yo Yo).trans bd;have cq:=(K.2.block (w.heap.size+1+1) Yo Yo).trans cp;have cs:=(K.2.block (w.heap.size+1+1+1) Yo Yo).trans cr;have ae:=Yh bt;have ea:=Yh cx;have eb:=Yh cy;have ec:=Yh c1;have a7:=Yh c4;have d1:=Yh cm;have d4:=Yh K.1;have d5:=Yh cq;have d6:=Yh cs;have dz:=Yh R;have ef:YH ((((w4.setCell ⟨w.heap.size+1,0,none⟩ (string ar)).setCell ⟨w.heap.size+1,1,none⟩ (int i64 aq)).setCell ⟨w.heap.size+1,2,none⟩ (slice af ah ag)).ownsRow (w.heap.size+4) 300 4 (slice dl L.length dm) L.length xs):=by
       rw[<-R];exact bt.owns
      have gv:=bx.o;clear A bs W bd bh Q cp cr J K E bt cx cy c1 c4 cm cq cs R cl
      go_wp2_with (at_builtin;refine Al _ rfl (.tmp 52) (.tmp 54) 283 rfl (w.heap.size+4) 300 infoSub underlying283 rfl Yd _ L.length xs rfl ef.o _ rfl Ys rfl TI ?_ ?_ ?_)
      ·omega
      ·simp;omega
      rw[<-dz.o];intro cv' w5 p;obtain⟨gr,gs,rfl⟩:=Ab p.owns;have T:∀k,k<w.heap.size+4->¬Ak (slice dl L.length dm) k:=fun k z e=>by have:=(ae.o.owns.lt k e).1;omega
      have be:=(p.kept.block _ Yo (T w.heap.size Yo)).trans d1.o;have bi:=(p.kept.block _ Yo (T (w.heap.size+1) Yo)).trans d4.o;have bj:=(p.kept.block _ Yo (T (w.heap.size+1+1) Yo)).trans d5.o;have bl:=(p.kept.block _ Yo (T (w.heap.size+1+1+1) Yo)).trans d6.o;have U:∀{a b c:Value}{t:Ly},CB (A7 X w.heap.size 4) cb a b c t->CB (A7 X w.heap.size 4) w5 a b c t:=fun et=>et.on (fun k z bw e0=>by
       obtain⟨gt,ep⟩:=e0;exact⟨p.kept.block k z (Ai ae.o.owns Yd ep),bw⟩)
      have c2:=ae.o.step ec.o p;have bp:=U ea.o;have bq:=U eb.o;have cw:Below w.heap.size w w5:=(F.o.trans a7.o.low).trans (p.kept.below Yo (fun k e=>by have:=(ae.o.owns.lt k e).1;omega));have cz:=U ((dq.o.ext F.o (fun k z h=>EI h z)).stay a7.o);have c0:=U ((dr.o.ext F.o (fun k z h=>EI h z)).stay a7.o);obtain⟨a8,a9,ba,bb⟩:=By be;obtain⟨al,am,an,ao⟩:=By bi;obtain⟨c6,c7,c8,c9⟩:=By bj;obtain⟨da,db,dc,dd⟩:=By bl;have a0:=p.kept.size;have bk:=ac.o.step (v:=d) (y:=x) (QO P.o) rfl;rw[<-LR]at bk;have gw:=EU (v:=d) (t:=x) (l:=la) Yo cu;have gx:=EU (v:=d) (t:=x) (l:=lb) Yo dp;have du:=Yh (Gi (ap (Br d x) la).length w5 (A7 X w.heap.size 4) _ _ _ (ap (Br d x) la) (Qe _) Yo bp);have dv:=Yh (fun g (f:Ao w5 g)=>Gi (ap (Br d x) lb).length g (A7 X w.heap.size 4) _ _ _ (ap (Br d x) lb) (Qe _) Yo (bq.ext f (fun _ _ h=>h)));have d0:=Yh be;have b0:=Yh bi;have a4:=Yh bj;have a5:=Yh bl;have ee:=Yh c2;have d7:=Yh bp;have d8:=Yh bq;have O:=Yh cw;have b5:=Yh cz;have b6:=Yh c0;have ad:=Yh bk;have b4:YH (Cf d lb):=P.o.occ.1 (Er.2 rfl);have ca:YH (∀k,Cf k x->Cf k la):=fun k=>P.o.occ.2;have ej:YH (Wf 1 x/\x.length<=30):=⟨P.o.wy,Yo⟩;clear be bi bj bl U c2 bp bq cw cz c0 bk T p;go_wp2_with fail;apply du.o.mono;rintro e hc ⟨rfl,M⟩;have N:=Yh M;have Z:=M.size;obtain⟨al,am,an,ao⟩:=By ((M.block _ Yo).trans b0.o);obtain⟨c6,c7,c8,c9⟩:=By ((M.block _ Yo).trans a4.o);obtain⟨da,db,dc,dd⟩:=By ((M.block _ Yo).trans a5.o);clear M
      by_cases ai:30<(ap (Br d x) la).length
      ·have en:(30:Int)<((ap (Br d x) la).length:Nat):=Yo
       have a2:=Yh (fun g (f:Ao w5 g)=>HV g (A7 X w.heap.size 4) _ _ _ _ _ _ l m (b5.o.ext f (fun _ _ h=>h)) (b6.o.ext f (fun _ _ h=>h)) Yo);go_wp2_with fail;apply(a2.o _ N.o).mono;rintro e e6 ⟨e5,rfl,u,⟨rfl,n⟩|⟨rfl,n⟩⟩
       ·have C:=Yh u;have D:=Yh (ad.o.vast (QG ai) n);clear u n;go_wp2;refine Jb (v:=tuple #[Nl,int i64 3]) (by simp[results,results181,go_sem]) rfl ?_;exact⟨_,rfl,O.o.trans ((Below.trans N.o (C.o.mono Yo)).mono Yo),QO (QG ⟨rfl,D.o⟩)⟩
       ·have C:=Yh u;have D:=Yh n;clear u n;go_wp2;refine Jb (v:=tuple #[Nl,int i64 0]) (by simp[results,results181,go_sem]) rfl ?_;exact⟨_,rfl,O.o.trans ((Below.trans N.o (C.o.mono Yo)).mono Yo),QG ⟨rfl,D.o⟩⟩
      ·have en:¬(30:Int)<((ap (Br d x) la).length:Nat):=Yo
       have cv:(ap (Br d x) la).length<=30:=Yo
       clear ai;go_wp2_with fail;apply(dv.o _ N.o).mono;rintro e w7 ⟨rfl,bm⟩;have i:=Yh (Below.trans N.o (bm.mono Z));have g2:=bm.size;obtain⟨c6,c7,c8,c9⟩:=By ((i.o.block _ Yo).trans a4.o);obtain⟨da,db,dc,dd⟩:=By ((i.o.block _ Yo).trans a5.o);clear bm
       by_cases ai:30<(ap (Br d x) lb).length
       ·have eo:(30:Int)<((ap (Br d x) lb).length:Nat):=Yo
        have a2:=Yh (fun g (f:Ao w5 g)=>HV g (A7 X w.heap.size 4) _ _ _ _ _ _ l m (b5.o.ext f (fun _ _ h=>h)) (b6.o.ext f (fun _ _ h=>h)) Yo);go_wp2_with fail;apply(a2.o _ i.o).mono;rintro e e6 ⟨e5,rfl,u,⟨rfl,n⟩|⟨rfl,n⟩⟩
        ·have C:=Yh u;have D:=Yh (ad.o.vast (QO ai) n);clear u n;go_wp2;refine Jb (v:=tuple #[Nl,int i64 3]) (by simp[results,results181,go_sem]) rfl ?_;exact⟨_,rfl,O.o.trans ((Below.trans i.o (C.o.mono Yo)).mono Yo),QO (QG ⟨rfl,D.o⟩)⟩
        ·have C:=Yh u;have D:=Yh n;clear u n;go_wp2;refine Jb (v:=tuple #[Nl,int i64 0]) (by simp[results,results181,go_sem]) rfl ?_;exact⟨_,rfl,O.o.trans ((Below.trans i.o (C.o.mono Yo)).mono Yo),QG ⟨rfl,D.o⟩⟩
       ·have eo:¬(30:Int)<((ap (Br d x) lb).length:Nat):=Yo
        have bn:¬Cf d x:=fun h=>by have:=b3.o.2 h;simp at this
        have c5:EL V (ap (Br d x) la++ap (Br d x) lb)<EL V (la++lb):=by
         refine Na (v:=d) (dy.o.2 d (ac.o.occs (QO b4.o))) (B7.2 (QO b4.o)) (fun h=> ?_) (fun k h=> ?_)
         ·rw[B7]at h;rcases h with h|h
          ·rcases E0 h with⟨h,_⟩|⟨_,h⟩
           ·exact h rfl
           ·exact bn h
          ·rcases E0 h with⟨h,_⟩|⟨_,h⟩
           ·exact h rfl
           ·exact bn h
         ·rw[B7]at h⊢;rcases h with h|h
          ·rcases E0 h with⟨_,h⟩|⟨_,h⟩
           ·exact QG h
           ·exact QG (ca.o k h)
          ·rcases E0 h with⟨_,h⟩|⟨_,h⟩
           ·exact QO h
           ·exact QG (ca.o k h)
        have b9:=Yh c5;clear c5 bn;go_wp2
        go_roundg (EL V (la++lb))
        case measure=>exact fb.o
        case rel=>
         refine⟨L++[(d,x)],xs++[int i64 d,string aa,int i64 n5,slice au aw av],ap (Br d x) la,ap (Br d x) lb,dk,dh,ci,ck,cj,ar,aq,af,ah,ag,O.o.trans (i.o.mono Yo),?_,ad.o,cv,Yo,?_,b9.o,?_,
          (i.o.block _ Yo).trans d0.o,(i.o.block _ Yo).trans b0.o,(i.o.block _ Yo).trans a4.o,(i.o.block _ Yo).trans a5.o,d7.o.ext i.o (fun _ _ h=>h),d8.o.ext i.o (fun _ _ h=>h)⟩
         ·have:=ee.o.ext i.o (Y:=A7 X w.heap.size 4) (B':=w.heap.size+4) (fun _ h=>h) (Qe _);simpa using this
         ·exact dw.o.snoc ej.o ad.o cv Yo
         ·have:=b9.o;have:=bx.o;simp;omega
     ·go_wp2;refine Jb (v:=tuple #[Nl,int i64 0]) (by simp[results,results181,go_sem]) rfl ?_;refine⟨_,rfl,(F.o.trans (G.o.mono F.o.size)).trans (B.o.mono Yo),QG ⟨rfl,ac.o.none (QO (Ku P.o rfl (b3.o.1 trivial)))⟩⟩
    ·have f6:ab.toList.isEmpty=false:=by
      simp only[Value.string.injEq]at Z;subst Z;rw[Dx];simpa using f0
     have hs:¬ab.toList=[]:=by
      intro e;rw[e]at f6;simp at f6
     have gd:YH (De l m):=ac.o.none (QG (Tq bo gg.o f5 fz f0));clear Z es f5 bo bu bv;go_wp2;refine Jb (v:=tuple #[Nl,int i64 0]) (by simp[results,results181,go_sem]) rfl ?_;exact⟨_,rfl,(F.o.trans (G.o.mono F.o.size)).trans ((Mxt:Ao w1 _).mono Yo),QG ⟨rfl,gd.o⟩⟩
theorem Pg(w:World)(X:Np)(Z:Nat)(ad:Value)(L:List (Nat×Ly))(xs:Lv)(a b c:Value)(l:Ly)(h:CB X w a b c l)(d:GU X w Z ad L.length L xs)(ae:∀k,X k->k<w.heap.size)(hb:∀k,(ap (Fi (L.take k)) l).length<=4000)(bt:L.length<=4000):
  Calls prog 183 #[agg #[a,b,c],ad] w fun e w'=>∃E F G,e=returned (agg #[E,F,G])/\Ao w w'/\CB X w' E F G (ap (Fi L) l):=by
 have aj:=h.wf _ (Qe _);obtain⟨bi,bd,a0,a2,a1,rfl,rfl,rfl⟩:=h.shape;obtain⟨bz,bk,rfl⟩:=Ab d.owns;have ao:=Yh h;have ab:=Yh d;have au:=Yh ae;have av:=Yh hb;have ay:=Yh aj;clear h d ae hb aj;go_enter func183,ntmps183;go_wp2
 go_loopg [5] (L.length+1) (fun gk i wr=>∃(k:Nat)(s2:ByteArray)(A:Nat)(q:Oa)(z x:Nat),i=int i64 k/\k<=L.length/\L.length-k<gk/\Ao w wr/\
   wr.heap[w.heap.size]?=some (.cells #[string s2,int i64 A,slice q z x] 183 (0,0))/\wr.heap[w.heap.size+1]?=some (.cells #[string ⟨#[]⟩,int i64 0,Nl] 183 (0,0))/\
   CB (A7 X w.heap.size 2) wr (string s2) (int i64 A) (slice q z x) (ap (Fi (L.take k)) l))
 case atStart=>
  refine⟨0,bi,bd,a0,a2,a1,Yg,Qm _,Yo,Mxt,Ah (QL w _) _,by simpa using QL (w.alloc _) _,?_⟩;have e:ap (Fi (L.take 0)) l=l:=by rw[List.take_zero];exact TL ay.o
  rw[e];exact ao.o.ext Mxt (fun k M h=>EI h M)
 case round=>
  obtain⟨k,s2,A,q,z,x,rfl,M,bv,af,h0,K,ai⟩:=hrel;obtain⟨az,b1,b2,bp⟩:=By h0;obtain⟨a6,a7,a8,a9⟩:=By K;have bx:=Ac K;have D:=Yh af;have aa:=Yh h0;have aq:=Yh K;have ac:=Yh ai;clear af h0 K ai
  by_cases ah:k<L.length
  ·obtain⟨p,U⟩:∃p,L[k]?=some p:=⟨_,Qb ah⟩;obtain⟨v,t⟩:=p;obtain⟨E,F,G,ak,al,am,an,V⟩:=ab.o.all k _ U;obtain⟨P,O,H,J,I,rfl,rfl,rfl⟩:=V.shape;have C:=ab.o.ext (Y:=X) (B':=Z) D.o (fun _ h=>h) (Qe _);obtain⟨g,bq,br,ag,bs,bb,bu⟩:=An C.owns Yo;simp only[QH]at ag;obtain⟨rfl,_,rfl⟩:=ag;have bl:wr.cell? ⟨g,k*4,none⟩=some (int i64 v):=Af C.owns _ _ ak;have bm:wr.cell? ⟨g,k*4+1,none⟩=some (string P):=Af C.owns _ _ al;have bn:wr.cell? ⟨g,k*4+2,none⟩=some (int i64 O):=Af C.owns _ _ am;have bo:wr.cell? ⟨g,k*4+3,none⟩=some (slice H J I):=Af C.owns _ _ an;have W:ap (Fi (L.take (k+1))) l=ap (Br v t) (ap (Fi (L.take k)) l):=by
    rw[QU,U,Option.toList_some,LR,Nh]
   have T:=av.o (k+1);rw[W]at T;have ar:=Yh (Jg (ap (Fi (L.take k)) l).length wr.drew (A7 X w.heap.size 2) (string s2) (int i64 A) (slice q z x) (ap (Fi (L.take k)) l) v (string P) (int i64 O) (slice H J I) t (Qe _) (ac.o.on (fun k _ hn _=>⟨rfl,hn⟩)) (V.ext (D.o.trans ⟨rfl,rfl,rfl,Qe _,fun _ _=>rfl⟩) (fun k M h=>EI h M)) (fun k h=>by have:=C7 au.o k h;show k<wr.heap.size;omega) T);have ax:=Yh W;clear bb C V ak al am an U W T;go_wp2_with fail;refine BW Yk 999 [.rd 0 0 (fun _=>agg #[string s2,int i64 A,slice q z x]),.rd 0 0 (fun _=>slice (some ⟨g,0,none⟩) L.length bk),.rd 0 0 (fun _=>int i64 k),.rd 0 0 (fun _=>pointer (some ⟨g,k*4,none⟩)),.rd 0 0 (fun _=>agg #[int i64 v,string P,int i64 O,slice H J I]),.st 0,.st 1] 2 7 Yk
    (YA wr.drew (fun r u=>∃(s:ByteArray)(n:Nat)(ca:Oa)(cl cc:Nat),r=agg #[string s,int i64 n,slice ca cl cc]/\Ao wr u/\CB (A7 X w.heap.size 2) u (string s) (int i64 n) (slice ca cl cc) (ap (Br v t) (ap (Fi (L.take k)) l)))
    (fun r u=>∃(s:ByteArray)(n:Nat)(ca:Oa)(cl cc:Nat)(Q:World),Ao wr Q/\CB (A7 X w.heap.size 2) Q (string s) (int i64 n) (slice ca cl cc) (ap (Br v t) (ap (Fi (L.take k)) l))/\
     u=((Q.setCell ⟨w.heap.size,0,none⟩ (string s)).setCell ⟨w.heap.size,1,none⟩ (int i64 n)).setCell ⟨w.heap.size,2,none⟩ (slice ca cl cc))) rfl ?_ ?_
   ·refine⟨⟨trivial,fun vs y _ hl d=> ?_⟩,⟨trivial,fun vs y _ hl d=> ?_⟩,⟨trivial,fun vs y _ hl d=> ?_⟩,⟨trivial,fun vs y _ hl d=> ?_⟩,⟨trivial,fun vs y _ hl d=> ?_⟩,⟨trivial,fun vs y hl d=> ?_⟩,⟨trivial,fun vs y hl d=> ?_⟩,trivial⟩
    iterate 5 (· obtain rfl:=d.at hl;simp[go_sem,az,b1,b2,bl,bm,bn,bo,ah])
    ·obtain rfl:=Q3.1 hl;obtain rfl:y=wr.drew:=d;refine .call 204 #[agg #[string s2,int i64 A,slice q z x],agg #[int i64 v,string P,int i64 O,slice H J I]] _ (by simp[go_sem]) (ar.o.mono ?_);rintro e u ⟨E,F,G,rfl,m,f⟩;obtain⟨bj,be,a3,a5,a4,rfl,rfl,rfl⟩:=f.shape;exact⟨_,rfl,bj,be,a3,a5,a4,rfl,m.undrew,f⟩
    ·obtain⟨vc,rfl⟩:=Q1.1 hl;obtain⟨s,n,ca,cl,cc,rfl,m,f⟩:=d;obtain⟨q0,bf,bg,bh⟩:=By ((m.block _ Yo).trans aa.o);exact .skip _ (by simp[go_sem,q0,bf,bg,bh]) ⟨s,n,ca,cl,cc,y,m,f,rfl⟩
   rintro vs w1 hl d;obtain⟨vc,b0,rfl⟩:∃a b,vs=[a,b]:=by match vs,hl with|[a,b],_=>exact⟨a,b,rfl⟩
   obtain⟨s,n,ca,cl,cc,Q,m,f,rfl⟩:=d;simp only[EB,IB,CD,pa,Ph.kd,Ph.val,Kd.val,Qx,QX,Ja,Act.put,Q5,List.take_zero,List.getD_cons_zero];have R:=Yh m;have aw:=Yh f;have bw:=m.size;clear m f;go_wp2
   go_roundg (L.length-k)
   case measure=>omega
   case rel=>
    have N:=G1 ((R.o.block _ Yo).trans aa.o) (string s) (int i64 n) (slice ca cl cc);refine⟨k+1,s,n,ca,cl,cc,Yg,Yo,Yo,?_,N.1,(N.2.block _ Yo Yo).trans ((R.o.block _ Yo).trans aq.o),?_⟩
    ·exact(D.o.trans (R.o.mono D.o.size)).trans (N.2.below Yo (fun j e=>by have e:j=w.heap.size:=e;omega))
    ·rw[ax.o];exact aw.o.on (fun j bc hn _=>⟨N.2.block j bc (fun e=>hn (QO Yo)),hn⟩)
  ·have ba:k=L.length:=Yo
   subst ba;go_wp2;refine Jb (v:=agg #[string s2,int i64 A,slice q z x]) (by simp[results,results183,go_sem,a6,a7,a8,a9]) rfl ?_;have f:=ac.o;rw[QT]at f;refine⟨_,_,_,rfl,D.o.trans (Ad.below (S:=fun k=>w.heap.size<=k/\k<w.heap.size+2) Mst Yo (fun j h=>h.1)),?_⟩;refine(f.stay (B:=w.heap.size) (Dr.of (S:=fun k=>w.heap.size<=k/\k<w.heap.size+2) Mst Yo (fun j h=>QO h) (fun j h=>h.1))).ext (Jc _ _) (fun k _ h=>QG h)
theorem infoGoal:(prog.info? 200).map (fun i=>(i.zero,i.size,i.bytes))=some (some (agg #[string ⟨#[]⟩,int i64 0,Nl,int i64 0]),4,56):=by kernel_rfl
structure Dg(X:Nat->Prop)(w:World)(B:Nat)(cv:Value)(n:Nat)(gs:List (List BJ×Nat))(xs:List Value):Prop where
 owns:w.ownsRow B 200 4 cv n xs
 len:gs.length=n
 all:∀(i:Nat)(g:List BJ×Nat),gs[i]?=some g->∃a b c,xs[i*4]?=some a/\xs[i*4+1]?=some b/\xs[i*4+2]?=some c/\xs[i*4+3]?=some (.int .i64 g.2)/\CB X w a b c g.1
theorem Dg.nil(X:Np)(w:World)(B:Nat):Dg X w B Nl 0 [] []:=⟨Q2 _ _ _ _,rfl,fun i a h=>by simp at h⟩
theorem Dg.on{n:Nat}{gs:List (Ly×Nat)}(h:Dg X w B cv n gs xs)(e:∀k,cv.ownBlock=some k->w'.heap[k]?=w.heap[k]?)(d:∀k,k<w.heap.size->¬X k->Cz w k->w'.heap[k]?=w.heap[k]?/\¬Y k):Dg Y w' B cv n gs xs:=
 ⟨Aj h.owns e,h.len,fun i s f=>by
  obtain⟨a,b,c,j,l,m,o,g⟩:=h.all i s f;exact⟨a,b,c,j,l,m,o,g.on d⟩⟩
theorem Dg.ext{B' n:Nat}{gs:List (Ly×Nat)}(h:Dg X w B cv n gs xs)(e:Ao w w')(c:∀k,k<w.heap.size->Y k->X k)(b:B'<=B):Dg Y w' B' cv n gs xs:=by
 have:=h.on (Y:=Y) (w':=w') (fun k a=>e.block k (h.owns.lt k a).2) (fun k a hn _=>⟨e.block k a,fun h=>hn (c k a h)⟩);exact⟨AI this.owns b,this.len,this.all⟩
theorem Dg.step{n d:Nat}{cv':Value}{gs:List (Ly×Nat)}{a b c:Value}{t:Ly}(h:Dg X w B cv n gs xs)(m:CB X w a b c t)(ha:Ar w B 200 4 cv (n+1) (xs++[a,b,c,int i64 d]) cv' w'):
  Dg X w' B cv' (n+1) (gs++[(t,d)]) (xs++[a,b,c,int i64 d]):=by
 have p:∀{a b c:Value}{l:Ly},CB X w a b c l->CB X w' a b c l:=fun m=>m.on (fun k x z y=>by
  obtain⟨F,v⟩:=y;exact⟨ha.kept.block k x (Ai h.owns Yd v),z⟩)
 have j:=h.owns.1;have o:=h.len;refine⟨ha.owns,by simp[o],fun i s f=> ?_⟩;rcases QB i gs.length with hi|hi
 ·rw[Qc hi]at f;obtain⟨q,r,u,A,C,D,E,g⟩:=h.all i s f;refine⟨q,r,u,?_,?_,?_,?_,p g⟩
  ·rw[Qc Yo];exact A
  ·rw[Qc Yo];exact C
  ·rw[Qc Yo];exact D
  ·rw[Qc Yo];exact E
 ·have:=(Qa.1 f).1;simp at this;have e:i=gs.length:=Yo
  subst e;simp at f;subst f;rw[o];refine⟨a,b,c,?_,?_,?_,?_,p m⟩
  ·rw[Qd Yo,j];simp
  ·rw[Qd Yo,j];simp
  ·rw[Qd Yo,j];simp
  ·rw[Qd Yo,j];simp
theorem I4{n m:Int}{ca:Oa}{cl cc:Nat}:∀u∈(#[Value.string s,int i64 n,slice ca cl cc,int i64 m]:Av).toList,u.oneCell'=true:=Mg
theorem Kq(w:World)(X:Np)(C D:Nat)(I H:Value)(gs:List (Ly×Nat))(L:List (Nat×Ly))(a6 xs:Lv)(u:Dg X w C I gs.length gs a6)(v:GU X w D H L.length L xs)(K:∀k,X k->k<w.heap.size)(hb:∀k,∀g∈gs,(ap (Fi (L.take k)) g.1).length<=4000)(ao:L.length<=4000)(be:gs.length<=4000):
  Calls prog 182 #[I,H] w fun e w'=>∃J zs,e=returned J/\Ao w w'/\Dg X w' w.heap.size J gs.length (Fl (Fi L) gs) zs:=by
 obtain⟨bi,bj,rfl⟩:=Ab v.owns;obtain⟨ba,bb,rfl⟩:=Ab u.owns;have E:=Yh u;have Z:=Yh v;have aa:=Yh K;have ab:=Yh hb;clear u v K hb;go_enter func182,ntmps182;go_wp2
 go_loopg [5,6] (gs.length+1) (fun gk a1 i wr=>∃(k:Nat)(zs:Lv),i=int i64 k/\k<=gs.length/\gs.length-k<gk/\Ao w wr/\Dg X wr w.heap.size a1 k (Fl (Fi L) (gs.take k)) zs)
 case atStart=>exact⟨0,[],Yg,Qm _,Yo,Jc _ _,Dg.nil _ _ _⟩
 case round=>
  obtain⟨k,zs,rfl,bh,bg,y,A⟩:=hrel;obtain⟨az,a0,rfl⟩:=Ab A.owns;have b:=Yh y;have G:=Yh A;have ax:=y.size;clear y A
  by_cases au:k<gs.length
  ·obtain⟨p,r⟩:∃p,gs[k]?=some p:=⟨_,Qb au⟩;obtain⟨t,d⟩:=p;obtain⟨ag,ah,ai,R,S,T,U,B⟩:=E.o.all k _ r;obtain⟨a2,ay,aj,al,ak,rfl,rfl,rfl⟩:=B.shape;have a:=E.o.ext (Y:=X) (B':=C) b.o (fun _ _ h=>h) (Qe _);obtain⟨g,a8,a9,N,bc,M,bd⟩:=An a.owns Yo;simp only[QH]at N;obtain⟨rfl,_,rfl⟩:=N;have a3:wr.cell? ⟨g,k*4,none⟩=some (string a2):=Af a.owns _ _ R;have a4:wr.cell? ⟨g,k*4+1,none⟩=some (int i64 ay):=Af a.owns _ _ S;have a5:wr.cell? ⟨g,k*4+2,none⟩=some (slice aj al ak):=Af a.owns _ _ T;have V:wr.cell? ⟨g,k*4+3,none⟩=some (int i64 d):=Af a.owns _ _ U;have W:=Yh (Pg wr X D _ L xs _ _ _ t (B.ext b.o (fun _ _ h=>h)) (Z.o.ext b.o (fun _ h=>h) (Qe _)) (fun k h=>by have:=aa.o k h;omega) (fun j=>ab.o j _ (Qh r)) ao);have ad:=Yh r;have ar:=Ac M;clear M a B R S T U r;go_wp2_with fail;apply W.o.mono;rintro e w1 ⟨ag,ah,ai,rfl,m,z⟩;obtain⟨q,n,c,l,f,rfl,rfl,rfl⟩:=z.shape;have a7:w1.cell? ⟨g,k*4+3,none⟩=some (int i64 d):=(m.cell (p:=⟨g,k*4+3,none⟩) ar).trans V;have aw:=m.size;have bf:g<w1.heap.size:=Yo
   have P:=G.o.ext (Y:=X) (B':=w.heap.size) (w':=(w1.alloc (.cells #[string q,int i64 n,slice c l f] 183)).drewN 1) (m.trans (Ao.of ((((Ad.refl A4 w1).alloc _).drewN 1))|>.mono aw)) (fun _ _ h=>h) (Qe _);have s:=Yh P;have ac:=Yh m;have ae:=Yh z;clear P m z a3 a4 a5 V;go_wp2_with fail
   go_region_law (refine BA ((w1.alloc (.cells #[string q,int i64 n,slice c l f] 183)).drewN 1) rfl (.tmp 21) (.tmp 29) 150 rfl w.heap.size 200 infoGoal underlying150 rfl Yd (slice az k a0) k zs rfl s.o.owns #[string q,int i64 n,slice c l f,int i64 d] rfl Ys rfl I4 Yo Yp rfl ?_;intro bk w2 x;obtain⟨bl,bm,rfl⟩:=Ab x.owns;have F:=Yh x;clear x)
   all_goals
    have Q:Fl (Fi L) (gs.take (k+1))=Fl (Fi L) (gs.take k)++[(ap (Fi L) t,d)]:=by
     rw[QU,ad.o];simp[Fl]
    have af:=Yh Q;clear Q a7;go_wp2
    go_roundg (gs.length-k)
    case measure=>omega
    case rel=>
     have av:=ae.o.ext (Y:=X) (w':=(w1.alloc (.cells #[string q,int i64 n,slice c l f] 183)).drewN 1) (Ao.of ((((Ad.refl A4 w1).alloc _).drewN 1))) (fun _ _ h=>h);have:=s.o.step av F.o;rw[<-af.o]at this;refine⟨k+1,_,Yg,Yo,Yo,?_,this⟩;have am:Below w.heap.size w w1:=b.o.trans (ac.o.mono ax);have an:Below w.heap.size w1 ((w1.alloc (.cells #[string q,int i64 n,slice c l f] 183)).drewN 1):=(Ao.of ((((Ad.refl A4 w1).alloc _).drewN 1))).mono Yo;exact(am.trans an).trans (F.o.kept.below (by show w.heap.size<=(w1.alloc _).heap.size;simp;omega) (fun j e=>(s.o.owns.lt j e).1))
  ·have aq:k=gs.length:=Yo
   subst aq;go_wp2;go_ret;have O:=G.o;rw[QT]at O;exact⟨_,zs,rfl,b.o,O⟩
structure I5(X:Nat->Prop)(w:World)(gv vv dv uv:Value)(n:ND):Prop where
 goals:∃xs,Dg X w 0 gv n.goals.length n.goals xs
 vals:∃xs,Ed X w vv n.vals xs
 done:∃xs,Dg X w 0 dv n.done.length n.done xs
 used:w.ownsRow 0 3 1 uv n.used.length (AM n.used)
theorem I5.ext{b c:Value}{n:ND}(h:I5 X w gv vv b c n)(e:Ao w w')(a:∀k,k<w.heap.size->Y k->X k):I5 Y w' gv vv b c n:=by
 obtain⟨xs,d⟩:=h.goals;obtain⟨j,f⟩:=h.vals;obtain⟨zs,g⟩:=h.done;exact⟨⟨xs,d.ext e a (Qe _)⟩,⟨j,f.ext e a⟩,⟨zs,g.ext e a (Qe _)⟩,Aj h.used (fun k i=>e.block k (h.used.lt k i).2)⟩
theorem C0{a c d e f:Value}(h:w.heap[b]?=some (.cells #[a,c,d,e,f] t (0,0))):
  w.cell? ⟨b,0,none⟩=some a/\w.cell? ⟨b,1,none⟩=some c/\w.cell? ⟨b,2,none⟩=some d/\w.cell? ⟨b,3,none⟩=some e/\w.cell? ⟨b,4,none⟩=some f/\∀i,w.frozen? ⟨b,i,none⟩=false:=
 ⟨Aa h 0 _ rfl,Aa h 1 _ rfl,Aa h 2 _ rfl,Aa h 3 _ rfl,Aa h 4 _ rfl,fun i=>Ag h i⟩
theorem O7{a:Type}{l:List a}{x:a}{p:a->Bool}(h:l[k]?=some x):(l.take (k+1)).any p=((l.take k).any p||p x):=by
 rw[QU,h];simp
theorem Ws(w:World)(X:Np)(am ay aj aw:Value)(n:ND)(h:I5 X w am ay aj aw n)(bg:n.goals.length<=4000)(hd:n.done.length<=4000)(bh:n.used.length<=4000)(aq:∀g∈n.goals,g.1.length<=4000)(ar:∀g∈n.done,g.1.length<=4000):
  Calls prog 184 #[agg #[am,ay,aj,aw,int i64 n.vars]] w fun e w'=>e=returned (int i64 (Ct n))/\Ao w w':=by
 obtain⟨xs,M⟩:=h.goals;obtain⟨bi,an⟩:=h.vals;obtain⟨zs,N⟩:=h.done;have ao:=h.used;obtain⟨ak,al,rfl⟩:=Ab M.owns;obtain⟨va,ax,rfl⟩:=Ab an.1;obtain⟨da,ai,rfl⟩:=Ab N.owns;obtain⟨au,av,rfl⟩:=Ab ao;have ac:=Yh M;have ad:=Yh N;have a1:=Yh aq;have a2:=Yh ar;obtain⟨q0,ap⟩:∃q:Bool,q=(decide (40<n.goals.length)||decide (100<n.used.length)):=⟨_,rfl⟩;have E:=Yh ap;clear h M an N ao aq ar;clear ap
 by_cases a6:40<n.goals.length
 all_goals
  first
   |have a7:(40:Int)<n.goals.length:=Yo
   |have a7:¬(40:Int)<n.goals.length:=Yo
  go_enter func184,ntmps184;go_wp2
  go_loopg [3,4] (n.goals.length+1) (fun gk U i wr=>∃(k:Nat)(o:Bool),i=int i64 k/\U= .bool o/\k<=n.goals.length/\n.goals.length-k<gk/\Ao w wr/\o=(q0||(n.goals.take k).any Fz)/\
    wr.heap[w.heap.size]?=some (.cells #[slice ak n.goals.length al,slice va n.vals.length ax,slice da n.done.length ai,slice au n.used.length av,int i64 n.vars] 152 (0,0)))
  case atStart=>exact⟨0,q0,Yg,(by rw[E.o];simp[a6]<;>omega),Qm _,Yo,Mxt,Ys,QL w _⟩
  case round=>
   obtain⟨k,o,rfl,rfl,j,be,v,z,hb⟩:=hrel;obtain⟨ae,b1,b2,af,ag,ah⟩:=C0 hb;have a:=Yh v;have s:=Yh hb;have f:=Yh z;have R:=Ac hb;clear v hb z
   by_cases Q:k<n.goals.length
   ·obtain⟨p,c⟩:∃p,n.goals[k]?=some p:=⟨_,Qb Q⟩;obtain⟨t,d⟩:=p;obtain⟨a3,a4,a5,B,C,D,W,l⟩:=ac.o.all k _ c;obtain⟨V,T,J,L,K,rfl,rfl,rfl⟩:=l.shape;have b:=ac.o.ext (Y:=X) (B':=0) a.o (fun _ _ h=>h) (Qe _);obtain⟨g,a8,a9,y,ba,P,bb⟩:=An b.owns Yo;simp only[QH]at y;obtain⟨rfl,_,rfl⟩:=y;have Z:wr.cell? ⟨g,k*4,none⟩=some (string V):=Af b.owns _ _ B;have aa:wr.cell? ⟨g,k*4+1,none⟩=some (int i64 T):=Af b.owns _ _ C;have ab:wr.cell? ⟨g,k*4+2,none⟩=some (slice J L K):=Af b.owns _ _ D;have S:t.length<=4000:=a1.o _ (Qh c);have F:=Yh (Gi t.length wr X _ _ _ t (Qe _) S (l.ext a.o (fun _ _ h=>h)));have H:YH ((n.goals.take (k+1)).any Fz=((n.goals.take k).any Fz||decide (30<t.length))):=O7 c;clear P b l B C D W c;go_wp2_with fail;apply F.o.mono;rintro e w1 ⟨rfl,x⟩;have u:=Yh x;clear x Z aa ab
    cases o
    all_goals
     go_wp2
     go_roundg (n.goals.length-k)
     case measure=>omega
     case rel=>exact⟨k+1,_,Yg,(by rw[H.o,<-Bool.or_assoc,<-f.o];simp<;>omega),Yo,Yo,a.o.trans (u.o.mono a.o.size),rfl,(u.o.block _ R).trans s.o⟩
   ·have O:k=n.goals.length:=Yo
    subst O;have m:YH (o=(q0||n.goals.any Fz)):=by have:=f.o;rw[QT]at this;exact this
    clear f;go_wp2;have a0:=Yh a.o;have az:=Yh s.o;have I:=Yh m.o;obtain⟨A,bf⟩:∃A:Bool,A=o:=⟨_,rfl⟩;subst bf;clear m a s ae b1 b2 af ag ah
    go_loopg [3,6] (n.done.length+1) (fun gk U i wr=>∃(k:Nat)(o:Bool),i=int i64 k/\U= .bool o/\k<=n.done.length/\n.done.length-k<gk/\Ao w wr/\o=(A||(n.done.take k).any Fz)/\
      wr.heap[w.heap.size]?=some (.cells #[slice ak n.goals.length al,slice va n.vals.length ax,slice da n.done.length ai,slice au n.used.length av,int i64 n.vars] 152 (0,0)))
    case atStart=>exact⟨0,A,Yg,rfl,Qm _,Yo,a0.o,Ys,az.o⟩
    case round=>
     obtain⟨k,o,rfl,rfl,j,be,v,z,hb⟩:=hrel;obtain⟨ae,b1,b2,af,ag,ah⟩:=C0 hb;have a:=Yh v;have s:=Yh hb;have f:=Yh z;have R:=Ac hb;clear v hb z
     by_cases Q:k<n.done.length
     ·obtain⟨p,c⟩:∃p,n.done[k]?=some p:=⟨_,Qb Q⟩;obtain⟨t,d⟩:=p;obtain⟨a3,a4,a5,B,C,D,W,l⟩:=ad.o.all k _ c;obtain⟨V,T,J,L,K,rfl,rfl,rfl⟩:=l.shape;have b:=ad.o.ext (Y:=X) (B':=0) a.o (fun _ _ h=>h) (Qe _);obtain⟨g,a8,a9,y,ba,P,bb⟩:=An b.owns Yo;simp only[QH]at y;obtain⟨rfl,_,rfl⟩:=y;have Z:wr.cell? ⟨g,k*4,none⟩=some (string V):=Af b.owns _ _ B;have aa:wr.cell? ⟨g,k*4+1,none⟩=some (int i64 T):=Af b.owns _ _ C;have ab:wr.cell? ⟨g,k*4+2,none⟩=some (slice J L K):=Af b.owns _ _ D;have S:t.length<=4000:=a2.o _ (Qh c);have F:=Yh (Gi t.length wr X _ _ _ t (Qe _) S (l.ext a.o (fun _ _ h=>h)));have H:YH ((n.done.take (k+1)).any Fz=((n.done.take k).any Fz||decide (30<t.length))):=O7 c;clear P b l B C D W c;go_wp2_with fail;apply F.o.mono;rintro e w1 ⟨rfl,x⟩;have u:=Yh x;clear x Z aa ab
      cases o
      all_goals
       go_wp2
       go_roundg (n.done.length-k)
       case measure=>omega
       case rel=>exact⟨k+1,_,Yg,(by rw[H.o,<-Bool.or_assoc,<-f.o];simp<;>omega),Yo,Yo,a.o.trans (u.o.mono a.o.size),rfl,(u.o.block _ R).trans s.o⟩
     ·have O:k=n.done.length:=Yo
      subst O;have m:YH (o=(A||n.done.any Fz)):=by have:=f.o;rw[QT]at this;exact this
      clear f
      cases o
      ·by_cases r:n.goals=[]
       ·have bc:((n.goals.length:Int)==0)=true:=by rw[r];rfl
        have G:=Yh r;clear r;go_wp2;go_ret;refine⟨?_,a.o⟩;have j:Ct n=2:=by unfold Ct Ha;rw[<-E.o,<-I.o,<-m.o,QP Ys,QQ G.o]
        rw[j];rfl
       ·have bc:((n.goals.length:Int)==0)=false:=by
         rw[Qu]
         cases bd:n.goals with
         |nil=>exact absurd bd r
         |cons _ _=>simp;omega
        have G:=Yh r;clear r;go_wp2;go_ret;refine⟨?_,a.o⟩;have j:Ct n=1:=by unfold Ct Ha;rw[<-E.o,<-I.o,<-m.o,QP Ys,QP G.o]
        rw[j];rfl
      ·go_wp2;go_ret;refine⟨?_,a.o⟩;have j:Ct n=3:=by unfold Ct Ha;rw[<-E.o,<-I.o,<-m.o];rfl
       rw[j];rfl
theorem DP.repX:∀(f:Nat){w:World}{lo hi:Nat}{a b c:Value}{l:Ly},DP f w lo hi a b c l->IL (fun _=>False) f w a b c l:=by
 intro f
 induction f with
 |zero=>intro w lo hi a b c l h;exact h.elim
 |succ f u=>
  intro w lo hi a b c l h;rcases h with h|⟨nm,ls,xs,o,p,q,r,s,x,t⟩
  ·exact QG h
  ·refine QO ⟨nm,ls,xs,o,p,q,r,AI s (Qm _),fun _ _ h=>h,fun i v hl=> ?_⟩;obtain⟨d,e,g,j,k,m,n⟩:=t i v hl;exact⟨d,e,g,j,k,m,u n⟩
theorem DP.rep{f:Nat}{lo hi:Nat}{a b c:Value}(h:DP f w lo hi a b c l):CB (fun _=>False) w a b c l:=⟨f,h.repX⟩
theorem IL.repT:∀(f:Nat){w:World}{a b c:Value}{l:Ly},IL X f w a b c l->DP f w 0 w.heap.size a b c l:=by
 intro f
 induction f with
 |zero=>intro w a b c l h;exact h.elim
 |succ f x=>
  intro w a b c l h;rcases h with h|⟨nm,ls,xs,q,r,s,t,d,z,u⟩
  ·exact QG h
  ·refine QO ⟨nm,ls,xs,q,r,s,t,d,fun k v=>(d.lt k v).2,fun i y hl=> ?_⟩;obtain⟨e,g,j,m,n,o,p⟩:=u i y hl;exact⟨e,g,j,m,n,o,x p⟩
theorem CB.repT{a b c:Value}(h:CB X w a b c l){f:Nat}(d:l.length<=f):DP f w 0 w.heap.size a b c l:=by
 obtain⟨g,h⟩:=h;exact(h.len.mono d).repT f
theorem Fa.rowT{f:Nat}{lo:Nat}{d:Ll}(h:Fa f w lo cv d xs):Ed (fun _=>False) w cv d xs:=
 ⟨AI h.owns (Qm _),fun _ _ h=>h,fun i e hl=>by
  obtain⟨a,b,c,_,_,j,k,l,_,_,_,g⟩:=h.all i e hl;exact⟨a,b,c,j,k,l,g.rep⟩⟩
structure Gb(X:Nat->Prop)(w:World)(lv:Value)(cs:List Db)(xs:List Value):Prop where
 owns:w.ownsRow 0 185 5 lv cs.length xs
 all:∀(i:Nat)(c:Db),cs[i]?=some c->∃a b d bv ys,xs[i*5]?=some a/\xs[i*5+1]?=some b/\xs[i*5+2]?=some d/\xs[i*5+3]?=some bv/\xs[i*5+4]?=some (.int .i64 c.n)/\CB X w a b d c.head/\Ed X w bv c.body ys
theorem Gb.ext(h:Gb X w lv cs xs)(e:Ao w w')(f:∀k,k<w.heap.size->Y k->X k):Gb Y w' lv cs xs:=
 ⟨Aj h.owns (fun k n=>e.block k (h.owns.lt k n).2),fun i c m=>by
  obtain⟨a,b,d,g,t,o,p,q,r,s,j,l⟩:=h.all i c m;exact⟨a,b,d,g,t,o,p,q,r,s,j.ext e f,l.ext e f⟩⟩
theorem Jf{xs:List (Lv)}(b:∀x∈xs,x.length=5){i:Nat}{x:Lv}(a:xs[i]?=some x)(j:Nat)(g:j<5):xs.flatten[i*5+j]?=x[j]?:=by
 induction xs generalizing i with
 |nil=>simp at a
 |cons y h d=>
  have c:=b y Ys
  cases i with
  |zero=>
   simp at a;subst a;rw[Q4,Qc Yo];simp
  |succ i=>
   rw[Q4,Qd Yo,c];have e:(i+1)*5+j-5=i*5+j:=Yo
   rw[e];exact d (fun f hz=>b f (by simp[hz])) (by simpa using a)
theorem Eg.rowC{lo:Nat}{xs:List (Lv)}(h:Eg w lo lv cs xs):Gb (fun _=>False) w lv cs xs.flatten:=
 ⟨AI h.owns (Qm _),fun i c f=>by
  obtain⟨x,a,s,n,ca,cl,cc,b,k,j,l,g,rfl,d,e⟩:=h.all i c f;refine⟨_,_,_,b,g,?_,?_,?_,?_,?_,d.rep,e.rowT⟩
  ·have:=Jf h.five a 0 Yo;simpa using this
  ·have:=Jf h.five a 1 Yo;simpa using this
  ·have:=Jf h.five a 2 Yo;simpa using this
  ·have:=Jf h.five a 3 Yo;simpa using this
  ·have:=Jf h.five a 4 Yo;simpa using this⟩
theorem HZ{cs:Av}{fr:Nat×Nat}(b:w.heap[M]?=some (.cells cs t fr))(d:t≠183){k:Nat}(c:Cz w k):k≠M:=by
 rintro rfl;obtain⟨e,a⟩:=c;rw[b]at a;simp at a;exact d a.2.1
theorem CB.box{cs:Av}{fr:Nat×Nat}{a b c:Value}(h:CB X w a b c l)(d:w.heap[M]?=some (.cells cs t fr))(g:t≠183)(e:Ad (fun k=>k=M) w w'):CB X w' a b c l:=
 h.on (fun k f j i=>⟨e.block k f (HZ d g i),j⟩)
theorem Ed.box{cs:Av}{fr:Nat×Nat}(h:Ed X w cv ls xs)(a:w.heap[M]?=some (.cells cs t fr))(d:t≠183)(b:Ad (fun k=>k=M) w w'):Ed X w' cv ls xs:=
 h.on (fun k c f e=>⟨b.block k c (HZ a d e),f⟩)
theorem Bv{cs:Av}{fr:Nat×Nat}{n:Nat}(h:w.ownsRow B e size v n xs)(a:w.heap[M]?=some (.cells cs t fr))(d:e≠t)(b:Ad (fun k=>k=M) w w'):w'.ownsRow B e size v n xs:=
 b.owns h (fun k c e'=>by subst e';exact Ai h d a c)
theorem Dg.box{cs:Av}{fr:Nat×Nat}{n:Nat}{gs:List (Ly×Nat)}(h:Dg X w B cv n gs xs)(d:w.heap[M]?=some (.cells cs t fr))(j:t≠183)(l:200≠t)(e:Ad (fun k=>k=M) w w'):Dg X w' B cv n gs xs:=
 ⟨Bv h.owns d l e,h.len,fun i s f=>by
  obtain⟨a,b,c,m,o,p,q,g⟩:=h.all i s f;exact⟨a,b,c,m,o,p,q,g.box d j e⟩⟩
theorem I5.box{cs:Av}{fr:Nat×Nat}{d f:Value}{n:ND}(h:I5 X w gv vv d f n)(a:w.heap[M]?=some (.cells cs t fr))(c:t≠183)(e:200≠t)(l:3≠t)(b:Ad (fun k=>k=M) w w'):I5 X w' gv vv d f n:=by
 obtain⟨xs,g⟩:=h.goals;obtain⟨m,i⟩:=h.vals;obtain⟨zs,j⟩:=h.done;exact⟨⟨xs,g.box a c e b⟩,⟨m,i.box a c b⟩,⟨zs,j.box a c e b⟩,Bv h.used a l b⟩
theorem RX{n:Nat}(h:w.ownsRow B e size v n xs)(b:v.ownBlock=some k):∃a,w.heap[k]?=some (.cells a e (0,0)):=by
 rcases h.2 with⟨rfl,rfl⟩|⟨g,d,a,rfl,hb,c,rest⟩
 ·simp[Value.ownBlock]at b
 ·have:g=k:=by simpa[Value.ownBlock]using b
  subst this;exact⟨a,c⟩
theorem Ed.aside{m:Nat}(h:Ed X w cv ls xs)(f:w.ownsRow B e size v m ys)(b:e≠183)(c:Ad (Ak v) w w'):Ed X w' cv ls xs:=
 h.on (fun k d i g=>by
  obtain⟨j,a⟩:=g;exact⟨c.block k d (Ai f b a),i⟩)
theorem Dg.aside{B' n:Nat}{m:Nat}{gs:List (Ly×Nat)}(h:Dg X w B' cv n gs xs)(d:w.ownsRow B e size v m ys)(g:e≠183)(i:e≠200)(c:Ad (Ak v) w w'):Dg X w' B' cv n gs xs:=
 h.on (fun k a=>by
  obtain⟨f,b⟩:=RX h.owns a;exact c.block k (h.owns.lt k a).2 (Ai d i b)) (fun k a l j=>by
  obtain⟨f,b⟩:=j;exact⟨c.block k a (Ai d g b),l⟩)
theorem infoGC:(prog.info? 292).map (fun i=>(i.zero,i.size,i.bytes))=some (some (agg #[string ⟨#[]⟩,int i64 0,int i64 0,int i64 0,int i64 0,int i64 0]),6,56):=by kernel_rfl
def GV(gs:List GC)(s:BJ):Nat:=gs.findIdx (fun c=>DA c.sym s)
theorem RJ{gs:List GC}{s:BJ}{c:GC}(a:gs[k]?=some c)(h:DA c.sym s=true)(hb:∀i d,i<k->gs[i]?=some d->DA d.sym s=false):GV gs s=k:=by
 unfold GV;obtain⟨e,rfl⟩:=Qa.1 a;rw[List.findIdx_eq e];exact⟨h,fun j b=>hb j _ b (Qb Yo)⟩
theorem Pe{gs:List GC}{s:BJ}(hb:∀i d,i<gs.length->gs[i]?=some d->DA d.sym s=false):GV gs s=gs.length:=by
 unfold GV;rw[List.findIdx_eq_length];intro c a;obtain⟨i,hi,rfl⟩:=Q8 a;exact hb i _ hi (Qb hi)
theorem Wv{a b c d e:Int}:∀u∈(#[Value.string s,int i64 a,int i64 b,int i64 c,int i64 d,int i64 e]:Av).toList,u.oneCell'=true:=by
 intro u f;simp at f;rcases f with rfl|rfl|rfl|rfl|rfl|rfl<;>rfl
def XG:Value->Value
 | .bool b=> .bool (!b)
 |v=>v
theorem GQ{b:World}{a:Act}{o:Oper}{d c:Value}(s x:Operand)(t:TypeId)(e:o.op= .call {callee:= .builtin .append,args:=#[s,x],argTypes:=#[t,t]})(g:a.eval s=v)(h:a.eval x=d)(f:(Builtin.append_ #[t,t] o.type #[v,d]).run P b= .ok c w'):(execOp a.eval o).run P b= .ok (.value c) w':=by
 unfold execOp;simp only[e,resolve,invoke,builtin,Sem.run_bind,Sem.run_pure,Result.andThen_ok,List.map_toArray,Qx,QX,g,h,f]
def S3(gb:Nat)(v:Value)(gs:List GC)(s:BJ)(w w':World):Prop:=∃v',F6 w' gb v' (gs++[⟨s,0,GV gs s,0⟩])/\Ad (fun k=>k=gb\/Ak v k) w w'/\∀k,Ak v' k->Ak v k\/w.heap.size<=k
theorem Ki(w:World)(a:Nat)(v:Value)(gs:List GC)(s:BJ)(h:F6 w a v gs)(hl:gs.length<=4000):
  Calls prog 187 #[Pt a,agg #[string ⟨s.name.toArray⟩,int i64 s.num,int i64 s.args]] w fun e w'=>e=Rq #[]/\S3 a v gs s w w':=by
 obtain⟨va,f,rfl⟩:=Ab h.owns;have ah:=Yh h;clear h;go_enter func187,ntmps187;go_wp2
 go_loopg [4] (gs.length+1) (fun gk av wr=>∃(k:Nat),av=int i64 k/\k<=gs.length/\gs.length-k<gk/\Ao w wr/\wr.heap[w.heap.size]?=some (.cells #[string ⟨s.name.toArray⟩,int i64 s.num,int i64 s.args] 133 (0,0))/\∀i d,i<k->gs[i]?=some d->DA d.sym s=false)
 case atStart=>exact⟨0,Yg,Qm _,Yo,Mxt,QL w _,fun i d h=>by omega⟩
 case round=>
  obtain⟨k,rfl,a5,a4,G,E,aa⟩:=hrel;have ae:=G.size;have C:=ah.o.ext G;have B:wr.cell? ⟨a,0,none⟩=some (slice va gs.length f):=Aa C.box 0 _ rfl;have aq:=Ac C.box;obtain⟨J,K,s2,ax⟩:=By E;have af:=Ac E;have x:=Yh C;have V:=Yh G;have aj:=Yh E;have L:=Yh aa;clear C G E aa;have U:YH (∀(u:World)(t:Value)(w2:World),Ao wr u->GV gs s=k->Ar u 0 292 6 (slice va gs.length f) (gs.length+1) (NF gs++[string ⟨s.name.toArray⟩,int i64 s.num,int i64 s.args,int i64 0,int i64 k,int i64 0]) t w2->S3 a (slice va gs.length f) gs s w (w2.setCell ⟨a,0,none⟩ t)):=fun u t w2 q ar l=>by
   have D:=x.o.ext q;have au:=q.size;have ab:=(l.kept.block a (Ac D.box) (Ai D.owns Yd D.box)).trans D.box;have Z:Ad (fun j=>j=a) w2 (w2.setCell ⟨a,0,none⟩ t):=(Ad.refl (only a) w2).put 0 _;refine⟨t,⟨Ae ab 0 _,?_⟩,?_,fun j ac=> ?_⟩
   ·have:=Bv l.owns ab Yd Z;rw[VO,ar];simpa[Rz]using this
   ·have aw:Ad (fun k=>k=a\/Ak (slice va gs.length f) k) w u:=(Ad.of_below (V.o.trans (q.mono ae))).mono (fun i hi h=>by omega);exact(aw.then l.kept (fun i _ h=>QO h)).then Z (fun i _ h=>QG h)
   ·rcases l.where_ with S|⟨g,S,a3⟩
    ·exact QG (S.symm.trans ac)
    ·have:some g=some j:=S.symm.trans ac;simp at this;exact QO Yo
  by_cases ad:k<gs.length
  ·obtain⟨c,Q⟩:∃c,gs[k]?=some c:=⟨_,Qb ad⟩;obtain⟨cb,a0,F,a2,a1,_,_⟩:=x.o.shape Yo;simp only[QH]at F;obtain⟨rfl,_,rfl⟩:=F;obtain⟨W,X,Y,_,_,_⟩:=x.o.cell Q;have ai:=Yh (SP wr.drew c.sym s);have T:=Yh Q;clear Q;go_wp2_with fail;refine BW Yk 999 [.rd 0 0 (fun _=>int i64 k),.rd 0 0 (fun _=>Pt a),.rd 0 0 (fun _=>Pt a),.rd 0 0 (fun _=>Pt a),.rd 0 0 (fun _=>slice (some ⟨cb,0,none⟩) gs.length f),.rd 0 0 (fun _=>int i64 gs.length),.rd 0 0 (fun _=> .bool true),.rd 0 0 (fun _=> .bool true),
    .rd 0 0 (fun _=>Pt a),.rd 0 0 (fun _=>Pt a),.rd 0 0 (fun _=>Pt a),.rd 0 0 (fun _=>slice (some ⟨cb,0,none⟩) gs.length f),.rd 0 0 (fun _=>int i64 k),.rd 0 0 (fun _=>pointer (some ⟨cb,k*6,none⟩)),.rd 0 0 (fun _=>pointer (some ⟨cb,k*6,none⟩)),.rd 0 0 (fun _=>agg #[string ⟨c.sym.name.toArray⟩,int i64 c.sym.num,int i64 c.sym.args]),.rd 0 0 (fun _=>agg #[string ⟨s.name.toArray⟩,int i64 s.num,int i64 s.args]),
    .st 0,.rd 1 1 (fun vs=>XG (vs.getD 0 undef)),.rd 1 1 (fun vs=>XG (vs.getD 0 undef))] 1 7 Yk
    (Jr wr.drew (fun v=>v= .bool (DA c.sym s)) (fun _ u=>Ao wr u)) rfl ?_ ?_
   ·refine⟨⟨by simp[Ph.val],fun vs y _ hl b=> ?_⟩,⟨by simp[Ph.val],fun vs y _ hl b=> ?_⟩,⟨by simp[Ph.val],fun vs y _ hl b=> ?_⟩,⟨by simp[Ph.val],fun vs y _ hl b=> ?_⟩,⟨by simp[Ph.val],fun vs y _ hl b=> ?_⟩,⟨by simp[Ph.val],fun vs y _ hl b=> ?_⟩,⟨by simp[Ph.val],fun vs y _ hl b=> ?_⟩,⟨by simp[Ph.val],fun vs y _ hl b=> ?_⟩,⟨by simp[Ph.val],fun vs y _ hl b=> ?_⟩,⟨by simp[Ph.val],fun vs y _ hl b=> ?_⟩,⟨by simp[Ph.val],fun vs y _ hl b=> ?_⟩,⟨by simp[Ph.val],fun vs y _ hl b=> ?_⟩,⟨by simp[Ph.val],fun vs y _ hl b=> ?_⟩,⟨by simp[Ph.val],fun vs y _ hl b=> ?_⟩,⟨by simp[Ph.val],fun vs y _ hl b=> ?_⟩,⟨by simp[Ph.val],fun vs y _ hl b=> ?_⟩,⟨by simp[Ph.val],fun vs y _ hl b=> ?_⟩,⟨by simp[Ph.val],fun vs y hl b=> ?_⟩,⟨by simp[Ph.val],fun vs y _ hl b=> ?_⟩,⟨by simp[Ph.val],fun vs y _ hl b=> ?_⟩,trivial⟩
    iterate 17 (· obtain rfl:=b.at hl;simp[go_sem,B,J,K,s2,W,X,Y,ad])
    ·obtain rfl:=Q3.1 hl;obtain rfl:y=wr.drew:=b;refine .call 207 #[agg #[string ⟨c.sym.name.toArray⟩,int i64 c.sym.num,int i64 c.sym.args],agg #[string ⟨s.name.toArray⟩,int i64 s.num,int i64 s.args]] _ (by simp[go_sem]) (ai.o.mono ?_);rintro e u ⟨rfl,F⟩;exact⟨_,rfl,rfl,F.undrew⟩
    all_goals
     obtain⟨v,rfl⟩:=Q1.1 (show vs.length=1 by omega);obtain⟨rfl,_⟩:=b;simp[go_sem,XG]
   rintro vs u hl b;obtain⟨vc,rfl⟩:=Q1.1 hl;obtain⟨rfl,q⟩:=b;simp only[EB,IB,CD,pa,Ph.kd,Ph.val,Kd.val,Qx,QX,Ja,Act.put,Q5,List.take_zero,List.getD_cons_zero,XG];have au:=q.size;have H:=x.o.ext q;have P:=(q.block _ af).trans aj.o;obtain⟨J,K,s2,ax⟩:=By P;have B:u.cell? ⟨a,0,none⟩=some (slice (some ⟨cb,0,none⟩) gs.length f):=Aa H.box 0 _ rfl;have R:a<u.heap.size:=Ac H.box;have p:YH (F6 (u.drewN 1) a (slice (some ⟨cb,0,none⟩) gs.length f) gs):=H.on (fun _ _=>rfl);have z:YH ((u.drewN 1).ownsRow 0 292 6 (slice (some ⟨cb,0,none⟩) gs.length f) gs.length (NF gs)):=p.o.owns;have A:=Yh q;have ak:=Yh P;clear q H P W X Y
   cases I:DA c.sym s with
   |false=>
    have al:=Yh I;clear I;simp only[JC,Bool.not_false,Bool.not_true,JD,JG];go_wp2
    go_roundg (gs.length-k)
    case measure=>omega
    case rel=>
     refine⟨k+1,Yg,Yo,Yo,V.o.trans (A.o.mono ae),ak.o,fun i d hi hd=> ?_⟩
     by_cases e:i=k
     ·subst e;rw[T.o]at hd;simp at hd;subst hd;exact al.o
     ·exact L.o i d Yo hd
   |true=>
    have N:=Yh (RJ T.o I L.o);clear I;simp only[JC,Bool.not_false,Bool.not_true,JD,JG];go_wp2_with fail;have O:YH (Ao wr u.drew):=A.o.trans ⟨rfl,rfl,rfl,Qe _,fun _ _=>rfl⟩;have ag:w.heap.size<u.heap.size:=Yo
    go_region_law (refine BA (u.drewN 1) rfl (.tmp 31) (.tmp 35) 264 rfl 0 292 infoGC underlying264 rfl Yd (slice (some ⟨cb,0,none⟩) gs.length f) gs.length (NF gs) rfl z.o #[string ⟨s.name.toArray⟩,int i64 s.num,int i64 s.args,int i64 0,int i64 k,int i64 0] rfl Ys rfl Wv Yo (Qm _) rfl ?_;intro t w2 l;obtain⟨ay,az,rfl⟩:=Ab l.owns;have r:=(l.kept.block a R (Ai z.o Yd p.o.box)).trans p.o.box;have am:=Aa r 0 _ rfl;have an:=fun i=>Ag r i;have M:=Yh (U.o (u.drewN 1) _ w2 O.o N.o (by simpa using l));clear l r)
    all_goals
     go_wp2;go_end0;exact⟨rfl,M.o⟩
  ·have ap:k=gs.length:=Yo
   subst ap;have hd:decide (((gs.length:Nat):Int)<((gs.length:Nat):Int))=false:=Ys
   have N:=Yh (Pe (fun i d hi ao=>L.o i d hi ao));have p:YH (∀n,F6 (wr.drewN n) a (slice va gs.length f) gs):=fun n=>x.o.on (fun _ _=>rfl);go_wp2_with fail;go_quiet (fail);obtain⟨u,m⟩:=Ex (wr.drewN nq);rw[<-m];have B:u.cell? ⟨a,0,none⟩=some (slice va gs.length f):=by rw[m];exact B
   have J:u.cell? ⟨w.heap.size,0,none⟩=some (string ⟨s.name.toArray⟩):=by rw[m];exact J
   have K:u.cell? ⟨w.heap.size,1,none⟩=some (int i64 s.num):=by rw[m];exact K
   have s2:u.cell? ⟨w.heap.size,2,none⟩=some (int i64 s.args):=by rw[m];exact s2
   have R:a<u.heap.size:=by rw[m];exact aq
   have ag:w.heap.size<u.heap.size:=by rw[m];exact af
   have p:YH (F6 u.drew a (slice va gs.length f) gs):=by rw[m];exact p.o (nq+1)
   have z:YH (u.drew.ownsRow 0 292 6 (slice va gs.length f) gs.length (NF gs)):=p.o.owns;have A:YH (Ao wr u):=by rw[m];exact⟨rfl,rfl,rfl,Qe _,fun _ _=>rfl⟩
   clear m;go_wp2_with fail;have O:YH (Ao wr u.drew):=A.o.trans ⟨rfl,rfl,rfl,Qe _,fun _ _=>rfl⟩;have ag:w.heap.size<u.heap.size:=Yo
   go_region_law (refine BA u.drew rfl (.tmp 31) (.tmp 35) 264 rfl 0 292 infoGC underlying264 rfl Yd (slice va gs.length f) gs.length (NF gs) rfl z.o #[string ⟨s.name.toArray⟩,int i64 s.num,int i64 s.args,int i64 0,int i64 gs.length,int i64 0] rfl Ys rfl Wv Yo (Qm _) rfl ?_;intro t w2 l;obtain⟨ay,az,rfl⟩:=Ab l.owns;have r:=(l.kept.block a R (Ai z.o Yd p.o.box)).trans p.o.box;have am:=Aa r 0 _ rfl;have an:=fun i=>Ag r i;have M:=Yh (U.o u.drew _ w2 O.o N.o (by simpa using l));clear l r)
   all_goals
    go_wp2;go_end0;exact⟨rfl,M.o⟩
def Cr(l:Ly):List GC:=(List.range l.length).map (fun i=>⟨AB l i,0,A1 l i,0⟩)
theorem Bp(l:Ly):(Cr l).length=l.length:=by simp[Cr]
theorem E6(h:i<l.length):(Cr l)[i]?=some ⟨AB l i,0,A1 l i,0⟩:=by
 simp[Cr,h]
theorem R4(l:Ly):(Cr l).map GC.sym=l:=by
 apply JR;intro i;rw[Qj]
 by_cases h:i<l.length
 ·rw[E6 h];simp[AB,h]
 ·rw[QV (by rw[Bp];omega),QV Yo];rfl
theorem LK(r:Ly)(h:i<l.length):AB (l++r) i=AB l i:=by
 simp[AB,QZ,Qc h]
theorem Og(s:BJ)(h:i<l.length):A1 (l++[s]) i=A1 l i:=by
 unfold A1;rw[LK _ h];split
 ·rename_i hn;rw[List.findIdx_append,QQ];rw[List.findIdx_lt_length];refine⟨AB l i,?_,by simp[hn]⟩;simp only[AB,QZ,Qb h,Option.getD_some];exact List.getElem_mem h
 ·rfl
theorem NL(l:Ly)(s:BJ):A1 (l++[s]) l.length=GV (Cr l) s:=by
 have a:GV (Cr l) s=l.findIdx (fun t=>DA t s):=by
  have:=List.findIdx_map (Cr l) GC.sym (fun t=>DA t s);rw[R4]at this;exact this.symm
 have b:AB (l++[s]) l.length=s:=by simp[AB]
 rw[a];unfold A1;rw[b];split
 ·rename_i hn;have c:(fun t:BJ=>DA t s)=(fun t=>t.name.isEmpty&&t.num==s.num):=by
   funext t;simp[DA,hn]
  rw[c,List.findIdx_append];split
  ·rfl
  ·rename_i d;have:=List.findIdx_le_length (p:=fun t:BJ=>t.name.isEmpty&&t.num==s.num) (xs:=l);have h0:[s].findIdx (fun t:BJ=>t.name.isEmpty&&t.num==s.num)=0:=by simp[List.findIdx_cons,hn]
   omega
 ·rename_i hn;refine(List.findIdx_eq_length.2 ?_).symm;intro t _;have:s.name.isEmpty=false:=by
   cases h:s.name with
   |nil=>exact absurd h hn
   |cons _ _=>rfl
  simp[DA,this]
theorem RW(l:Ly)(s:BJ):Cr (l++[s])=Cr l++[⟨s,0,GV (Cr l) s,0⟩]:=by
 apply JR;intro i
 by_cases h:i<l.length
 ·rw[Qc (by rw[Bp];exact h),E6 h,E6 Yp,LK _ h,Og _ h]
 ·by_cases e:i=l.length
  ·subst e;rw[E6 Ys,Qd (by rw[Bp];omega),Bp,NL];simp[AB]
  ·rw[QV (by rw[Bp];simp;omega),QV (by simp[Bp];omega)]
def Mm(w:World)(l:Ly)(wr:World):Prop:=∃v,F6 wr (w.heap.size+1) v (Cr l)/\Ao w wr/\(∀j,Ak v j->w.heap.size<=j)/\wr.heap[w.heap.size]?=some (.cells #[.slice none 0 0] 266 (0,0))
theorem Mm.add{s:BJ}(i:F6 wr (w.heap.size+1) v (Cr l))(d:Ao w wr)(e:∀j,Ak v j->w.heap.size<=j)(a:wr.heap[w.heap.size]?=some (.cells #[Nl] 266 (0,0)))(ha:S3 (w.heap.size+1) v (Cr l) s wr w1):Mm w (l++[s]) w1:=by
 obtain⟨o,f,c,g⟩:=ha;have n:=d.size;refine⟨o,by rw[RW];exact f,d.trans (c.below n (fun k b=> ?_)),fun j m=> ?_,(c.block _ (Ac a) ?_).trans a⟩
 ·rcases b with rfl|b
  ·omega
  ·exact e k b
 ·rcases g j m with h|h
  ·exact e j h
  ·omega
 ·rintro(h|h)
  ·omega
  ·exact Ai i.owns Yd a h
def Yc(w:World)(l:Ly)(e:Ending)(w':World):Prop:=∃v,e= .returned (.agg #[v])/\w'.ownsRow 0 292 6 v l.length (NF (DG l (Cr l) 0))/\Ao w w'/\∀j,Ak v j->w.heap.size<=j
theorem SK(w:World)(X Y:Value)(a b:Ly)(J:w.ownsRow 0 133 3 X a.length (Aq a))(K:w.ownsRow 0 133 3 Y b.length (Aq b))(ha:Wf 1 a)(hb:Wf 1 b)(aq:a.length<=1000)(au:b.length<=1000):
  Calls prog 157 #[X,Y] w (Yc w (a++b)):=by
 have ar:=BR ha;have av:=BR hb;obtain⟨H,am,ao,rfl,_,U,aw⟩:=An J Yo;obtain⟨I,an,ap,rfl,_,V,ax⟩:=An K Yo;have a1:=Ac U;have a2:=Ac V;have Q:=Yh J;have R:=Yh K;have ac:=Yh ha;have ad:=Yh hb;clear J K ha hb U V;go_enter func157,ntmps157;go_wp2
 go_loopg [12] (a.length+1) (fun gk P wr=>∃(k:Nat),P=int i64 k/\k<=a.length/\a.length-k<gk/\Mm w (a.take k) wr)
 case atStart=>exact⟨0,Yg,Qm _,Yo,Nl,⟨by have:=QL (w.alloc (.cells #[Nl] 266)) (.cells #[Nl] 266);simpa using this,Q2 _ _ _ _⟩,Mxt,fun j x=>by simp[Ak,Value.ownBlock]at x,(Jd _ _ _ Ys).trans (QL w _)⟩
 case round=>
  obtain⟨k,rfl,W,aj,M⟩:=hrel;obtain⟨v,p,q,A,u⟩:=M;have E:=q.size;have ai:=Ac p.box;have d:=Yh p;have m:=Yh q;have n:=Yh A;have h:=Yh u;clear p q A u
  by_cases O:k<a.length
  ·obtain⟨s,g⟩:∃s,a[k]?=some s:=⟨_,Qb O⟩;have l:=Aj Q.o (fun j x=>m.o.block j (Q.o.lt j x).2)
   have af:wr.cell? ⟨H,k*3,none⟩=some (string ⟨s.name.toArray⟩):=Af l _ _ (by have:=AV a k s g 0 Yo;rw[JU]at this;rw[this];rfl);have ag:wr.cell? ⟨H,k*3+1,none⟩=some (int i64 s.num):=Af l _ _ (by rw[AV a k s g 1 Yo];rfl);have ah:wr.cell? ⟨H,k*3+2,none⟩=some (int i64 s.args):=Af l _ _ (by rw[AV a k s g 2 Yo];rfl);have y:a.take (k+1)=a.take k++[s]:=by rw[QU,g];rfl
   have G:=Yh y;clear g l y;go_wp2_with fail;have f:Ao wr (wr.alloc (.cells #[string ⟨s.name.toArray⟩,int i64 s.num,int i64 s.args] 133)):=Mxt;refine(Ki _ (w.heap.size+1) v (Cr (a.take k)) s (d.o.ext f) (by rw[Bp];simp;omega)).mono ?_;rintro e w1 ⟨rfl,z⟩;have t:=Mm.add (d.o.ext f) (m.o.trans (f.mono E)) n.o ((f.block _ (Ac h.o)).trans h.o) z;have F:=Yh t;clear z t f;go_wp2
   go_roundg (a.length-k)
   case measure=>omega
   case rel=>exact⟨k+1,Yg,Yo,Yo,by rw[G.o];exact F.o⟩
  ·have N:k=a.length:=Yo
   subst N;rw[QT]at d;have ab:YH (Mm w a wr):=⟨v,d.o,m.o,n.o,h.o⟩;clear d m n h;go_wp2
   go_loopg [21] (b.length+1) (fun gk P wr=>∃(k:Nat),P=int i64 k/\k<=b.length/\b.length-k<gk/\Mm w ((a++b.take k)) wr)
   case atStart=>exact⟨0,Yg,Qm _,Yo,by have:=ab.o;simpa using this⟩
   case round=>
    obtain⟨k,rfl,W,aj,M⟩:=hrel;obtain⟨v,p,q,A,u⟩:=M;have E:=q.size;have ai:=Ac p.box;have d:=Yh p;have m:=Yh q;have n:=Yh A;have h:=Yh u;clear p q A u
    by_cases O:k<b.length
    ·obtain⟨s,g⟩:∃s,b[k]?=some s:=⟨_,Qb O⟩;have l:=Aj R.o (fun j x=>m.o.block j (R.o.lt j x).2)
     have af:wr.cell? ⟨I,k*3,none⟩=some (string ⟨s.name.toArray⟩):=Af l _ _ (by have:=AV b k s g 0 Yo;rw[JU]at this;rw[this];rfl);have ag:wr.cell? ⟨I,k*3+1,none⟩=some (int i64 s.num):=Af l _ _ (by rw[AV b k s g 1 Yo];rfl);have ah:wr.cell? ⟨I,k*3+2,none⟩=some (int i64 s.args):=Af l _ _ (by rw[AV b k s g 2 Yo];rfl);have y:b.take (k+1)=b.take k++[s]:=by rw[QU,g];rfl
     have G:=Yh y;clear g l y;go_wp2_with fail;have f:Ao wr (wr.alloc (.cells #[string ⟨s.name.toArray⟩,int i64 s.num,int i64 s.args] 133)):=Mxt;refine(Ki _ (w.heap.size+1) v (Cr ((a++b.take k))) s (d.o.ext f) (by rw[Bp];simp;omega)).mono ?_;rintro e w1 ⟨rfl,z⟩;have t:=Mm.add (d.o.ext f) (m.o.trans (f.mono E)) n.o ((f.block _ (Ac h.o)).trans h.o) z;have F:=Yh t;clear z t f;go_wp2
     go_roundg (b.length-k)
     case measure=>omega
     case rel=>exact⟨k+1,Yg,Yo,Yo,by rw[G.o,<-Qi];exact F.o⟩
    ·have N:k=b.length:=Yo
     subst N;rw[QT]at d;obtain⟨cb,r,rfl,az,ay,a3,a0⟩:=d.o.shape (by rw[Bp];simp;omega);have aa:=Yh d.o;have ak:(Cr (a++b)).length=a.length+b.length:=by rw[Bp];simp
     clear ak;go_wp2_with fail;refine(Oy wr (w.heap.size+1) _ (Cr (a++b)) (a++b) d.o (Bp _) (fun i c C=> ?_) (EM ac.o ad.o) (by rw[Bp];simp;omega)).mono ?_
     ·have hi:=(Qa.1 C).1;rw[Bp]at hi;rw[E6 hi]at C;simp at C;rw[<-C]
     rintro e w1 ⟨rfl,L,D⟩;have B:=(D.block _ (Ac h.o) (Ai aa.o.owns Yd h.o)).trans h.o;have b1:w1.cell? ⟨w.heap.size+1,0,none⟩=some (slice (some ⟨cb,0,none⟩) (Cr (a++b)).length r):=Aa L.box 0 _ rfl;have b2:w1.cell? ⟨w.heap.size,0,none⟩=some Nl:=Aa B 0 _ rfl;have al:=fun i=>Ag B i;have a4:=D.size;have Z:=Yh L;have ae:=Yh D;have S:=Yh B;clear L D B;go_wp2;have T:Ad (fun j=>j=w.heap.size) w1 (w1.setCell ⟨w.heap.size,0,none⟩ (slice (some ⟨cb,0,none⟩) (Cr (a++b)).length r)):=(Ad.refl (only w.heap.size) w1).put 0 _;have h0:(w1.setCell ⟨w.heap.size,0,none⟩ (slice (some ⟨cb,0,none⟩) (Cr (a++b)).length r)).cell? ⟨w.heap.size,0,none⟩=some (slice (some ⟨cb,0,none⟩) (Cr (a++b)).length r):=Aa (Ae S.o 0 _) 0 _ rfl;refine Jb (v:=agg #[slice (some ⟨cb,0,none⟩) (Cr (a++b)).length r]) (by simp[results,results157,go_sem,h0]) rfl ⟨_,rfl,?_,?_,n.o⟩
     ·have:=Bv Z.o.owns S.o Yd T;rw[ER,Bp]at this;rw[Bp];exact this
     ·exact(m.o.trans (ae.o.below E n.o)).trans (T.below Yo (fun k W=>by omega))
def sz(gs:List GC)(f:Nat->Int):List GC:=gs.mapIdx (fun i c=>{c with size:=f i})
def upd(f:Nat->Int)(x:Nat)(u:Int):Nat->Int:=fun j=>if j=x then u else f j
theorem Dm(gs:List GC)(f:Nat->Int):(sz gs f).length=gs.length:=by simp[sz]
theorem KB{gs:List GC}{f:Nat->Int}{c:GC}(h:gs[i]?=some c):(sz gs f)[i]?=some {c with size:=f i}:=by
 unfold sz;rw[List.getElem?_mapIdx,h];rfl
theorem XQ(gs:List GC)(f:Nat->Int):(sz gs f).map GC.up=gs.map GC.up:=by
 apply JR;intro i;rw[Qj,Qj]
 cases h:gs[i]? with
 |none=>rw[QV (by rw[Dm];exact J8.1 h)]
 |some c=>rw[KB h];rfl
theorem VI(gs:List GC)(f:Nat->Int)(x:Nat)(u:Int):(sz gs f).modify x (fun c=>{c with size:=u})=sz gs (upd f x u):=by
 apply JR;intro i;rw[JL]
 cases h:gs[i]? with
 |none=>
  rw[QV (by rw[Dm];exact J8.1 h),QV (by rw[Dm];exact J8.1 h)];rfl
 |some c=>
  rw[KB h,KB h]
  by_cases e:x=i
  ·subst e;simp[upd]
  ·have e':¬i=x:=fun h=>e h.symm;simp[e,upd,e']
def EJ:Nat->(Nat->Int)->Nat
 |0,_=>0
 |n+1,f=>EJ n f+if f n=0 then 1 else 0
theorem LY(f:Nat->Int)(x:Nat){u:Int}(b:u≠0):∀n,EJ n (upd f x u)<=EJ n f/\(x<n->f x=0->EJ n (upd f x u)<EJ n f):=by
 intro n
 induction n with
 |zero=>exact⟨Qe _,fun h=>by omega⟩
 |succ n c=>
  obtain⟨d,a⟩:=c
  by_cases e:n=x
  ·subst e;have:upd f n u n=u:=by simp[upd]
   simp only[EJ,this,QP b];refine⟨Yo,fun _ h=> ?_⟩;rw[QQ h];omega
  ·have:upd f x u n=f n:=by simp[upd,e]
   simp only[EJ,this];exact⟨Yo,fun h h0=>by have:=a Yo h0;omega⟩
def MO(n:Nat)(f:Nat->Int)(j:Nat):Prop:=j<n/\0<f j
def SD(n:Nat)(f:Nat->Int)(T:Nat->Ly):Prop:=∀j,j<n->f j=0\/f j= -1\/(0<f j/\f j=((min 31 (T j).length:Nat):Int))
def H8(T:Nat->Ly)(ρ:Nat->Nat)(ks:List Nat):Nat:=(ks.map (fun k=>min 31 (T (ρ k)).length)).sum
theorem Xe(T:Nat->Ly)(b:Nat->Nat)(ks:List Nat):H8 T b ks<=31*ks.length:=by
 induction ks with
 |nil=>simp[H8]
 |cons k ks a=>simp only[H8,Qx,List.sum_cons,Qf]at a⊢;omega
theorem Uk(T:Nat->Ly)(a:Nat->Nat)(ks:List Nat)(k:Nat):H8 T a (ks++[k])=H8 T a ks+min 31 (T (a k)).length:=by simp[H8]
theorem Su{T a:Nat->Ly}{ks:List Nat}(h:∀k∈ks,a (ρ k)=T (ρ k)):H8 a ρ ks=H8 T ρ ks:=by
 unfold H8;congr 1;exact JE (fun k b=>by rw[h k b])
theorem Wg(T:Nat->Ly)(a:Nat->Nat)(ks:List Nat):min 31 (1+H8 T a ks)=min 31 (1+((ks.map (fun k=>T (a k))).flatten).length):=by
 induction ks with
 |nil=>rfl
 |cons k ks b=>simp only[H8,Qx,List.sum_cons,Q4,Qg]at b⊢;omega
theorem OO{n:Nat}(a:Wf n l)(hi:i<l.length):(AB l i).args<=l.length:=by
 obtain⟨_,d,_⟩:=Fm a hi;obtain⟨_,_,_,_,_,hb,_⟩:=DR a hi;have c:∀k,k<(AB l i).args->i<AJ l (i+1) k/\AJ l (i+1) k<l.length:=fun k b=>by
  have:=d _ (Qh (BN l (i+1) _ k b));omega
 have mono:∀k,k<=(AB l i).args->i+1+k<=AJ l (i+1) k:=by
  intro k
  induction k with
  |zero=>intro _;simp[AJ]
  |succ k e=>
   intro b;have:=e Yo;rw[BT];have:=c k Yo;obtain⟨_,_,_,_,f,_⟩:=DR a (i:=AJ l (i+1) k) Yo;omega
 rcases QB l.length (AB l i).args with h|h
 ·exfalso;have:=mono l.length Yo;have:=c l.length h;omega
 ·exact h
def TM(gb:Nat)(v:Value)(gs:List GC)(l:Ly)(ρ:Nat->Nat)(f:Nat->Int)(T:Nat->Ly)(i:Nat)(w:World)(e:Ending)(w':World):Prop:=∃f',F6 w' gb v (sz gs f')/\Ad (Ak v) w w'/\
 ((∃T',e= .returned (.int .i64 ((min 31 (T' (ρ i)).length:Nat):Int))/\SD gs.length f' T'/\EJ gs.length f'<=EJ gs.length f/\CM (B8 l) ρ (MO gs.length f') T'/\MO gs.length f' (ρ i)/\(∀j,f' j= -1↔f j= -1)/\(∀j,MO gs.length f j->MO gs.length f' j/\T' j=T j))\/
  (e= .returned (.int .i64 (-1))/\FK (B8 l) ρ (fun r=>f r= -1) i))
def LE(m:Nat):Prop:=∀(w:World)(gb:Nat)(v:Value)(gs:List GC)(l:Ly)(ρ rk:Nat->Nat)(f:Nat->Int)(T:Nat->Ly)(i:Nat),F6 w gb v (sz gs f)->DV gs l->Wf 2 l->Fe (gs.map GC.up) ρ rk->SD gs.length f T->EJ gs.length f<=m->i<gs.length->gs.length<=4000->CM (B8 l) ρ (MO gs.length f) T->
 Calls prog 159 #[.pointer (some ⟨gb,0,none⟩),.int .i64 i] w (TM gb v gs l ρ f T i w)
theorem UW(m:Nat)(bg:∀k,k<m->LE k):LE m:=by
 intro w y v gs l g b2 f T i h K a5 ah au bv hi hl bk;have a3:=ah.rt;have z:=a3.lt i (by simpa using hi);have a6:=a3.idem i (by simpa using hi);rw[Ql]at z;obtain⟨x,ai⟩:=Ex (g i);rw[<-ai]at z a6;obtain⟨cb,s,rfl,di,cu,dn,dj⟩:=h.shape (by rw[Dm];omega);have bz:(sz gs f).length=gs.length:=Dm gs f;rw[bz]at h cu⊢;obtain⟨d,ac⟩:∃c,gs[x]?=some c:=⟨_,Qb z⟩;obtain⟨a4,ct⟩:=K.all x d ac;have X:=Yh (Fo w y (slice (some ⟨cb,0,none⟩) gs.length s) (sz gs f) g b2 i h (by rw[XQ];exact ah) (by rw[Dm];exact hi) (by rw[Dm];exact hl));rw[<-ai]at X;have ay:∀a w',F6 w' y (slice (some ⟨cb,0,none⟩) gs.length s) (sz gs a)->∀j c,gs[j]?=some c->w'.cell? ⟨cb,j*6+2,none⟩=some (int i64 c.sym.args)/\w'.cell? ⟨cb,j*6+3,none⟩=some (int i64 c.behind)/\w'.cell? ⟨cb,j*6+5,none⟩=some (int i64 (a j)):=fun a w' cy j c b=>by
  have U:F6 w' y (slice (some ⟨cb,0,none⟩) (sz gs a).length s) (sz gs a):=by rw[Dm];exact cy
  obtain⟨_,_,co,cp,_,cq⟩:=U.cell (KB (f:=a) b);exact⟨co,cp,cq⟩
 have bd:=Yh ay;have bi:w.cell? ⟨y,0,none⟩=some (slice (some ⟨cb,0,none⟩) gs.length s):=Aa h.box 0 _ rfl;have dl:=Ac h.box;obtain⟨c8,c9,aj⟩:=ay f w h x d ac;have cv:=au x z;have dg:d.sym.args<=4000:=by
  have:=OO a5 (i:=x) (by rw[<-K.len];exact z);rw[<-a4,<-K.len]at this;omega
 have ak:=Yh h;have cl:=Yh ah;have E:=Yh K;have Y:=Yh a5;have ba:=Yh au;have cf:=Yh bv;have a8:=Yh bk;have cc:=Yh bg;have F:=Yh ai;have ck:=Yh a6;have al:=Yh ac;have bf:=Yh a4;clear h ah K a5 au bv bk bg ai a6 ac a4 a3 ay ct bz;rcases cv with h0|h0|⟨h0,bj⟩
 ·have D:=Yh h0;rw[h0]at aj;clear h0;go_enter func159,ntmps159;go_wp2_with fail;apply X.o.mono;rintro e w1 ⟨rfl,rfl⟩;go_wp2;obtain⟨t,R⟩:∃cm,cm=AW l (x+1) d.sym.args:=⟨_,rfl⟩;have da:=Yh R;have bl:t.length=d.sym.args:=by rw[R,Dp]
  have a9:=Yh bl;have ao:YH ((B8 l).kids x=t):=by show AW l (x+1) (AB l x).args=t;rw[R,<-bf.o]
  have br:∀k,k<d.sym.args->t[k]?=some (AJ l (x+1) k):=fun k ad=>by rw[R];exact BN l (x+1) _ k ad
  have bt:∀k,k<d.sym.args->AJ l (x+1) k<gs.length:=fun k ad=>by
   have b1:x<l.length:=by rw[<-E.o.len];exact z
   obtain⟨_,cr,_⟩:=Fm Y.o b1;obtain⟨_,_,_,_,_,dh,_⟩:=DR Y.o b1;have:=cr _ (Qh (by rw[<-bf.o];exact BN l (x+1) _ k ad));have:=E.o.len;omega
  have cd:=Yh br;have ce:=Yh bt;clear R bl br bt
  go_loopg [6,7,8] (d.sym.args+1) (fun gk tv av nv wr=>∃(k:Nat)(a:Nat->Int)(A:Nat->Ly),tv=int i64 ((1+H8 A g (t.take k):Nat):Int)/\av=int i64 (AJ l (x+1) k:Nat)/\nv=int i64 k/\k<=d.sym.args/\d.sym.args-k<gk/\F6 wr y (slice (some ⟨cb,0,none⟩) gs.length s) (sz gs a)/\Ad (Ak (slice (some ⟨cb,0,none⟩) gs.length s)) w1 wr/\
    SD gs.length a A/\EJ gs.length a<EJ gs.length f/\CM (B8 l) g (MO gs.length a) A/\(∀j∈t.take k,MO gs.length a (g j))/\(∀j,a j= -1↔f j= -1\/j=x)/\(∀j,MO gs.length f j->MO gs.length a j/\A j=T j))
  case atStart=>
   have ag:∀j,upd f x (-1) j= -1↔f j= -1\/j=x:=fun j=>by
    unfold upd
    by_cases e:j=x
    ·simp[e]
    ·simp[e]
   have O:∀j,MO gs.length (upd f x (-1)) j↔MO gs.length f j:=fun j=>by
    unfold MO upd
    by_cases e:j=x
    ·subst e;simp[D.o]
    ·simp[e]
   refine⟨0,upd f x (-1),T,by simp[H8],by simp[AJ],Yg,Qm _,Yo,?_,(Ad.refl _ w1).setCell (p:=⟨cb,x*6+5,none⟩) (fun _=>(rfl:some cb=some cb)) _,?_,(LY f x Yo gs.length).2 z D.o,a8.o.congr O (fun _ _=>rfl),Ys,ag,fun j b=>⟨(O j).2 b,rfl⟩⟩
   ·have U:F6 w1 y (slice (some ⟨cb,0,none⟩) (sz gs f).length s) (sz gs f):=by rw[Dm];exact ak.o
    have:=U.put (KB (f:=f) al.o) (f:=fun c=>{c with size:= -1}) (j:=5) (u:=int i64 (-1)) Yo rfl;rw[VI,Dm]at this;exact this
   ·intro j b;unfold upd
    by_cases e:j=x
    ·simp[e]
    ·simp only[QP e];exact ba.o j b
  case round=>
   obtain⟨k,a,A,rfl,rfl,rfl,ad,dm,Q,az,bo,bq,bs,ae,ag,bw⟩:=hrel;have dq:=az.size;have bi:wr.cell? ⟨y,0,none⟩=some (slice (some ⟨cb,0,none⟩) gs.length s):=Aa Q.box 0 _ rfl
   have dk:∀j,wr.frozen? ⟨cb,j,none⟩=false:=by
    obtain⟨dc,db,e,_,_,_,cx⟩:=Q.shape (by rw[Dm];omega);simp at e;obtain⟨rfl,_⟩:=e;exact cx
   obtain⟨b3,b4,b5⟩:=bd.o a wr Q x d al.o;have c5:H8 A g (t.take k)<=31*4000:=Qq (Xe _ _ _) Yp;obtain⟨S,aw⟩:=Ex (H8 A g (t.take k));rw[<-aw]at c5⊢;have V:=Yh aw;have a7:=Yh Q;have ap:=Yh az;have bb:=Yh bo;have am:=Yh bq;have be:=Yh bs;have an:=Yh ae;have W:=Yh ag;have P:=Yh bw;clear aw Q az bo bq bs ae ag bw c8 c9 aj
   by_cases bu:k<d.sym.args
   ·obtain⟨L,a0⟩:∃n,n=AJ l (x+1) k:=⟨_,rfl⟩;have a1:=ce.o k bu;have af:=cd.o k bu;rw[<-a0]at a1 af⊢;obtain⟨cn,ax⟩:∃c,gs[L]?=some c:=⟨_,Qb a1⟩;have H:=(E.o.all L cn ax).2;have cg:YH (L∈(B8 l).kids (g i)):=by show _∈_;rw[<-F.o,ao.o];exact Qh af
    have b8:=Yh (cc.o (EJ gs.length a) (by have:=cf.o;have:=am.o;omega) wr y (slice (some ⟨cb,0,none⟩) gs.length s) gs l g b2 a A L a7.o E.o Y.o cl.o bb.o (Qe _) a1 hl be.o);have ch:=Yh a0;have ci:=Yh af;have ca:=Yh ax;have b9:=Yh H;clear a0 af ax H;go_wp2_with fail;apply b8.o.mono;rintro e w2 ⟨aq,B,G,⟨bh,rfl,C,ar,Z,aa,ab,I⟩|⟨rfl,C⟩⟩
    ·obtain⟨_,b6,_⟩:=bd.o aq w2 B L cn ca.o;rw[b9.o]at b6;have bi:w2.cell? ⟨y,0,none⟩=some (slice (some ⟨cb,0,none⟩) gs.length s):=Aa B.box 0 _ rfl;obtain⟨M,N⟩:=Ex (min 31 (bh (g L)).length);rw[<-N];have de:M<=31:=by rw[N];omega
     have df:¬((M:Int)= -1):=Yo
     obtain⟨bn,H⟩:∃q,q=A6 l L:=⟨_,rfl⟩;rw[<-H]at b6;have J:=Yh (And.intro B (And.intro G (And.intro C (And.intro ar (And.intro Z (And.intro aa (And.intro ab (And.intro I (And.intro N H)))))))));clear B G C ar Z aa ab I b3 b4 b5 N H;go_wp2
     go_roundg (d.sym.args-k)
     case measure=>omega
     case rel=>
      obtain⟨B,G,C,ar,Z,aa,ab,I,N,H⟩:=J.o;have b0:=Gp ci.o;refine⟨k+1,aq,bh,?_,?_,Yg,Yo,Yo,B,ap.o.trans G,C,by have:=am.o;omega,Z,?_,fun j=>(ab j).trans (W.o j),fun j b=>⟨(I j (P.o j b).1).1,(I j (P.o j b).1).2.trans (P.o j b).2⟩⟩
      ·rw[b0,Uk,Su (fun j b=>(I _ (an.o j b)).2),<-V.o,<-N]
       congr 1
       omega
      ·rw[BT,<-ch.o,<-H]
      ·intro j b;rw[b0]at b;rcases Qk.1 b with b|b
       ·exact(I _ (an.o j b)).1
       ·simp at b;subst b;exact aa
    ·have J:=Yh (And.intro B (And.intro G C));clear B G C b3 b4 b5;go_wp2;go_ret;obtain⟨B,G,C⟩:=J.o;have c4:FK (B8 l) g (fun r=>f r= -1) i:=FK.up (Tz Y.o) (by show _<l.length;rw[<-E.o.len];exact hi) (by rw[<-F.o];show _<l.length;rw[<-E.o.len];exact z) cg.o (fun val c6 K=>by
      obtain⟨r,c3,c0⟩:=C val c6 K;exact⟨r,by rw[<-F.o];exact(W.o r).1 c3,c0⟩)
     exact⟨aq,B,ap.o.trans G,QO ⟨rfl,c4⟩⟩
   ·have cw:k=d.sym.args:=Yo
    subst cw;have c2:YH (¬MO gs.length a x):=fun hd=>by
     have:=(W.o x).2 (QO rfl);have:=hd.2;omega
    have ae:YH (∀j∈t,MO gs.length a (g j)):=by
     have:=an.o;rw[<-a9.o,QT]at this;exact this
    have V:YH (S=H8 A g t):=by
     have:=V.o;rw[<-a9.o,QT]at this;exact this
    have bc:YH (∀(w3:World)(n:Nat),n=min 31 (1+S)->w3=wr.setCell ⟨cb,x*6+5,none⟩ (int i64 n)->TM y (slice (some ⟨cb,0,none⟩) gs.length s) gs l g f T i w1 (returned (int i64 n)) w3):=fun w3 n hn c7=>by
     subst c7;have bm:=be.o.more (r:=x) (by show _<l.length;rw[<-E.o.len];exact z) ck.o c2.o (by rw[ao.o];exact ae.o);rw[ao.o]at bm;have bp:n=min 31 ((B8 l).hd x::(t.map (fun k=>A (g k))).flatten).length:=by
      rw[hn,V.o,Wg,Qf,Nat.add_comm]
     have c1:(n:Int)≠0:=Yo
     have O:∀j,MO gs.length (upd a x n) j↔MO gs.length a j\/j=x:=fun j=>by
      unfold MO upd
      by_cases e:j=x
      ·subst e;simp only[Ja,or_true,iff_true];exact⟨z,Yo⟩
      ·simp[e]
     refine⟨upd a x n,?_,ap.o.trans ((Ad.refl _ wr).setCell (p:=⟨cb,x*6+5,none⟩) (fun _=>(rfl:some cb=some cb)) _),QG ⟨_,?_,?_,Qq (LY a x c1 gs.length).1 (JW am.o),bm.congr O (fun _ _=>rfl),by rw[<-F.o];exact(O x).2 (QO rfl),?_,?_⟩⟩
     ·have U:F6 wr y (slice (some ⟨cb,0,none⟩) (sz gs a).length s) (sz gs a):=by rw[Dm];exact a7.o
      have:=U.put (KB (f:=a) al.o) (f:=fun c=>{c with size:=n}) (j:=5) (u:=int i64 n) Yo rfl;rw[VI,Dm]at this;exact this
     ·rw[<-F.o];simp only[Ja];rw[<-bp]
     ·intro j b;unfold upd
      by_cases e:j=x
      ·subst e;simp only[Ja];exact QO (QO ⟨Yo,by rw[<-bp]⟩)
      ·simp only[QP e];exact bb.o j b
     ·intro j;unfold upd
      by_cases e:j=x
      ·subst e;simp only[Ja];rw[D.o];constructor<;>intro h<;>omega
      ·simp only[QP e];rw[W.o];simp[e]
     ·intro j b;refine⟨(O j).2 (QG (P.o j b).1),?_⟩;have cz:j≠x:=fun e=>by
       subst e;have:=b.2;rw[D.o]at this;omega
      rw[QP cz];exact(P.o j b).2
    obtain⟨dr,bx⟩:∃q,q=AJ l (x+1) d.sym.args:=⟨_,rfl⟩;rw[<-bx];clear bx
    by_cases dd:1+S<=30
    ·have cs:¬((30:Int)<((1+S:Nat):Int)):=Yo
     go_wp2;go_ret;exact bc.o _ (1+S) Yo rfl
    ·have cs:(30:Int)<((1+S:Nat):Int):=Yo
     go_wp2;go_ret;exact bc.o _ 31 Yo rfl
 ·go_enter func159,ntmps159;rw[h0]at aj;have D:=Yh h0;clear h0;go_wp2_with fail;apply X.o.mono;rintro e w1 ⟨rfl,rfl⟩;go_wp2;go_ret;exact⟨f,ak.o,Ad.refl _ _,QO ⟨rfl,FK.here (by show _<l.length;rw[<-E.o.len];exact hi) (by rw[<-F.o];exact D.o)⟩⟩
 ·obtain⟨q,a2⟩:=Ex (f x);rw[<-a2]at aj;have dp:q≠0:=Yo
  have cj:=Yh a2;have b7:=Yh bj;have D:=Yh h0;clear a2 h0 bj;go_enter func159,ntmps159;go_wp2_with fail;apply X.o.mono;rintro e w1 ⟨rfl,rfl⟩;go_wp2;go_ret;refine⟨f,ak.o,Ad.refl _ _,QG ⟨T,?_,ba.o,Qe _,a8.o,by rw[<-F.o];exact⟨z,D.o⟩,fun _=>Iff.rfl,fun j b=>⟨b,rfl⟩⟩⟩;show Ending.returned (int i64 q)=_;rw[cj.o,b7.o,F.o]
theorem Vv(m:Nat):LE m:=by
 induction m using Nat.strongRecOn with
 |_ m a=>exact UW m a
def IF(w:World)(size:Nat)(xv:Value)(m:Nat)(news:Lv):Prop:=
 news.length=m*size/\(∀u∈news,u.oneCell'=true)/\((m=0/\xv= .slice none 0 0)\/∃a c,xv= .slice (some a) m c/\∀j u,news[j]?=some u->w.cell? (a.add j)=some u)
theorem P0(w:World)(t ty:TypeId)(base:Nat)(e:TypeId){q:Value}{size d:Nat}
  (K:(P.info? e).map (fun i=>(i.zero,i.size,i.bytes))=some (some q,size,d)) (p:P.underlying t=some (.slice e)) (R:q.cells.size=size) (O:0<size)
  (v:Value) (n:Nat) (xs:Lv) (f:w.ownsRow base e size v n xs) (B:Value) (m:Nat) (b:Lv) (Q:IF w size B m b)
  (z:(n+m)*(d+1)<=140737488355328) (G:base<=w.heap.size):
  ∃j w',(Builtin.append_ #[t,t] ty #[v,B]).run P w= .ok j w'/\Ar w base e size v (n+m) (xs++b) j w':=by
 obtain⟨i,hi,hz,o,A⟩:=info_parts K;have S:n+m<=140737488355328:=Qq (Nat.le_mul_of_pos_right (n+m) (Nat.succ_pos d)) z;have y:(n+m)*d<=140737488355328:=Qq (Nat.mul_le_mul_left _ (Nat.le_succ _)) z;have x:n+m<=maxLen:=by simp only[maxLen];omega
 obtain⟨hl,r,⟨rfl,rfl⟩|⟨a,c,rfl,s⟩⟩:=Q
 ·have hn:b=[]:=QS (by simpa using hl);subst hn;exact⟨v,w,run_append_owned_none w base t ty e i size p hi v n xs f,by simpa using f,Ad.refl _ _,QG rfl⟩
 ·obtain⟨j,w',l,D,E,F⟩:=run_append_own (P:=P) w base t ty e i q size d p hi hz o A R O v n xs f a m c b hl s r x y G;refine⟨j,w',l,D,Ad.of_grown E|>.mono (fun k _ h=>h),?_⟩;rcases Nat.eq_zero_or_pos m with rfl|L
  ·rcases f.2 with⟨rfl,rfl⟩|⟨g,C,u,rfl,T,J,M,U,H,V⟩
   ·have:=F.2 ⟨rfl,rfl⟩;rw[this];exact QG rfl
   ·have I:n*i.size+b.length<=u.size:=by rw[hl,H,o];simp;exact Nat.mul_le_mul_right _ M
    have N:=run_append_room (P:=P) w t ty e i p hi g n C u J a 0 c b (by rw[o];exact hl) s r Yo I;rw[N]at l;injection l with h2 h3;subst h2;exact QG rfl
  ·subst o A;rcases Gl (P:=P) w base t ty e i q p hi hz v n xs f a m c b hl L s r x y j w' l with h|h
   ·exact .inl h
   ·exact .inr ⟨_,h,Qe _⟩
theorem Tv{o:Oper}{a:Act}{f:Act->World->Prop}{k:Exit->Act->World->Prop}(w:World)(s x:Operand)(t:TypeId)
  (u:o.op= .call {callee:= .builtin .append,args:=#[s,x],argTypes:=#[t,t]})
  (base:Nat) (e:TypeId) {j:Value} {size g:Nat}
  (r:(P.info? e).map (fun i=>(i.zero,i.size,i.bytes))=some (some j,size,g)) (D:P.underlying t=some (.slice e)) (F:j.cells.size=size) (C:0<size)
  (v:Value) (n:Nat) (xs:Lv) (B:a.eval s=v) (y:w.ownsRow base e size v n xs) (d:Value) (m:Nat) (c:Lv) (E:a.eval x=d) (z:IF w size d m c)
  (q:(n+m)*(g+1)<=140737488355328) (p:base<=w.heap.size)
  (h:∀b w',Ar w base e size v (n+m) (xs++c) b w'->f (a.put o.dst b) w'):o.wp P a w f k:=by
 obtain⟨b,w',A,l⟩:=P0 (P:=P) w t o.type base e r D F C v n xs y d m c z q p;unfold Oper.wp;simp[execOp,u,resolve,invoke,builtin,B,E,A,Result.andThen];exact h b w' l
theorem BU{ops:Array Oper}{rest:List Oper}{o:Oper}{a:Act}{f:Exit->Act->World->Prop}(w:World)(r:o.guard=none)(s x:Operand)(t:TypeId)
  (y:o.op= .call {callee:= .builtin .append,args:=#[s,x],argTypes:=#[t,t]})
  (base:Nat) (e:TypeId) {j:Value} {size g:Nat}
  (u:(P.info? e).map (fun i=>(i.zero,i.size,i.bytes))=some (some j,size,g)) (D:P.underlying t=some (.slice e)) (F:j.cells.size=size) (C:0<size)
  (v:Value) (n:Nat) (xs:Lv) (B:a.eval s=v) (z:w.ownsRow base e size v n xs) (d:Value) (m:Nat) (c:Lv) (E:a.eval x=d) (A:IF w size d m c)
  (q:(n+m)*(g+1)<=140737488355328) (p:base<=w.heap.size)
  (h:∀b w',Ar w base e size v (n+m) (xs++c) b w'->wpList P ops f rest (a.put o.dst b) w'):wpList P ops f (o::rest) a w:=
 wpList_plain r fun _ l=>Tv w s x t y base e u D F C v n xs B z d m c E A q p fun b w' k=>l _ _ (h b w' k)
theorem Gq{n:Nat}(h:w.ownsRow B e size v n xs)(b:∀u∈xs,u.oneCell'=true):IF w size v n xs:=by
 refine⟨h.1,b,?_⟩;rcases h.2 with⟨rfl,rfl⟩|⟨g,a,d,rfl,_⟩
 ·exact QG ⟨rfl,rfl⟩
 ·exact QO ⟨⟨g,0,none⟩,a,rfl,fun j u c=>h.cells (g:=g) rfl j u c⟩
theorem C9(a b:Ly):Aq (a++b)=Aq a++Aq b:=by simp[Aq]
theorem MR(l:Ly):∀u∈Aq l,u.oneCell'=true:=by
 intro u b;simp only[Aq,List.mem_flatMap,Bw]at b;obtain⟨s,_,a⟩:=b;simp at a;rcases a with rfl|rfl|rfl<;>rfl
def GP(t:Ly)(w:World)(e:Ending)(w':World):Prop:=∃v B,e= .returned v/\w.heap.size<=B/\w'.ownsRow B 133 3 v t.length (Aq t)/\Ao w w'
def K4(m:Nat):Prop:=∀(w:World)(gb:Nat)(v:Value)(gs:List GC)(l:Ly)(ρ rk:Nat->Nat)(D:Np)(T:Nat->Ly)(i:Nat),F6 w gb v gs->DV gs l->Wf 2 l->Fe (gs.map GC.up) ρ rk->CM (B8 l) ρ D T->D (ρ i)->i<gs.length->gs.length<=4000->(T (ρ i)).length<=m->(T (ρ i)).length<=4000->
 Calls prog 192 #[.pointer (some ⟨gb,0,none⟩),.int .i64 i] w (GP (T (ρ i)) w)
theorem Ub(m:Nat)(aq:∀k,k<m->K4 k):K4 m:=by
 intro w s v gs l b a2 D T i h t E R K G hi hl ad P;have az:=R.rt;have F:=az.lt i (by simpa using hi);rw[Ql]at F;obtain⟨x,S⟩:=Ex (b i);rw[<-S]at F G ad P⊢;obtain⟨cb,r,rfl,cj,ci,ct,cl⟩:=h.shape Yo;obtain⟨a,O⟩:∃c,gs[x]?=some c:=⟨_,Qb F⟩;obtain⟨C,bx⟩:=t.all x a O;have ap:=Yh (Fo w s (slice (some ⟨cb,0,none⟩) gs.length r) gs b a2 i h R hi hl);rw[<-S]at ap;have W:w.cell? ⟨s,0,none⟩=some (slice (some ⟨cb,0,none⟩) gs.length r):=Aa h.box 0 _ rfl;have cm:=Ac h.box;obtain⟨b5,b6,b7,_,_,_⟩:=h.cell O;have cg:a.sym.args<=4000:=by
  have:=OO E (i:=x) (by rw[<-t.len];exact F);rw[<-C,<-t.len]at this;omega
 obtain⟨d,M⟩:∃bt,bt=AW l (x+1) a.sym.args:=⟨_,rfl⟩;have a7:YH (d.length=a.sym.args):=by show _=_;rw[M,Dp]
 have ac:(B8 l).kids x=d:=by show AW l (x+1) (AB l x).args=d;rw[M,<-C]
 have bg:YH (∀k,k<a.sym.args->d[k]?=some (AJ l (x+1) k)):=fun k p=>by rw[M];exact BN l (x+1) _ k p
 have bh:YH (∀k,k<a.sym.args->AJ l (x+1) k<gs.length):=fun k p=>by
  have a1:x<l.length:=by rw[<-t.len];exact F
  obtain⟨_,bw,_⟩:=Fm E a1;obtain⟨_,_,_,_,_,ch,_⟩:=DR E a1;have:=bw _ (Qh (by rw[<-C];exact BN l (x+1) _ k p));have:=t.len;omega
 have Z:T x=a.sym::((d.map (fun k=>T (b k))).flatten):=by
  have:=K.tm x G;rw[ac]at this;rw[this,C];rfl
 have bq:YH (∀k n,d[k]?=some n->D (b n)/\1+(((d.take k).map (fun k=>T (b k))).flatten).length+(T (b n)).length<=(T x).length):=fun k n hn=>by
  refine⟨K.kid x G n (by rw[ac];exact Qh hn),?_⟩;obtain⟨cs,b1⟩:=Qa.1 hn;have e:d=d.take k++n::d.drop (k+1):=by
   rw[<-b1,List.getElem_cons_drop,JT]
  rw[Z]
  conv=>rhs;rw[e]
  simp only[Qr,Qx,JB,Q4,Qf,Qg];omega
 have a9:=Yh Z;have ai:=Yh h;have br:=Yh R;have ao:=Yh t;have bs:=Yh E;have bi:=Yh ad;have a6:=Yh K;have bf:=Yh aq;have cc:=Yh S;have ca:=Yh O;have bj:=Yh P;clear Z h R t E ad K aq S O az bx ac M C G P;go_enter func192,ntmps192;go_wp2_with fail;apply ap.o.mono;rintro e w1 ⟨rfl,rfl⟩;have bk:YH (World.ownsRow (w1.alloc (.cells #[string ⟨a.sym.name.toArray⟩,int i64 a.sym.num,int i64 a.sym.args] 133)) (w1.heap.size+1) 133 3 Nl 0 []):=Q2 _ _ _ _
 go_wp2_with (at_builtin;refine Al (w1.alloc (.cells #[string ⟨a.sym.name.toArray⟩,int i64 a.sym.num,int i64 a.sym.args] 133)) rfl (.tmp 22) (.tmp 24) 105 rfl (w1.heap.size+1) 133 infoSym underlying105 rfl Yd Nl 0 [] rfl bk.o #[string ⟨a.sym.name.toArray⟩,int i64 a.sym.num,int i64 a.sym.args] (N:=w1.heap.size+1) rfl Ys rfl (Fq _ _ _) ?_ ?_ ?_)
 ·omega
 ·simp
 intro b4 w2 g;have ay:w2.ownsRow (w1.heap.size+1) 133 3 b4 1 (Aq [a.sym]):=by simpa[Aq,Bw]using g.owns
 have au:Below (w1.heap.size+1) (w1.alloc (.cells #[string ⟨a.sym.name.toArray⟩,int i64 a.sym.num,int i64 a.sym.args] 133)) w2:=g.kept.below Ys (fun k p=>by simp[Ak,Value.ownBlock]at p);have bp:=Yh ay;have ba:=Yh au;clear g ay au;go_wp2
 go_loopg [7,8,9] (a.sym.args+1) (fun gk tv av nv wr=>∃(k:Nat),av=int i64 (AJ l (x+1) k:Nat)/\nv=int i64 k/\k<=a.sym.args/\a.sym.args-k<gk/\Below (w1.heap.size+1) (w1.alloc (.cells #[string ⟨a.sym.name.toArray⟩,int i64 a.sym.num,int i64 a.sym.args] 133)) wr/\
   wr.ownsRow (w1.heap.size+1) 133 3 tv (1+(((d.take k).map (fun k=>T (b k))).flatten).length) (Aq (a.sym::((d.take k).map (fun k=>T (b k))).flatten)))
 case atStart=>exact⟨0,by simp[AJ],Yg,Qm _,Yo,ba.o,by simpa using bp.o⟩
 case round=>
  obtain⟨k,rfl,rfl,p,cr,z,ag⟩:=hrel;obtain⟨ta,a3,rfl⟩:=Ab ag;have a0:=z.size;have a0:w1.heap.size+1<=wr.heap.size:=by simpa using a0
  have X:Ao w1 wr:=by
   have h0:Ao w1 (w1.alloc (.cells #[string ⟨a.sym.name.toArray⟩,int i64 a.sym.num,int i64 a.sym.args] 133)):=Mxt;exact h0.trans (z.mono Yo)
  have H:=ai.o.ext X;have W:wr.cell? ⟨s,0,none⟩=some (slice (some ⟨cb,0,none⟩) gs.length r):=Aa H.box 0 _ rfl;have co:=Ac H.box;have ck:cb<wr.heap.size:=Yo
  have aa:wr.heap[w1.heap.size]?=some (.cells #[string ⟨a.sym.name.toArray⟩,int i64 a.sym.num,int i64 a.sym.args] 133 (0,0)):=(z.block _ Yo).trans (QL w1 _);have cz:wr.cell? ⟨w1.heap.size,2,none⟩=some (int i64 a.sym.args):=Aa aa 2 _ rfl;have cv:=Ac aa;have bd:=Yh z;have U:=Yh ag;have al:=Yh H;have aj:=Yh X;clear z ag H X aa b5 b6 b7
  by_cases aw:k<a.sym.args
  ·obtain⟨f,ae⟩:∃n,n=AJ l (x+1) k:=⟨_,rfl⟩;have af:=bh.o k aw;have Q:=bg.o k aw;rw[<-ae]at af Q⊢;obtain⟨cn,ab⟩:∃c,gs[f]?=some c:=⟨_,Qb af⟩;have u:=(ao.o.all f cn ab).2;obtain⟨ar,b2⟩:=bq.o k f Q;have P:=bj.o;have a5:=Yh (bf.o (T (b f)).length (by have:=bi.o;omega) wr s (slice (some ⟨cb,0,none⟩) gs.length r) gs l b a2 D T f al.o ao.o bs.o br.o a6.o ar af hl (Qe _) Yo);have bl:=Yh ae;have bm:=Yh Q;have bb:=Yh u;have be:=Yh ab;obtain⟨L,Y⟩:=Ex ((((d.take k).map (fun k=>T (b k))).flatten));rw[<-Y]at b2⊢;have am:=Yh Y;clear ae Q u ab Y ar;go_wp2_with fail;apply a5.o.mono;rintro e w3 ⟨cx,b8,rfl,cf,ah,y⟩;obtain⟨bu,bv,rfl⟩:=Ab ah;have cu:=y.size;have I:=al.o.ext y;have W:w3.cell? ⟨s,0,none⟩=some (slice (some ⟨cb,0,none⟩) gs.length r):=Aa I.box 0 _ rfl;have cp:=Ac I.box;have a8:YH (IF w3 3 (slice bu (T (b f)).length bv) (T (b f)).length (Aq (T (b f)))):=Gq ah (MR _);have V:YH (w3.ownsRow (w1.heap.size+1) 133 3 (slice ta (1+L.length) a3) (1+L.length) (Aq (a.sym::L))):=by
    have:=Aj U.o (fun j A=>y.block j (U.o.lt j A).2);rw[<-am.o]at this;exact this
   have ak:=Yh y;have b9:=Yh I;clear ah y I
   go_wp2_with (at_builtin;refine BU _ rfl (.tmp 46) (.tmp 47) 105 rfl (w1.heap.size+1) 133 infoSym underlying105 rfl Yd _ (1+L.length) (Aq (a.sym::L)) rfl V.o _ (T (b f)).length (Aq (T (b f))) rfl a8.o ?_ ?_ ?_)
   ·omega
   ·omega
   intro cy w4 g;obtain⟨cd,ce,rfl⟩:=Ab g.owns;have J:F6 w4 s (slice (some ⟨cb,0,none⟩) gs.length r) gs:=by
    have p:=g.kept.below (B:=w1.heap.size+1) Yo (fun j A=>(V.o.lt j A).1);have bz:Ao w1 w4:=aj.o.trans ((ak.o.mono Yo).trans (p.mono Yo));exact ai.o.ext bz
   obtain⟨_,_,_,a4,_,_⟩:=J.cell be.o;rw[bb.o]at a4;have W:w4.cell? ⟨s,0,none⟩=some (slice (some ⟨cb,0,none⟩) gs.length r):=Aa J.box 0 _ rfl;have cq:=Ac J.box;obtain⟨bn,u⟩:∃q,q=A6 l f:=⟨_,rfl⟩;rw[<-u]at a4;have bc:=Yh u;have an:=Yh g;clear g J u;go_wp2
   go_roundg (a.sym.args-k)
   case measure=>omega
   case rel=>
    have b3:=Gp bm.o;refine⟨k+1,by rw[BT,<-bl.o,<-bc.o],Yg,Yo,Yo,?_,?_⟩
    ·exact bd.o.trans ((ak.o.mono Yo).trans (an.o.kept.below (B:=w1.heap.size+1) Yo (fun j A=>(V.o.lt j A).1)))
    ·have:=an.o.owns;rw[b3,Qr,JB,<-am.o];simp only[Qx,QX,Q4,QY,Qs,Qg];rw[<-C9,Qy]at this;rw[<-Nat.add_assoc];exact this
  ·have b0:k=a.sym.args:=Yo
   subst b0;obtain⟨cw,ax⟩:∃q,q=AJ l (x+1) a.sym.args:=⟨_,rfl⟩;rw[<-ax];clear ax;have bo:YH (GP (T x) w1 (returned (slice ta (1+(((d.take a.sym.args).map (fun k=>T (b k))).flatten).length) a3)) wr):=by
    refine⟨_,w1.heap.size+1,rfl,Yo,?_,aj.o⟩;have:=U.o;rw[<-a7.o,QT]at this⊢;rw[a9.o,Qf,Nat.add_comm (((d.map (fun k=>T (b k))).flatten).length) 1];exact this
   go_wp2;go_ret;exact bo.o
theorem Vz(m:Nat):K4 m:=by
 induction m using Nat.strongRecOn with
 |_ m a=>exact Ub m a
theorem X0{j:Nat}:∀m,p<=j->j<AJ l p m->∃k,k<m/\AJ l p k<=j/\j<A6 l (AJ l p k):=by
 intro m
 induction m with
 |zero=>intro b a;simp only[AJ]at a;omega
 |succ m e=>
  intro b a
  by_cases h:j<AJ l p m
  ·obtain⟨k,f,c,d⟩:=e b h;exact⟨k,Yo,c,d⟩
  ·rw[BT]at a;exact⟨m,Yo,Yo,a⟩
theorem QM(d:Wf 2 l){a:Nat->Nat}(w:∀i,i<l.length->Cg (B8 l) a i){D:Np}{T:Nat->Ly}(v:CM (B8 l) a D T):
  ∀(n p:Nat),p<l.length->A6 l p-p<=n->D (a p)->∀j,p<=j->j<A6 l p->D (a j):=by
 intro n
 induction n with
 |zero=>intro p b hn _ j r f;omega
 |succ n B=>
  intro p b hn hd j r f
  by_cases e:j=p
  ·subst e;exact hd
  ·obtain⟨_,g,o⟩:=Fm d b;obtain⟨_,_,_,_,I,J,_⟩:=DR d b;rw[<-o]at f;obtain⟨k,y,s,t⟩:=X0 _ (by omega:p+1<=j) f;have c:AJ l (p+1) k∈(B8 l).kids p:=Qh (BN l (p+1) _ k y);have L:=g _ c;have A:((B8 l).hd p).name≠[]:=fun h=>by
    have:=(Tz d).vn p b h;rw[this]at c;simp at c
   obtain⟨_,u⟩:=w p b A;have x:D (a (AJ l (p+1) k)):=by
    have:a (AJ l (p+1) k)∈((B8 l).kids (a p)).map a:=by rw[u];exact Q0.2 ⟨_,c,rfl⟩
    obtain⟨E,z,e'⟩:=Q0.1 this;rw[<-e'];exact v.kid _ hd E z
   have K:A6 l (AJ l (p+1) k)<=A6 l p:=by
    have mono:∀m,k+1<=m->m<=(AB l p).args->A6 l (AJ l (p+1) k)<=AJ l (p+1) m:=by
     intro m
     induction m with
     |zero=>intro h;omega
     |succ m C=>
      intro F G
      by_cases q:m=k
      ·subst q;rw[BT];exact Qe _
      ·have:=C Yo Yo;rw[BT l (p+1) m];have M:=g _ (Qh (BN l (p+1) _ m Yo));obtain⟨_,_,_,_,H,_⟩:=DR d (i:=AJ l (p+1) m) Yo;omega
    rw[<-o];exact mono _ Yo (Qe _)
   exact B _ Yo Yo x j s t
theorem U0{a b:Ly}(ha:Wf 1 a)(hb:Wf 1 b){c:Nat->Nat}(e:∀i,i<(a++b).length->Cg (B8 (a++b)) c i){D:Np}{T:Nat->Ly}(d:CM (B8 (a++b)) c D T)(h0:D (c 0))(g:D (c a.length)):∀j,j<(a++b).length->D (c j):=by
 have f:Wf 2 (a++b):=EM ha hb;have n:=BR hb;have k:A6 (a++b) 0=a.length:=by unfold A6;simp[H5 b ha]
 have l:A6 (a++b) a.length=(a++b).length:=by
  have:=H5 [] hb;rw[Qs]at this;unfold A6;simp[this]
 intro j m;have hl:(a++b).length=a.length+b.length:=Ys
 by_cases h:j<a.length
 ·exact QM f e d _ 0 Yo (Qe _) h0 j Yo Yo
 ·exact QM f e d _ a.length Yo (Qe _) g j Yo Yo
theorem SM(l:Ly):DV (DG l (Cr l) 0) l:=by
 refine⟨by rw[ER,Bp],fun i c a=> ?_⟩;rw[EV]at a
 by_cases h:i<l.length
 ·rw[E6 h]at a;simp at a;subst a;exact⟨rfl,rfl⟩
 ·rw[QV (by rw[Bp];omega)]at a;simp at a
theorem Xm(g:Wf k l):Fe ((DG l (Cr l) 0).map GC.up) (A1 l) (fun j=>if A1 l j=j then 0 else 1):=by
 have d:=(H7 l g).rt;intro i c a;rw[Qj,EV]at a
 by_cases h:i<l.length
 ·rw[E6 h]at a;simp at a;subst a;have f:=d.lt i h;have b:=d.idem i h;refine⟨by simp[ER,Bp];exact f,b,fun e=>e,fun e=> ?_⟩;have e':A1 l i≠i:=e;show(if A1 l (A1 l i)=A1 l i then 0 else 1)<(if A1 l i=i then 0 else 1);rw[QQ b,QP e'];omega
 ·rw[QV (by rw[Bp];omega)]at a;simp at a
theorem XD(l:Ly):sz (DG l (Cr l) 0) (fun _=>0)=DG l (Cr l) 0:=by
 apply JR;intro i
 cases a:(DG l (Cr l) 0)[i]? with
 |none=>rw[QV (by rw[Dm];exact J8.1 a)]
 |some c=>
  rw[KB a];rw[EV]at a
  by_cases h:i<l.length
  ·rw[E6 h]at a;simp at a;subst a;rfl
  ·rw[QV (by rw[Bp];omega)]at a;simp at a
structure AK(w:World)(B:Nat)(v:Value)(ls:List (List BJ))(vs:List Value):Prop where
 owns:w.ownsRow B 105 1 v ls.length vs
 all:∀(i:Nat)(l:List BJ),ls[i]?=some l->∃x,vs[i]?=some x/\w.ownsRow 0 133 3 x l.length (Aq l)
theorem AK.nil(w:World)(B:Nat):AK w B Nl [] []:=⟨Q2 _ _ _ _,fun i l h=>by simp at h⟩
theorem AK.ext(h:AK w B v ls vs)(e:Ao w w'):AK w' B v ls vs:=
 ⟨Aj h.owns (fun k a=>e.block k (h.owns.lt k a).2),fun i l hl=>by
  obtain⟨x,c,b⟩:=h.all i l hl;exact⟨x,c,Aj b (fun k a=>e.block k (b.lt k a).2)⟩⟩
theorem AK.box{cs:Av}{fr:Nat×Nat}(h:AK w B v ls vs)(a:w.heap[M]?=some (.cells cs t fr))(c:105≠t)(d:133≠t)(b:Ad (fun k=>k=M) w w'):AK w' B v ls vs:=
 ⟨Bv h.owns a c b,fun i l hl=>by
  obtain⟨x,e,f⟩:=h.all i l hl;exact⟨x,e,Bv f a d b⟩⟩
theorem AK.snoc{c x:Value}(h:AK w B v ls vs)(ha:Ar w B 105 1 v (ls.length+1) (vs++[x]) c w')(n:w.ownsRow 0 133 3 x l.length (Aq l)):AK w' B c (ls++[l]) (vs++[x]):=by
 have keep:∀{y:Value}{t:Ly},w.ownsRow 0 133 3 y t.length (Aq t)->w'.ownsRow 0 133 3 y t.length (Aq t):=fun{y t} b=>ha.kept.owns b (fun k j m=>by
  obtain⟨o,g⟩:=Ay h.owns k m;exact Ai b Yd g j)
 have hl:vs.length=ls.length:=by have:=h.owns.1;omega
 refine⟨by simpa using ha.owns,fun i t a=> ?_⟩
 by_cases hi:i<ls.length
 ·rw[Qc hi]at a;obtain⟨y,d,f⟩:=h.all i t a;exact⟨y,by rw[Qc Yo];exact d,keep f⟩
 ·rw[Qd Yo]at a
  by_cases e:i=ls.length
  ·subst e;simp at a;subst a;exact⟨x,by rw[Qd Yo];simp[hl],keep n⟩
  ·rw[QV Yp]at a;simp at a
theorem AK.put{g:Nat}{x:Value}{n:Nat}(h:AK w B (slice (some ⟨g,0,none⟩) ls.length cap) ls vs)(hn:n<ls.length)(j:w.ownsRow 0 133 3 x l.length (Aq l)):
  AK (w.setCell ⟨g,n,none⟩ x) B (slice (some ⟨g,0,none⟩) ls.length cap) (ls.set n l) (vs.set n x):=by
 have hl:vs.length=ls.length:=by have:=h.owns.1;omega
 obtain⟨o,d⟩:=Ay h.owns g rfl;have f:Ad (fun k=>k=g) w (w.setCell ⟨g,n,none⟩ x):=(Ad.refl (only g) w).put n x;have keep:∀{y:Value}{t:Ly},w.ownsRow 0 133 3 y t.length (Aq t)->(w.setCell ⟨g,n,none⟩ x).ownsRow 0 133 3 y t.length (Aq t):=fun{y t} m=>Bv m d Yd f;refine⟨by rw[List.length_set];exact PG h.owns n x,fun i t a=> ?_⟩;rw[List.getElem?_set]at a⊢
 by_cases e:n=i
 ·subst e;rw[QQ rfl,QQ hn]at a;simp at a;subst a;exact⟨x,by rw[QQ rfl,QQ Yo],keep j⟩
 ·rw[QP e]at a;obtain⟨y,b,c⟩:=h.all i t a;exact⟨y,by rw[QP e];exact b,keep c⟩
structure Ew(l:List BJ)(ρ:Nat->Nat)(T:Nat->List BJ)(k:Nat)(ts:List (List BJ)):Prop where
 has:∀i,i<k->(AB l i).name=[]->ts[(AB l i).num]?=some (T (ρ i))
 only:∀n t,ts[n]?=some t->t=[]\/∃i,i<k/\(AB l i).name=[]/\(AB l i).num=n/\t=T (ρ i)
theorem Ew.nil(l:Ly)(a:Nat->Nat)(T:Nat->Ly):Ew l a T 0 []:=⟨fun i h=>by omega,fun n t h=>by simp at h⟩
theorem Ew.pad{T:Nat->Ly}(h:Ew l ρ T k ts):Ew l ρ T k (ts++[[]]):=by
 refine⟨fun i hi hn=> ?_,fun n t a=> ?_⟩
 ·have:=h.has i hi hn;rw[Qc ((Qa.1 this).1)];exact this
 ·by_cases hl:n<ts.length
  ·rw[Qc hl]at a;exact h.only n t a
  ·rw[Qd Yo]at a;left;have:=Qh a;simpa using this
theorem Ew.skip{T:Nat->Ly}(h:Ew l ρ T k ts)(hn:(AB l k).name≠[]):Ew l ρ T (k+1) ts:=by
 refine⟨fun i hi b=> ?_,fun n t d=> ?_⟩
 ·by_cases e:i=k
  ·subst e;exact absurd b hn
  ·exact h.has i Yo b
 ·rcases h.only n t d with a|⟨i,a,c⟩
  ·exact QG a
  ·exact QO ⟨i,Yo,c⟩
theorem Ew.old{T:Nat->Ly}{t:Ly}(h:Ew l ρ T k ts)(p:OI (B8 l) ρ)(m:k<l.length)(hn:(AB l k).name=[])(b:ts[(AB l k).num]?=some t)(o:t≠[]):Ew l ρ T (k+1) ts:=by
 refine⟨fun i hi g=> ?_,fun n t b=> ?_⟩
 ·by_cases e:i=k
  ·subst e;rcases h.only _ t b with a|⟨j,a,c,d,f⟩
   ·exact absurd a o
   ·have:ρ j=ρ i:=p j i (by show _<l.length;omega) m c hn d;rw[b,f,this]
  ·exact h.has i Yo g
 ·rcases h.only n t b with a|⟨i,a,c⟩
  ·exact QG a
  ·exact QO ⟨i,Yo,c⟩
theorem Ew.new{T:Nat->Ly}(h:Ew l ρ T k ts)(j:∀i,i<k->(AB l i).name=[]->T (ρ i)≠[])(hn:(AB l k).name=[])(d:ts[(AB l k).num]?=some []):Ew l ρ T (k+1) (ts.set (AB l k).num (T (ρ k))):=by
 have hl:=(Qa.1 d).1;refine⟨fun i hi c=> ?_,fun n t b=> ?_⟩
 ·rw[List.getElem?_set]
  by_cases e:i=k
  ·subst e;rw[QQ rfl,QQ hl]
  ·have a:=h.has i Yo c;rw[QP]
   ·exact a
   ·intro f;rw[<-f,d]at a;simp only[Qo]at a;exact j i Yo c a.symm
 ·rw[List.getElem?_set]at b
  by_cases e:(AB l k).num=n
  ·rw[QQ e,QQ hl]at b;simp only[Qo]at b;exact QO ⟨k,Yo,hn,e,b.symm⟩
  ·rw[QP e]at b;rcases h.only n t b with a|⟨i,a,g⟩
   ·exact QG a
   ·exact QO ⟨i,Yo,g⟩
def G8(w:World)(l:Ly)(ρ:Nat->Nat)(T:Nat->Ly)(k:Nat)(tv:Value)(ts:Ll)(vs:Lv)(wr:World):Prop:=
 wr.heap[w.heap.size+1]?=some (.cells #[tv] 216 (0,0))/\AK wr w.heap.size tv ts vs/\Ew l ρ T k ts/\Ao w wr/\wr.heap[w.heap.size]?=some (.cells #[.slice none 0 0] 216 (0,0))/\ts.length<=200001
theorem G8.ext{T:Nat->Ly}{tv:Value}(h:G8 w l ρ T k tv ts vs wr)(e:Ao wr w1):G8 w l ρ T k tv ts vs w1:=by
 obtain⟨a,d,f,b,c,g⟩:=h;exact⟨(e.block _ (Ac a)).trans a,d.ext e,f,b.trans (e.mono b.size),(e.block _ (Ac c)).trans c,g⟩
theorem G8.to{T:Nat->Ly}{a:Nat}{tv:Value}(h:G8 w l ρ T k tv ts vs wr)(g:Ew l ρ T a ts):G8 w l ρ T a tv ts vs wr:=⟨h.1,h.2.1,g,h.2.2.2⟩
def XU(l:Ly)(ρ:Nat->Nat)(T:Nat->Ly)(w:World)(e:Ending)(w':World):Prop:=∃tv ts vs,e= .returned (.agg #[tv])/\AK w' w.heap.size tv ts vs/\Ew l ρ T l.length ts/\Ao w w'/\ts.length<=200001
def V8(w wr:World)(l:Ly)(ρ:Nat->Nat)(T:Nat->Ly)(k:Nat)(tv:Value)(ts:Ll):Lv->World->Prop
 |[],u=>u=wr.drew
 |[v],u=>GP (T (ρ k)) wr.drew (.returned v) u
 |[_,_],u=>∃vs',G8 w l ρ T (k+1) tv (ts.set (AB l k).num (T (ρ k))) vs' u
 |_,_=>False
theorem V8.ext{T:Nat->Ly}{tv:Value}:∀{vs:Lv}{u:World},V8 w wr l ρ T k tv ts vs u->vs.length<=1->Ao wr.drew u
 |[],u,h,_=>by obtain rfl:u=wr.drew:=h;exact Ao.of (Ad.refl _ _)
 |[v],u,h,_=>by obtain⟨_,_,_,_,_,h⟩:=h;exact h
 |_::_::_,_,_,h=>by simp at h
theorem Jw(w:World)(y:Nat)(v:Value)(gs:List GC)(l:Ly)(d a2:Nat->Nat)(D:Np)(T:Nat->Ly)(h:F6 w y v gs)(C:DV gs l)(ae:Wf 2 l)(X:Fe (gs.map GC.up) d a2)(f:CM (B8 l) d D T)(am:∀i,i<gs.length->D (d i))(ay:OI (B8 l) d)(hl:gs.length<=4000)(ap:∀i,i<gs.length->(AB l i).name=[]->(T (d i)).length<=4000)(hn:∀i,(AB l i).num<=200000):
  Calls prog 160 #[Pt y] w (XU l d T w):=by
 have bw:0<gs.length:=by have:=BR ae;have:=C.len;omega
 obtain⟨cb,R,rfl,cc,ca,cm,ce⟩:=h.shape bw;have Z:w.cell? ⟨y,0,none⟩=some (slice (some ⟨cb,0,none⟩) gs.length R):=Aa h.box 0 _ rfl;have cf:=Ac h.box;have ah:=Yh h;have I:=Yh C;have bh:=Yh ae;have bf:=Yh X;have aj:=Yh f;have ai:=Yh am;have bg:=Yh ay;have bb:=Yh ap;have bd:=Yh hn;clear h C ae X f am ay ap hn;go_enter func160,ntmps160;go_wp2
 go_loopg [12] (gs.length+1) (fun gk bz wr=>∃(k:Nat)(tv:Value)(ts:Ll)(vs:Lv),bz=int i64 k/\k<=gs.length/\gs.length-k<gk/\G8 w l d T k tv ts vs wr)
 case atStart=>exact⟨0,Nl,[],[],Yg,Qm _,Yo,by have:=QL (w.alloc (.cells #[Nl] 216)) (.cells #[Nl] 216);simpa using this,AK.nil _ _,Ew.nil _ _ _,Mxt,(Jd _ _ _ Ys).trans (QL w _),Ys⟩
 case round=>
  obtain⟨k,tv,ts,vs,rfl,bq,ch,a⟩:=hrel;have b:=Yh a;have E:=a.2.2.2.1;have ax:=E.size;have q:=ah.o.ext E;have au:=Ac q.box;have bo:cb<wr.heap.size:=Yo
  have ab:=Ac a.1;have Z:wr.cell? ⟨y,0,none⟩=some (slice (some ⟨cb,0,none⟩) gs.length R):=Aa q.box 0 _ rfl;have af:wr.cell? ⟨w.heap.size+1,0,none⟩=some tv:=Aa a.1 0 _ rfl;have b0:wr.cell? ⟨w.heap.size,0,none⟩=some Nl:=Aa a.2.2.2.2.1 0 _ rfl;have b1:=fun i=>Ag a.2.2.2.2.1 i;have ag:=fun i=>Ag a.1 i;have Q:=Yh q;clear a E q
  by_cases O:k<gs.length
  ·obtain⟨c,C⟩:∃c,gs[k]?=some c:=⟨_,Qb O⟩;obtain⟨aa,L,bi,bj,bk,bl⟩:=Q.o.cell C;obtain⟨ac,_⟩:=I.o.all k c C;have cd:c.sym.num<=200000:=by rw[ac];exact bd.o k
   have K:=Yh ac;clear C ac
   cases H:c.sym.name with
   |cons x xs=>
    have P:YH ((AB l k).name≠[]):=by show _≠_;rw[<-K.o,H];simp
    rw[H]at aa;clear H;go_wp2
    go_roundg (gs.length-k)
    case measure=>omega
    case rel=>
     exact⟨k+1,tv,ts,vs,Yg,Yo,Yo,G8.to (b.o.ext Mxt) (b.o.2.2.1.skip P.o)⟩
   |nil=>
    have P:YH ((AB l k).name=[]):=by show _=_;rw[<-K.o,H]
    rw[H]at aa;clear H;have cn:¬((c.sym.num:Int)<0):=Yo
    go_wp2;have ak:YH (∀o,G8 w l d T k tv ts vs (wr.alloc o)):=fun o=>b.o.ext Mxt;obtain⟨ct,bx⟩:∃x,x=wr:=⟨_,rfl⟩;subst bx;clear Z af b0 b1 ag aa L bi bj bk bl Q b au bo ab ax
    go_loopg [28] 200003 (fun gk nv wr=>∃(tv:Value)(ts:Ll)(vs:Lv),200002-ts.length<gk/\G8 w l d T k tv ts vs wr)
    case atStart=>exact⟨tv,ts,vs,Yo,ak.o _⟩
    case round=>
     clear ak;obtain⟨tv,ts,vs,ci,a⟩:=hrel;have b:=Yh a;have E:=a.2.2.2.1;have ax:=E.size;have q:=ah.o.ext E;have au:=Ac q.box;have ab:=Ac a.1;have cq:=a.2.2.2.2.2;obtain⟨ta,m,rfl⟩:=Ab a.2.1.owns;have Z:wr.cell? ⟨y,0,none⟩=some (slice (some ⟨cb,0,none⟩) gs.length R):=Aa q.box 0 _ rfl;have af:wr.cell? ⟨w.heap.size+1,0,none⟩=some (slice ta ts.length m):=Aa a.1 0 _ rfl;have ag:=fun i=>Ag a.1 i;have Q:=Yh q;clear a E q
     by_cases cl:ts.length<=c.sym.num
     ·have bs:((ts.length:Nat):Int)<=((c.sym.num:Nat):Int):=Yo
      have J:YH (wr.ownsRow w.heap.size 105 1 (slice ta ts.length m) ts.length vs):=b.o.2.1.owns
      go_wp2_with (at_builtin;go_loud (refine Al _ rfl (.tmp 34) (.tmp 35) 85 rfl w.heap.size 105 infoSyms underlying85 rfl Yd (slice ta ts.length m) ts.length vs rfl J.o _ rfl rfl rfl (Dw _ _ _) ?_ ?_ ?_))
      ·omega
      ·omega
      intro cs w1 z;obtain⟨Y,L,rfl⟩:=Ab z.owns;have ao:G8 w l d T k (slice Y (ts.length+1) L) (ts++[[]]) (vs++[Nl]) (w1.setCell ⟨w.heap.size+1,0,none⟩ (slice Y (ts.length+1) L)):=by
       obtain⟨r,s,F,G,n,S⟩:=b.o;have A:=(z.kept.block _ (Ac r) (Ai J.o Yd r)).trans r;have aq:=(z.kept.block _ (Ac n) (Ai J.o Yd n)).trans n;have f:Ad (fun j=>j=w.heap.size+1) w1 (w1.setCell ⟨w.heap.size+1,0,none⟩ (slice Y (ts.length+1) L)):=(Ad.refl (only (w.heap.size+1)) w1).put 0 _;have cp:=z.kept.size;refine⟨Ae A 0 _,(s.snoc z (Q2 _ _ _ _)).box A Yd Yd f,F.pad,(G.trans (z.kept.below Yo (fun j V=>(J.o.lt j V).1))).trans (f.below Yo (fun j V=>by omega)),(f.block _ (Ac aq) Yo).trans aq,by simp;omega⟩
      have A:=(z.kept.block _ (Ac b.o.1) (Ai J.o Yd b.o.1)).trans b.o.1;have af:w1.cell? ⟨w.heap.size+1,0,none⟩=some (slice ta ts.length m):=Aa A 0 _ rfl;have ag:=fun i=>Ag A i;have co:=Ac A;have a9:=Yh ao;clear z ao A;go_wp2
      go_roundg (200002-ts.length)
      case measure=>omega
      case rel=>exact⟨_,_,_,by simp;omega,a9.o⟩
     ·have bs:¬(((ts.length:Nat):Int)<=((c.sym.num:Nat):Int)):=Yo
      have W:c.sym.num<ts.length:=Yo
      obtain⟨t,ad⟩:∃t,ts[c.sym.num]?=some t:=⟨_,Qb W⟩;obtain⟨cu,a1,az⟩:=b.o.2.1.all _ t ad;obtain⟨a5,a6,rfl⟩:=Ab az;obtain⟨g,cr,b7,N,_,U,cg⟩:=An b.o.2.1.owns Yo;simp only[QH]at N;obtain⟨rfl,_,rfl⟩:=N;have b5:wr.cell? ⟨g,c.sym.num,none⟩=some (slice a5 t.length a6):=Af b.o.2.1.owns _ _ a1;have ar:=Ac U;have b8:=fun i=>Ag U i;have al:=Yh ad;have bc:=Yh U;have br:k<l.length:=by rw[<-I.o.len];exact O
      clear ad a1 az U
      cases t with
      |cons a0 t=>
       go_wp2
       go_roundg (gs.length-k)
       case measure=>omega
       case rel=>exact⟨k+1,_,ts,vs,Yg,Yo,Yo,b.o.to (b.o.2.2.1.old bg.o br P.o (by rw[<-K.o];exact al.o) Ys)⟩
      |nil=>
       have a7:=Yh (Vz _ wr.drew y (slice (some ⟨cb,0,none⟩) gs.length R) gs l d a2 D T k (Q.o.on (fun _ _=>rfl)) I.o bh.o bf.o aj.o (ai.o k O) O hl (Qe _) (bb.o k O P.o));have be:YH (∀i,i<l.length->T (d i)≠[]):=fun i hi=>by rw[aj.o.tm _ (ai.o i (by rw[I.o.len];exact hi))];simp
       go_wp2_with fail;refine BW Yk 999 [.rd 0 1 (fun _=>Pt (w.heap.size+1)),.rd 0 1 (fun _=>slice (some ⟨g,0,none⟩) ts.length m),.rd 0 1 (fun _=>int i64 c.sym.num),.rd 0 1 (fun _=>Pt y),.rd 0 1 (fun _=>int i64 k),.st 0,.rd 0 1 (fun _=>pointer (some ⟨g,c.sym.num,none⟩)),.st 1] 2 4 Yk
        (V8 w wr l d T k (slice (some ⟨g,0,none⟩) ts.length m) ts) rfl ?_ ?_
       ·have bn:∀u,Ao wr.drew u->u.cell? ⟨w.heap.size+1,0,none⟩=some (slice (some ⟨g,0,none⟩) ts.length m):=fun u M=>Aa ((M.block _ ab).trans b.o.1) 0 _ rfl;refine⟨⟨trivial,fun vs u _ hl a=> ?_⟩,⟨trivial,fun vs u _ hl a=> ?_⟩,⟨trivial,fun vs u _ hl a=> ?_⟩,⟨trivial,fun vs u _ hl a=> ?_⟩,⟨trivial,fun vs u _ hl a=> ?_⟩,⟨trivial,fun vs u hl a=> ?_⟩,⟨trivial,fun vs u _ hl a=> ?_⟩,⟨trivial,fun vs u hl a=> ?_⟩,trivial⟩
        ·simp[go_sem]
        ·have b2:=bn u (a.ext hl);simp[go_sem,b2]
        ·simp[go_sem]
        ·simp[go_sem]
        ·simp[go_sem]
        ·obtain rfl:=Q3.1 hl;have X:u=wr.drew:=a;subst X;refine .call 192 #[Pt y,int i64 k] _ (by simp[go_sem]) (a7.o.mono ?_);rintro e u ⟨v,B,rfl,h⟩;exact⟨v,rfl,v,B,rfl,h⟩
        ·simp[go_sem,W]
        ·obtain⟨v,rfl⟩:=Q1.1 hl;have M:=a.ext Ys;obtain⟨b3,B,N,b9,aw,_⟩:=a;simp only[Ending.returned.injEq]at N;subst N;have ba:=b.o.ext ((Ao.of (Ad.refl _ _).drew:Ao wr wr.drew).trans M);have av:=(M.block _ ar).trans bc.o;have bm:=Ag av c.sym.num;obtain⟨a3,a4,rfl⟩:=Ab aw;have b6:u.cell? ⟨g,c.sym.num,none⟩=some (slice a5 0 a6):=(M.cell (p:=⟨g,c.sym.num,none⟩) ar).trans b5;have cj:g<u.heap.size:=Ac av;have f:Ad (only g) u (u.setCell ⟨g,c.sym.num,none⟩ (slice a3 (T (d k)).length a4)):=(Ad.refl (only g) u).put c.sym.num _;refine .skip (u.setCell ⟨g,c.sym.num,none⟩ (slice a3 (T (d k)).length a4)) ?_ ?_
         ·simp[go_sem,b6,bm]
         ·obtain⟨r,s,F,G,n,S⟩:=ba;have bu:w.heap.size+1≠g:=fun e=>Ai s.owns Yd r (by rw[e];rfl);have bt:w.heap.size≠g:=fun e=>Ai s.owns Yd n (by rw[e];rfl);have ck:=(s.owns.lt g rfl).1;rw[K.o]at W f⊢;have bv:=s.put (l:=T (d k)) W (AI aw (Qm _));exact⟨_,(f.block _ (Ac r) bu).trans r,bv,F.new (fun i hi _=>be.o i Yo) P.o (by rw[<-K.o];exact al.o),G.trans (f.below G.size (fun j V=>by have:j=g:=V;omega)),(f.block _ (Ac n) bt).trans n,by rw[List.length_set];exact S⟩
       ·rintro vs u hl a
        match vs,hl,a with
        |[v,b3],_,a=>
        obtain⟨b4,an⟩:=a;simp only[EB,IB,CD,pa,Ph.kd,Ph.val,Kd.val,Qx,QX,Ja,Act.put,JC,JD,JG];have a8:=Yh an;clear an;go_wp2
        go_roundg (gs.length-k)
        case measure=>omega
        case rel=>exact⟨k+1,_,_,b4,Yg,Yo,Yo,a8.o⟩
  ·have bp:k=gs.length:=Yo
   subst bp;obtain⟨ta,m,rfl⟩:=Ab b.o.2.1.owns;go_wp2;have f:Ad (fun j=>j=w.heap.size) wr (wr.setCell ⟨w.heap.size,0,none⟩ (slice ta ts.length m)):=(Ad.refl (only w.heap.size) wr).put 0 _;have h0:(wr.setCell ⟨w.heap.size,0,none⟩ (slice ta ts.length m)).cell? ⟨w.heap.size,0,none⟩=some (slice ta ts.length m):=Aa (Ae b.o.2.2.2.2.1 0 _) 0 _ rfl;obtain⟨r,s,F,G,n,S⟩:=b.o;rw[I.o.len]at F;refine Jb (v:=agg #[slice ta ts.length m]) (by simp[results,results160,go_sem,h0]) rfl ?_;exact⟨_,ts,vs,rfl,s.box n Yd Yd f,F,G.trans (f.below Yo (fun k bq=>by omega)),S⟩
def B0(ts:Ll)(n:Nat):Ly:=match ts[n]? with
 |some (x::xs)=>x::xs
 |_=>vr n
theorem Xd{D:Np}{T:Nat->Ly}(f:Ew l ρ T l.length ts)(g:CM (B8 l) ρ D T)(j:OI (B8 l) ρ)(e:∀i,i<l.length->D (ρ i)):B0 ts=Dk (B8 l) ρ D T:=by
 funext n
 by_cases d:∃i,i<l.length/\(AB l i).name=[]/\(AB l i).num=n
 ·obtain⟨i,hi,hn,rfl⟩:=d;have a:Dk (B8 l) ρ D T (AB l i).num=T (ρ i):=KV (G:=B8 l) j hi hn (e i hi);rw[a];have b:=f.has i hi hn;have c:=g.tm _ (e i hi);unfold B0;rw[b];rw[c]
 ·have a:Dk (B8 l) ρ D T n=vr n:=by
   unfold Dk;rw[dif_neg];rintro⟨i,a,b,c,_⟩;exact d ⟨i,a,b,c⟩
  rw[a];unfold B0
  cases h:ts[n]? with
  |none=>rfl
  |some t=>
   rcases f.only n t h with rfl|⟨i,a,b,c,_⟩
   ·rfl
   ·exact absurd ⟨i,a,b,c⟩ d
theorem W9{gs:List GC}(h:∀c∈gs,c.size=0):sz gs (fun _=>0)=gs:=by
 apply JR;intro i
 cases a:gs[i]? with
 |none=>rw[QV (by rw[Dm];exact J8.1 a)]
 |some c=>
  rw[KB a];have:=h c (Qh a)
  cases c
  simp at this;subst this;rfl
theorem UJ{a:List GC}(h:a.map (·.size)=(DG l (Cr l) 0).map (·.size)):sz a (fun _=>0)=a:=by
 refine W9 (fun c f=> ?_);have b:c.size∈(DG l (Cr l) 0).map (·.size):=by rw[<-h];exact Q0.2 ⟨c,f,rfl⟩
 rw[<-XD l]at b;obtain⟨d,hd,e⟩:=Q0.1 b;obtain⟨i,hi⟩:=J0.1 hd;simp only[sz,List.getElem?_mapIdx,JH]at hi;obtain⟨g,_,rfl⟩:=hi;exact e.symm
def N7(a b:Ly)(w:World)(e:Ending)(w':World):Prop:=Ao w w'/\∃x n c q,e= .returned (.tuple #[.agg #[.slice x n c],.int .i64 q])/\
 ((q=0/\De a b)\/(q=2/\Hd a b)\/(q=1/\∃ts vs,AK w' 0 (.slice x n c) ts vs/\ID (B0 ts) a b/\(ap (B0 ts) a).length<=30/\ts.length<=200001/\∀t∈ts,t.length<=30))
theorem TG(hi:i<l.length)(hn:(AB l i).name=[]):Cf (AB l i).num l:=by
 refine⟨AB l i,?_,hn,rfl⟩;unfold AB;rw[QZ,Qb hi];simp
theorem Lw{a b:Ly}(h:ID σ a b)(hl:(ap σ a).length<=30){n:Nat}(c:Cf n (a++b)):(σ n).length<=30:=by
 rcases B7.1 c with c|c
 ·have:=Fw h.ts c;have e:0<a.length:=by obtain⟨s,d,_⟩:=c;exact List.length_pos_of_mem d
  omega
 ·have:=Fw h.ts c;have e:0<b.length:=by obtain⟨s,d,_⟩:=c;exact List.length_pos_of_mem d
  rw[<-h.unif]at this;omega
theorem UY{a b:Ly}(ha:Wf 1 a)(hb:Wf 1 b){c:Nat->Nat}(d:Bf (B8 (a++b)) (A1 (a++b)) c [0] [a.length]){D:Np}{T:Nat->Ly}(e:CM (B8 (a++b)) c D T)(hd:D (c 0)):
  ID (Dk (B8 (a++b)) c D T) a b/\ap (Dk (B8 (a++b)) c D T) a=T (c 0)/\OI (B8 (a++b)) c/\∀i,i<(a++b).length->D (c i):=by
 have hl:=R7 ha hb;have j:Wf 2 (a++b):=EM ha hb;have h0:=H7 (a++b) j;have m:=BR ha;have o:=BR hb;have k:(0:Nat)<(B8 (a++b)).n:=by show 0<(a++b).length;simp;omega
 have l:a.length<(B8 (a++b)).n:=by show a.length<(a++b).length;simp;omega
 obtain⟨f,g⟩:=PM hl h0 k l (Ir ha) (HI hb) d e hd;have h:c 0=c a.length:=by simpa using d.eq
 refine⟨f,g,h0.vars' d.grow,U0 ha hb (fun i hi=>d.cg i hi (h0.cg i hi)) e hd (h▸hd)⟩
def rn(v:Nat)(s:BJ):BJ:=if s.name=[]then⟨[],s.num+v,s.args⟩else s
theorem IH{v:Nat}(a:Wf k l):ap (A0 v) l=l.map (rn v):=by
 have h:∀s∈l,ED (A0 v) s=[rn v s]:=fun s c=>by
  obtain⟨i,hi⟩:=J0.1 c;have b:=(GJ a hi).1;unfold ED rn
  by_cases hn:s.name=[]
  ·rw[QQ hn,QQ hn,b hn];rfl
  ·rw[QP hn,QP hn]
 clear a
 induction l with
 |nil=>rfl
 |cons s l e=>
  rw[Bu,h s Ys,e (fun t d=>h t (by simp[d]))];rfl
abbrev BI(w:World)(v:Value)(l:List BJ):Prop:=w.ownsRow 0 133 3 v l.length (Aq l)
theorem BI.ext(h:BI w v l)(e:Ao w w'):BI w' v l:=Aj h (fun j a=>e.block j (h.lt j a).2)
def AF(w:World)(v:Value)(ls:Ll):Prop:=∃vs,AK w 0 v ls vs
theorem AF.ext(h:AF w v ls)(e:Ao w w'):AF w' v ls:=by
 obtain⟨vs,h⟩:=h;exact⟨vs,h.ext e⟩
theorem AK.inn(h:AK w B v ls vs):AF w v ls:=⟨vs,AI h.owns (Qm _),h.all⟩
def BL(F:Nat)(w:World)(v:Value)(ls:Ll):Prop:=∃vs,AK w 0 v ls vs/\(∀j,v.ownBlock=some j->F<=j)/\∀x∈vs,∀j,x.ownBlock=some j->F<=j
theorem BL.inn{a:Nat}(h:BL a w v ls):AF w v ls:=by
 obtain⟨vs,h,_⟩:=h;exact⟨vs,h⟩
theorem BL.ext{a:Nat}(h:BL a w v ls)(e:Ao w w'):BL a w' v ls:=by
 obtain⟨vs,h,b⟩:=h;exact⟨vs,h.ext e,b⟩
theorem BL.mono{b c:Nat}(h:BL b w v ls)(d:c<=b):BL c w v ls:=by
 obtain⟨vs,h,e,f⟩:=h;exact⟨vs,h,fun j a=>Qq d (e j a),fun x g j a=>Qq d (f x g j a)⟩
theorem BL.box{a:Nat}{cs:Av}{fr:Nat×Nat}(h:BL a w v ls)(e:w.heap[M]?=some (.cells cs t fr))(b:105≠t)(c:133≠t)(f:Ad (fun k=>k=M) w w'):BL a w' v ls:=by
 obtain⟨vs,h,d⟩:=h;exact⟨vs,h.box e b c f,d⟩
structure M7(w:World)(hv bv vv:Value)(c:Db):Prop where
 head:BI w hv c.head
 body:AF w bv c.body
 names:w.ownsRow 0 9 1 vv c.names.length (Ba c.names)
theorem M7.ext{b a:Value}(h:M7 w b a vv c)(e:Ao w w'):M7 w' b a vv c:=
 ⟨h.head.ext e,h.body.ext e,Aj h.names (fun j d=>e.block j (h.names.lt j d).2)⟩
theorem Co.terms{a:Nat}(h:Co w B a v ls vs):AF w v ls:=
 ⟨vs,AI h.1 (Qm _),fun i l hl=>by
  obtain⟨x,b,c⟩:=h.2 i l hl;exact⟨x,b,AI c.1 (Qm _)⟩⟩
structure Dy(w:World)(v:Value)(cs:List Db)(xs:List (List Value)):Prop where
 owns:w.ownsRow 0 107 3 v cs.length xs.flatten
 len:xs.length=cs.length
 three:∀x∈xs,x.length=3
 all:∀(i:Nat)(c:Db),cs[i]?=some c->∃hv bv vv,xs[i]?=some [hv,bv,vv]/\M7 w hv bv vv c
theorem Dy.ext{xs:List (Lv)}(h:Dy w v cs xs)(e:Ao w w'):Dy w' v cs xs:=
 ⟨Aj h.owns (fun j g=>e.block j (h.owns.lt j g).2),h.len,h.three,fun i c f=>by
  obtain⟨k,a,l,b,d⟩:=h.all i c f;exact⟨k,a,l,b,d.ext e⟩⟩
theorem Fh.prog{a b:Nat}{xs:List (Lv)}(h:Fh w B a b v cs xs):Dy w v cs xs:=
 ⟨AI h.1 (Qm _),h.2.1,h.2.2.1,fun i c k=>by
  obtain⟨l,d,m,p,e,f,g,n,j,o⟩:=h.2.2.2 i c k;exact⟨l,d,m,e,AI f.1 (Qm _),g.terms,AI j (Qm _)⟩⟩
structure F1(w:World)(gv vv rv:Value)(n:ND):Prop where
 goals:AF w gv (n.goals.map (·.1))
 vals:AF w vv n.vals
 done:AF w rv (n.done.map (·.1))
structure Xc(F:Nat)(w:World)(gv vv rv:Value)(n:ND):Prop where
 goals:BL F w gv (n.goals.map (·.1))
 vals:BL F w vv n.vals
 done:BL F w rv (n.done.map (·.1))
theorem F1.ext{a:Value}{n:ND}(h:F1 w gv vv a n)(e:Ao w w'):F1 w' gv vv a n:=⟨h.goals.ext e,h.vals.ext e,h.done.ext e⟩
end Go.Proofs.YtlmjilpjmgjjcaaGreatDoor
