/-
  PROVED HERE: the given card of the law 'Whole' in its second form: where what it reads is of bulk at most 1048576.
-/
import Derived.Test.YtlmjilpjmgjjcaaGreatDoorT8
import Derived.Test.YtlmjilpjmgjjcaaGreatDoorCards
import Derived.Test.YtlmjilpjmgjjcaaGreatDoorTie
import Derived.ProofKit
import Derived.LaidMore
import Derived.OpenShut
import Derived.Stop.Joined
import Derived.SevenTiedAt
import Derived.Deep.Slices
import Derived.Carry
import Derived.Deep.DeepHandedRow
import Derived.Lib.LaidTab
import Derived.Lib.AppendIntMem
import Derived.Stop.LaidErr
set_option linter.unusedSimpArgs false
set_option linter.unusedVariables false
set_option maxRecDepth 10000
set_option maxHeartbeats 4000000
namespace Go.Proofs.YtlmjilpjmgjjcaaGreatDoor
open Go.RowKit
open Tryz
variable{w w' w1 w2 w0 wr:World}{n k B b i p size cap M rb bW x:Nat}{v cv gv vv lv:Value}{xs ys vs:Lv}{X Y S:Np}{s:ByteArray}{t e:TypeId}{fr:Nat×Nat}{P:Program}{l:Ly}{ls ts:Ll}{ρ:Nat->Nat}{σ:Nat->Ly}{cs:Lc}{c:Dt}{a:Ll×At}{m:SN}{ds r:Ln}{st:RS}{L:Bj}{G:Gr}{A:List Lu}
attribute [local simp] XQ El Hq pa Ph.kd Ph.val Kd.val
theorem Hu.bump{b:Nat}{n:ND}(h:Hu B w (.slice (some ⟨b,0,none⟩) (ds.length+1) cap) (ds++[(n,k)]) xs)(a:Nat):
  Hu B (w.setCell ⟨b,ds.length*5+4,none⟩ (Vi a)) (.slice (some ⟨b,0,none⟩) (ds.length+1) cap) (ds++[(n,a)]) (xs.set (ds.length*5+4) (Vi a))/\Eb w (w.setCell ⟨b,ds.length*5+4,none⟩ (Vi a)):=by
 have c:=h.owns;have z:=c.1;rw[Qg,Qn]at c z;have y:=CT w b (ds.length+1) cap (ds.length*5+4) (Vi a);have f:Eb w (w.setCell ⟨b,ds.length*5+4,none⟩ (Vi a)):=Eb.of_kept y (fun j u=>by
  rcases c.2 with⟨e,_⟩|⟨g,A,C,e,_,x,_⟩
  ·simp at e
  ·simp at e;obtain⟨rfl,_⟩:=e;simp[Ak,Value.ownBlock]at u;subst u;exact⟨_,_,_,x,by simp[H1]⟩)
 refine⟨⟨by rw[Qg,Qn];exact BY c _ _,fun i d hd=> ?_⟩,f⟩;rcases QB i ds.length with hi|hi
 ·rw[Qc hi]at hd;obtain⟨l,m,o,p,q,r,s,t,v,g⟩:=h.all i d (by rw[Qc hi];exact hd);exact⟨l,m,o,p,by rw[QF Yo];exact q,by rw[QF Yo];exact r,by rw[QF Yo];exact s,by rw[QF Yo];exact t,by rw[QF Yo];exact v,g.fr f⟩
 ·have e:i=ds.length:=by
   have:=(Qa.1 hd).1;simp at this;omega
  subst e;rw[Qd (Qe _)]at hd;simp at hd;subst hd;obtain⟨l,m,o,p,q,r,s,t,v,g⟩:=h.all ds.length (n,k) (by rw[Qd (Qe _)];simp);exact⟨l,m,o,p,by rw[QF Yo];exact q,by rw[QF Yo];exact r,by rw[QF Yo];exact s,by rw[QF Yo];exact t,by rw[List.getElem?_set_self Yo],g.fr f⟩
theorem Ng.bump{a:Nat}{nv:Value}{n:ND}{A:List (Lu)}{wc:Nat}{aa:Oa}{ac:Nat}(h:Ng w0 w b cv nv s p ((n,k)::r) A (some ⟨a,0,none⟩) wc aa ac)(d:Nat):
  Ng w0 (w.setCell ⟨a,r.length*5+4,none⟩ (Vi d)) b cv nv s p ((n,d)::r) A (some ⟨a,0,none⟩) wc aa ac/\Eb w (w.setCell ⟨a,r.length*5+4,none⟩ (Vi d)):=by
 obtain⟨u,c⟩:=h.row;rw[Qf,Qw]at c;have t:a≠b:=D1 c.owns h.box Yd a rfl;have q:w0.hz<=a:=(c.owns.lt a rfl).1;obtain⟨l,i⟩:=Hu.bump (ds:=r.reverse) (n:=n) (k:=k) (xs:=u) (by rw[Qv];exact c) d;rw[Qv]at l i;have f:Ad (only a) w (w.setCell ⟨a,r.length*5+4,none⟩ (Vi d)):=(Ad.refl _ _).put _ _;refine⟨⟨C6 h.ext f q,h.low,(f.block b (Ab h.box) (fun e=>t (by have e:b=a:=e;exact e.symm))).trans h.box,⟨_,by rw[Qf,Qw];exact l⟩,Aj h.ans (fun j m=>f.block j (h.ans.lt j m).2 (fun e=> ?_))⟩,i⟩;have e:j=a:=e;subst e;rcases c.owns.2 with⟨e',_⟩|⟨g,v,x,e',_,o,_⟩
 ·simp at e'
 ·simp at e';obtain⟨rfl,_⟩:=e';exact D1 h.ans o Yd _ m rfl
theorem Ng.other{q:Nat}{nv:Value}{way:Ln}{A:List (Lu)}{wa:Oa}{wc:Nat}{aa:Oa}{ac:Nat}{cl:Av}(h:Ng w0 w b cv nv s p way A wa wc aa ac)(c:Ad (only q) w w')(f:w.heap[q]?=some (.cells cl 87 (0,0)))(hl:w0.hz<=q):Ng w0 w' b cv nv s p way A wa wc aa ac:=by
 obtain⟨z,j⟩:=h.row;have l:DF (only q) w:=fun k e=>by
  have e:k=q:=e;subst e;exact⟨_,_,_,f,by simp[BR]⟩
 refine⟨C6 h.ext c hl,h.low,(c.block b (Ab h.box) (fun e=> ?_)).trans h.box,⟨z,Aj j.owns (fun k a=>c.block k (j.owns.lt k a).2 (D1 j.owns f Yd k a)),fun i d hd=> ?_⟩,Aj h.ans (fun k a=>c.block k (h.ans.lt k a).2 (D1 h.ans f Yd k a))⟩
 ·have e:b=q:=e;subst e;rw[h.box]at f;simp at f
 ·obtain⟨m,n,o,r,t,u,v,x,y,g⟩:=j.all i d hd;exact⟨m,n,o,r,t,u,v,x,y,g.keep c l⟩
theorem Eb.put{q:Nat}(h:Eb w w1)(b:Ad (only q) w1 w2)(d:w.hz<=q):Eb w w2:=fun k cl t fr e c=>by
 have a:=h k cl t fr e c;exact(b.block k (Ab a) (fun e'=>by have e':k=q:=e';have:=Ab e;omega)).trans a
theorem Rv{a c d e:Value}(h:w.heap[b]?=some (.cells #[a,c,d,e] t (0,0))):
  w.cell? ⟨b,0,none⟩=some a/\w.cell? ⟨b,1,none⟩=some c/\w.cell? ⟨b,2,none⟩=some d/\w.cell? ⟨b,3,none⟩=some e/\∀i,w.frozen? ⟨b,i,none⟩=false:=
 ⟨Aa h 0 _ rfl,Aa h 1 _ rfl,Aa h 2 _ rfl,Aa h 3 _ rfl,fun i=>Ae h i⟩
def Nn(w0 w:World)(b:Nat)(cv nv:Value)(s:ByteArray)(p:Nat)(n:ND)(r:Ln)(A:List (Lu))(L:Nat)(N:Option (Nat×Dt))(e:Ending)(w':World):Prop:=Eb w w'/\
 ((N=none/\e= .returned (.tuple #[.int .i64 0,.agg #[.slice none 0 0,.slice none 0 0,.slice none 0 0,.int .i64 0],.int .i64 0])/\FR w0 w' b cv nv s p ((n,L)::r) A)\/
 (∃j c,N=some (j,c)/\∃g1 g2 g3 v1 v2 v3 q1 q2 q3,∃uu o:Nat,e= .returned (.tuple #[.int .i64 j,.agg #[.slice g1 g2 g3,.slice v1 v2 v3,.slice q1 q2 q3,.int .i64 uu],.int .i64 o])/\FR w0 w' b cv nv s p ((n,j+1)::r) A/\((o=2/\(Ax n c j).2=3)\/(o=1/\((Ax n c j).2=1\/(Ax n c j).2=2)/\C3 w' (.slice g1 g2 g3) (.slice v1 v2 v3) (.slice q1 q2 q3) (.int .i64 uu) (Ax n c j).1))))
theorem UC(K w:World)(b:Nat)(ca:Oa)(cc:Nat)(nv:Value)(s:ByteArray)(p:Nat)(n:ND)(k:Nat)(r:Ln)(A:List (Lu))(cs:Lc)(xs:List (Lv))(h:FR K w b (.slice ca cs.length cc) nv s p ((n,k)::r) A)(cr:DD K (.slice ca cs.length cc) cs xs)(cz:n.goals≠[])(bl:k<=cs.length)(eo:r.length<=20000)(cy:∀c∈cs,Kl c/\QU c)(cw:∀c∈cs,Ma c)(el:cs.length<=24):
  Calls prog 138 #[Pt b] w (Nn K w b (.slice ca cs.length cc) nv s p n r A cs.length (Ea cs n (cs.length-k) k)):=by
 obtain⟨N,bg⟩:=Ex (Ea cs n (cs.length-k) k);rw[<-bg];have dv:∃wa wc,w.cell? ⟨b,4,none⟩=some (.slice wa (r.length+1) wc)/\b<w.hz:=by
  obtain⟨wa,wc,aa,ac,h⟩:=h;exact⟨wa,wc,Aa h.box 4 _ rfl,Ab h.box⟩
 obtain⟨wa,wc,M,ei⟩:=dv;have bx:=hd h;have dm:=hd cr;have dr:=hd cz;have dq:=hd cy;have dn:=hd cw;have HN:=hd bg;clear h cr cz cy cw bg;go_enter func138,ex;go_wp2
 go_loopg [6] (cs.length+1) (fun gk tv wr=>∃ah:Nat,ah<=cs.length/\cs.length-ah<gk/\Ea cs n (cs.length-ah) ah=N/\FR K wr b (.slice ca cs.length cc) nv s p ((n,ah)::r) A/\Eb w wr/\wr.heap[w.hz]?=some (.cells #[Nl,Nl,Nl,Vi 0] 87 (0,0)))
 case atStart=>exact⟨k,bl,Yo,HN.o.symm,bx.o.grow Mxt,Eb.of_ext Mxt,QL w _⟩
 case round=>
  clear M bl;obtain⟨k,bl,em,bo,⟨wa,wc,aa,ac,h⟩,bd,af⟩:=hrel;have l:=h.box;simp only[Qf]at l;obtain⟨ar,b1,b2,a7,M,a8,a9⟩:=IE l;obtain⟨e1,ag⟩:=h.row;simp only[Qf,Qw]at ag;have ad:=ag.owns;rw[Qg,Qv,Qn]at ad;obtain⟨T,ez,e0,c7,_,a0,eu⟩:=An ad Yo;simp only[QH]at c7;obtain⟨rfl,_,rfl⟩:=c7;obtain⟨eb,ec,ed,ee,U,V,W,an,ao,ax⟩:=ag.all r.length (n,k) (by rw[Qd Ys];simp);have b8:=Ag ad _ _ ao;simp only at b8;have d7:=fun i=>Ae a0 i;have ej:=Ab l;have es:=Ab a0;have ep:(0:Int)<=(r.length:Int):=Yo
  have eq:r.length<r.length+1:=Yo
  have er:(r.length:Int)<(r.length:Int)+1:=Yo
  have b3:=hd af;have bz:=hd bd;have b0:=hd h;have hz:=Ab af;have bm:K.hz<=w.hz:=by
   obtain⟨_,_,_,_,h⟩:=bx.o;exact h.ext.size
  by_cases bn:k<cs.length
  ·have d2:(k:Int)<(cs.length:Int):=Yo
   clear l ag ad a0 U V W an ao ax h bd af;go_wp2_with fail;go_quiet (fail);go_wp2_with fail;obtain⟨H,bj⟩:=Ex ((wr.drewN nq).setCell ⟨T,r.length*5+4,none⟩ (Vi ((k:Int)+1)));rw[<-bj];have bc:Ao wr (wr.drewN nq):=Ao.of ((Ad.refl _ wr).drewN _);obtain⟨Q,be⟩:=(b0.o.grow bc).bump (k+1);rw[show((k+1:Nat):Int)=(k:Int)+1 by omega,<-bj]at Q be;have bf:Eb wr H:=(Eb.of_ext bc).trans be;have aw:=Q.box;simp only[Qf]at aw;clear ar b1 b2 a7 M a8 a9 b8 d7;obtain⟨ar,b1,b2,a7,M,a8,a9⟩:=IE aw;obtain⟨e2,ay⟩:=Q.row;simp only[Qf,Qw]at ay;have S:=ay.owns;rw[Qg,Qv,Qn]at S;obtain⟨eb,ec,ed,ee,U,V,W,an,ao,ax⟩:=ay.all r.length (n,k+1) (by rw[Qd Ys];simp);obtain⟨d,R,rfl,bh,co,cm,cu⟩:=ax;obtain⟨cj,ck,rfl⟩:=R.goals.shape;obtain⟨de,df,rfl⟩:=R.vals.shape;obtain⟨dc,dd,rfl⟩:=R.done.shape;simp only[Ql]at R U V W;have ba:=Ag S _ _ U;have b5:=Ag S _ _ V;have b6:=Ag S _ _ W;have b7:=Ag S _ _ an;obtain⟨c,Y⟩:∃c,cs[k]?=some c:=⟨_,Qb bn⟩;have bi:=dm.o.ext Q.ext;obtain⟨lb,ev,ew,c2,_,d1,_⟩:=An bi.owns Yo;simp only[QH]at c2;obtain⟨rfl,_,rfl⟩:=c2;obtain⟨ef,eg,cv2,bp,c9,da,Z⟩:=bi.cell Y;obtain⟨b9,cb,rfl⟩:=Ac Z.head;obtain⟨cd,ce,rfl⟩:=Z.body.shape;obtain⟨cf,cg,rfl⟩:=Ac Z.names;have ek:=Ab aw;have et:T<H.hz:=World.block_lt_of_cell? H ⟨T,r.length*5,none⟩ ba;have en:lb<H.hz:=World.block_lt_of_cell? H ⟨lb,k*3,none⟩ bp;obtain⟨bk,cx⟩:=dq.o c (Qh Y);have dk:Hd (∀X u,Ao H.drew u->(∀k,X k->H.hz<=k/\k<u.hz)->Calls prog 97 #[.agg #[.slice cj d.goals.length ck,.slice de d.vals.length df,.slice dc d.done.length dd,Vi d.vars],.agg #[.slice b9 c.head.length cb,.slice cd c.body.length ce,.slice cf c.names.length cg]] u fun e bq=>∃r,e= .returned r/\Ao u bq/\Jt d c k X r bq):=fun X u a du=>by
    have c8:Ao H u:=a.undrew;apply(KH u _ _ _ _ _ _ d c k bh bk (R.ext c8) (Z.ext c8)).mono;intro e bq h;exact h.toX (fun j dz=>(du j dz).2)
   have a4:=hd bk;have a3:=hd bh;have dl:=hd co;have dj:=hd cm;have ap:=hd cu;have dp:=hd cx;have dh:Hd (Ma c):=dn.o c (Qh Y);have dg:=hd Q;have di:=hd (bz.o.trans bf);have b4:=hd (bf _ _ _ _ b3.o (by simp[H1]));have a6:Hd ((if(Ax n c k).2=0 then Ea cs n (cs.length-(k+1)) (k+1)else some (k,c))=N):=by
    show _=_;rw[<-bo,show cs.length-k=(cs.length-(k+1))+1 by omega,Ea,Y]
   have d0:k+1<=cs.length:=bn;clear bj bc Q be bf aw ay S U V W an ao R bi Z d1 bk bh co cm cu cx bo Y;refine DM Yk [.pur (Pt b),.pur (Pt b),.pur (.pointer (some ⟨b,4,none⟩)),.pur (.slice (some ⟨T,0,none⟩) (r.length+1) wc),.pur (Vi r.length),.pur (.pointer (some ⟨T,r.length*5,none⟩)),.pur (.pointer (some ⟨T,r.length*5,none⟩)),.pur (.agg #[.slice cj d.goals.length ck,.slice de d.vals.length df,.slice dc d.done.length dd,Vi d.vars]),
    .pur (Pt b),.pur (Pt b),.pur (Pt b),.pur (.slice (some ⟨lb,0,none⟩) cs.length cc),.pur (Vi k),.pur (.pointer (some ⟨lb,k*3,none⟩)),.pur (.agg #[.slice b9 c.head.length cb,.slice cd c.body.length ce,.slice cf c.names.length cg]),
    .cal,.post (fun v=>v),.post (A7 0),.post (A7 1),.alo 87 #[Nl,Nl,Nl,Vi 0] 20 (fun v=>cellsOf (A7 0 v)),.sto 19,.post (A7 1)] 15 Yk (Jt d c k) 97 _ Jt.stable dk.o ?_ rfl Yd ?_
   ·refine⟨fun vc β u a=> ?_,fun vc β u a=> ?_,fun vc β u a=> ?_,fun vc β u a=> ?_,fun vc β u a=> ?_,fun vc β u a=> ?_,fun vc β u a=> ?_,fun vc β u a=> ?_,fun vc β u a=> ?_,fun vc β u a=> ?_,fun vc β u a=> ?_,fun vc β u a=> ?_,fun vc β u a=> ?_,fun vc β u a=> ?_,fun vc β u a=> ?_,fun vc β u=> ?_,?_,?_,?_,fun vc β u=> ?_,?_,?_,trivial⟩
    all_goals try(simp[pa,Kd.val,go_sem,a.up ar,a.up M,a.up ba,a.up b5,a.up b6,a.up b7,a.up bp,a.up c9,a.up da,bn];done)
    all_goals try(simp[pa,Kd.val,go_sem];done)
    all_goals try(rintro vc β X u ⟨f,P,g,B,C,D,q,x,y,z,db,rfl,_⟩;simp[pa,Kd.val,go_sem,A7];done)
    all_goals try(simp[pa,Kd.val,go_sem];intro h;omega)
    rintro vc β X u t e3 ey cl ab ⟨f,P,g,B,C,D,q,x,y,z,db,rfl,_⟩ hb;simp at ab;obtain⟨rfl,rfl,rfl,rfl⟩:=ab;have br:=Aa hb 0 _ rfl;have bs:=Aa hb 1 _ rfl;have bu:=Aa hb 2 _ rfl;have bv:=Aa hb 3 _ rfl;have bw:=fun i=>Ae hb i;refine⟨_,?_,Af (Af (Af (Af hb 0 _) 1 _) 2 _) 3 _,((((Ad.refl (only (β 19)) u).put 0 _).put 1 _).put 2 _).put 3 _⟩;simp[pa,Kd.val,go_sem,br,bs,bu,bv,bw,A7]
   rintro vc β w5 I ⟨f,P,g,B,C,D,q,x,y,z,db,rfl,d3⟩ av _;have I:=I.undrew;obtain⟨eh,l⟩:=av 19 _ _ _ _ rfl;have F:w5.heap[β 19]?=some (.cells #[.slice f P g,.slice B C D,.slice q x y,Vi z] 87 (0,0)):=l;generalize dw:β 19=bt at*;have a1:=hd (dg.o.grow I);have a2:=hd (di.o.trans (Eb.of_ext I));have J:=(I.block _ (Ab b4.o)).trans b4.o;have aq:=hd J;clear ar b1 b2 a7 M a8 a9 ba b5 b6 b7 bp c9 da;simp only[B4,pa,Kd.val,if_true,Act.put,A7];rw[dw];rcases d3 with⟨rfl,m⟩|⟨rfl,O,m⟩|⟨rfl,O,q0,ae,m,rfl,rfl,dy,d6,d4⟩
   ·have c3:(Ax n c k).2=0:=by
     rcases m with h|h
     ·exact absurd (List.eq_nil_of_length_eq_zero (by rw[<-ap.o.gl,h];rfl)) dr.o
     ·exact(Ef a3.o ap.o a4.o h).1.symm
    have dt:Hd (Ea cs n (cs.length-(k+1)) (k+1)=N):=by show _=_;rw[<-a6.o,if_pos c3]
    clear l F av I J m c3;go_wp2
    go_roundg (cs.length-k)
    case measure=>omega
    case rel=>exact⟨k+1,d0,Yo,dt.o,⟨_,_,_,_,a1.o⟩,a2.o,aq.o⟩
   ·have c4:(Ax n c k).2=3:=(Ef a3.o ap.o a4.o m).1.symm;have a5:Hd (∀L,Ad (only w.hz) w5 L->Nn K w b (.slice (some ⟨lb,0,none⟩) cs.length cc) nv s p n r A cs.length N (Rq #[Vi k,.agg #[.slice f P g,.slice B C D,.slice q x y,Vi z],Vi 2]) L):=fun L E=>by
     refine⟨a2.o.put E (Qe _),Or.inr ⟨k,c,?_,f,P,g,B,C,D,q,x,y,z,2,rfl,⟨_,_,_,_,a1.o.other E aq.o bm⟩,Or.inl ⟨rfl,c4⟩⟩⟩;rw[<-a6.o,if_neg Yo]
    obtain⟨ai,aj,ak,al,am⟩:=Rv J;obtain⟨br,bs,bu,bv,bw⟩:=Rv F;have d5:=Ab J;have dx:=Ab F;clear l F av I J m c4;go_wp2_with fail;go_region
    all_goals
     go_wp2;refine bodyPost_ret (v:= .tuple #[Vi k,.agg #[.slice f P g,.slice B C D,.slice q x y,Vi z],Vi 2]) (by simp[results,results138,go_sem,ai,aj,ak,al,am]) rfl ?_;exact a5.o _ Mkt
   ·obtain⟨ch,ci⟩:=Ef a3.o ap.o a4.o m;obtain⟨cq,cv⟩:=ci ae;have c1:(Ax n c k).2=1\/(Ax n c k).2=2:=by rw[<-ch];exact ae
    have cp:=Ol m ae dl.o dp.o;have cn:=NU m ae dj.o dh.o;obtain⟨d8,c0,_⟩:=dy;obtain⟨d9,c6,_⟩:=d6;obtain⟨ea,c5,_⟩:=d4;have bb:C3 w5 (.slice f O.goals.length g) (.slice B C D) (.slice q x y) (Vi O.vars) (Ax n c k).1:=⟨O,⟨⟨d8,c0⟩,⟨d9,c6⟩,⟨ea,c5⟩⟩,rfl,cq,cp,cn,cv⟩;have ct:DF (only w.hz) w5:=fun j e=>by
     have e:j=w.hz:=e;subst e;exact⟨_,_,_,aq.o,by simp[BR]⟩
    obtain⟨G,au⟩:=Ex O.goals.length;obtain⟨z,az⟩:=Ex O.vars;rw[<-au,<-az]at bb;rw[<-au]at F;rw[<-az]at F;have a5:Hd (∀L,Ad (only w.hz) w5 L->Nn K w b (.slice (some ⟨lb,0,none⟩) cs.length cc) nv s p n r A cs.length N (Rq #[Vi k,.agg #[.slice f G g,.slice B C D,.slice q x y,Vi z],Vi 1]) L):=fun L E=>by
     refine⟨a2.o.put E (Qe _),Or.inr ⟨k,c,?_,f,G,g,B,C,D,q,x,y,z,1,rfl,⟨_,_,_,_,a1.o.other E aq.o bm⟩,Or.inr ⟨rfl,c1,bb.keep E ct⟩⟩⟩;rw[<-a6.o,if_neg Yo]
    obtain⟨ai,aj,ak,al,am⟩:=Rv J;obtain⟨br,bs,bu,bv,bw⟩:=Rv F;have d5:=Ab J;have dx:=Ab F;rw[<-au,<-az];clear l F av I J m ae c1 ch ci cq cv cp cn c0 c6 c5 bb ct au az;go_wp2_with fail;go_region
    all_goals
     go_wp2;refine bodyPost_ret (v:= .tuple #[Vi k,.agg #[.slice f G g,.slice B C D,.slice q x y,Vi z],Vi 1]) (by simp[results,results138,go_sem,ai,aj,ak,al,am]) rfl ?_;exact a5.o _ Mkt
  ·have ab:k=cs.length:=Yo
   have d2:¬(k:Int)<(cs.length:Int):=Yo
   obtain⟨ai,aj,ak,al,am⟩:=Rv af;have ds:Hd (N=none):=by show _=_;rw[<-bo,ab,Nat.sub_self];rfl
   clear l ag ad a0 U V W an ao ax h bd af;go_wp2_with fail;go_quiet (fail);go_wp2;refine bodyPost_ret (v:= .tuple #[Vi 0,.agg #[Nl,Nl,Nl,Vi 0],Vi 0]) (by simp[results,results138,go_sem,ai,aj,ak,al,am]) rfl ?_;have E:Ad (only w.hz) wr (((((wr.drewN nq).setCell ⟨w.hz,0,none⟩ Nl).setCell ⟨w.hz,1,none⟩ Nl).setCell ⟨w.hz,2,none⟩ Nl).setCell ⟨w.hz,3,none⟩ (Vi 0)):=(((((Ad.refl _ wr).drewN _).put 0 _).put 1 _).put 2 _).put 3 _;exact⟨bz.o.put E (Qe _),Or.inl ⟨ds.o,rfl,_,_,_,_,ab▸b0.o.other E b3.o bm⟩⟩
theorem OJ{n:ND}:∀{f k j:Nat}{c:Dt},Ea cs n f k=some (j,c)->cs[j]?=some c/\j<k+f:=by
 intro f
 induction f with
 |zero=>intro k j c h;simp[Ea]at h
 |succ f e=>
  intro k j c h;rw[Ea]at h
  cases a:cs[k]? with
  |none=>rw[a]at h;simp at h
  |some d=>
   rw[a]at h;simp only at h;split at h
   ·obtain⟨b,g⟩:=e h;exact⟨b,Yo⟩
   ·simp at h;obtain⟨rfl,rfl⟩:=h;exact⟨a,Yo⟩
structure XU(w0:World)(ca:Option Addr)(cc:Nat)(nv:Value)(cs:List Dt)(names:At):Prop where
 prog:∃xs,DD w0 (.slice ca cs.length cc) cs xs
 ok:∀c∈cs,Kl c/\QU c
 cf:∀c∈cs,Ma c
 cl:cs.length<=24
 row:w0.ownsRow 0 9 1 nv names.length (Ba names)
 few:names.length<=60
 short:∀x∈names,x.length<=8
theorem XU.enter{ca:Oa}{cc:Nat}{nv:Value}{way:Ln}{A:List (Lu)}{names:At}{a c:Value}{n:ND}(d:XU w0 ca cc nv cs names)(h:FR w0 w b (.slice ca cs.length cc) nv s p way A)(hn:C3 w gv vv a c n)(j:n.vals.length=names.length)(g:s.size<=20000)(f:p<=s.size)(i:A.length<=20000)(k:way.length<=20000):
  Calls prog 103 #[Pt b,.agg #[gv,vv,a,c]] w (QQ w0 w b (.slice ca cs.length cc) nv s (Cm names s.data.toList n p way A)):=by
 by_cases e:n.goals=[]
 ·exact P5 w0 w b _ nv s p way A names gv vv a c n h hn e d.row j d.few d.short g f i
 ·exact Pe w0 w b _ nv s p way A names gv vv a c n h hn e g f k
theorem U0(G w:World)(b:Nat)(ca:Oa)(cc:Nat)(nv:Value)(s:ByteArray)(p:Nat)(n:ND)(k:Nat)(r:Ln)(A:List (Lu))(cs:Lc)(names:At)(y:XU G ca cc nv cs names)(h:FR G w b (.slice ca cs.length cc) nv s p ((n,k)::r) A)(a0:n.goals≠[])(bp:n.vals.length=names.length)(bk:k<=cs.length)(a2:s.size<=20000)(bo:p<=s.size)(bj:A.length<=20000)(b9:r.length+1<=20000):
  Calls prog 104 #[Pt b] w (QQ G w b (.slice ca cs.length cc) nv s (La cs names s.data.toList n k p r A)):=by
 obtain⟨xs,az⟩:=y.prog;have z:=hd (UC G w b ca cc nv s p n k r A cs xs h az a0 bk Yo y.ok y.cf y.cl);obtain⟨M,Z⟩:=Ex (La cs names s.data.toList n k p r A);have ae:∀j c,Ea cs n (cs.length-k) k=some (j,c)->j<24:=fun j c h=>by
  have:=(OJ h).2;have:=y.cl;omega
 have S:=Z;unfold La at S;rw[<-Z];obtain⟨N,ax⟩:=Ex (Ea cs n (cs.length-k) k);rw[<-ax]at S ae z;have C:=hd S;have aj:=hd y;have Y:=hd ae;clear h a0 y az Z S ax ae;go_enter func104,ntmps104;go_wp2_with fail;apply z.o.mono;rintro e w1 ⟨E,⟨ay,rfl,l⟩|⟨j,c,P,al,am,an,a7,a8,a9,a3,a4,a5,a6,o,rfl,l,bn⟩⟩
 ·obtain⟨d,g⟩:=Ex (w1.alloc (.cells #[Nl,Nl,Nl,Vi 0] 87));have m:Ao w1 d:=by rw[g];exact Mxt
  have W:=hd (So G d b _ nv s p (n,cs.length) r A (l.grow m) a2 bo Yo);have f:Hd (M=if s.data.toList[p]?=some 41 then⟨true,p+1,r,A⟩else⟨false,p,(n,cs.length)::r,A⟩):=by show _=_;rw[C.o,ay]
  have t:=hd (E.trans (Eb.of_ext m));have B:=hd g;clear l E m g ay z C;go_wp2_with fail;rw[<-B.o];apply W.o.mono;rintro e w2 ⟨L,⟨F,rfl,D⟩|⟨F,rfl,D⟩⟩
  ·have a:Hd (M=⟨true,p+1,r,A⟩):=by show _=_;rw[f.o,if_pos F]
   have v:=hd (t.o.trans L);have q:=hd D;clear L D F W;go_wp2;go_ret;rw[a.o];exact⟨v.o,rfl,q.o⟩
  ·have a:Hd (M=⟨false,p,(n,cs.length)::r,A⟩):=by show _=_;rw[f.o,if_neg F]
   have v:=hd (t.o.trans L);have q:=hd D;clear L D F W;go_wp2;go_ret;rw[a.o];exact⟨v.o,rfl,q.o⟩
 ·obtain⟨d,g⟩:=Ex (w1.alloc (.cells #[.slice al am an,.slice a7 a8 a9,.slice a3 a4 a5,Vi a6] 87));have m:Ao w1 d:=by rw[g];exact Mxt
  have b6:=Y.o j c P;have t:=hd (E.trans (Eb.of_ext m));have H:=hd (l.grow m);have f:=C.o;rw[P]at f;simp only at f;rcases bn with⟨rfl,ap⟩|⟨rfl,ao,au⟩
  ·have a:Hd (M=⟨false,p,(n,j+1)::r,A⟩):=by show _=_;rw[f,if_pos (Or.inl ap)]
   have B:=hd g;clear l E m g P z C f ap Y aj;go_wp2;go_ret;rw[<-B.o,a.o];exact⟨t.o,rfl,H.o⟩
  ·obtain⟨V,Q⟩:=Ex ((As (s.data.toList.drop p)).1);obtain⟨i,R⟩:=Ex ((As (s.data.toList.drop p)).2);have a1:=Ci (s.data.toList.drop p);rw[List.length_drop,show s.data.toList.length=s.size by simp,<-Q,<-R]at a1;obtain⟨cd,ce,cg⟩:=a1;have U:=hd (fun u=>Rg s p u Yo Yo);rw[<-Q,<-R]at U;rw[<-Q,<-R]at f;have ad:d.heap[w1.hz]?=some (.cells #[.slice al am an,.slice a7 a8 a9,.slice a3 a4 a5,Vi a6] 87 (0,0)):=by rw[g];exact QL w1 _
   have X:=hd ad;have ba:=hd (au.ext m);have B:=hd g;have bq:(Ax n c j).1.vals.length=names.length:=by rw[Gy ao];exact bp
   have bm:(Ax n c j).2≠3:=Yo
   obtain⟨wa,wc,aa,ac,K⟩:=H.o;obtain⟨be,b1,b2,bf,bg,bh,bi⟩:=IE K.box;have b4:=Ab K.box;have cb:=Ab ad;have I:=hd K;have J:=hd f;clear l E m g P z C f Y Q R ad au K ao;go_wp2_with fail;rw[<-B.o];go_quiet ((go_at_call 96;exact Calls.quiet_of_same (U.o _)));have x:Ao d (d.drewN nq):=Ao.of ((Ad.refl _ d).drewN _)
   by_cases ag:i=0
   ·have a:Hd (M=⟨false,p,(n,j+1)::r,A⟩):=by show _=_;rw[J.o,if_pos (Or.inr (Or.inl ag))]
    have q:=hd (H.o.grow x);have v:=hd (t.o.trans (Eb.of_ext x));subst ag;clear x;go_wp2;go_ret;rw[a.o];exact⟨v.o,rfl,q.o⟩
   ·have b7:(((p:Int)+(i:Int))==(p:Int))=false:=by rw[Qu];omega
    by_cases af:V=j
    ·subst af;have a:Hd (M=Cm names s.data.toList (Ax n c V).1 (p+i) ((n,V+1)::r) A):=by show _=_;rw[J.o,if_neg (by rintro(h|h|h);exact bm h;exact ag h;exact h rfl)]
     have bl:((V:Int) !=(V:Int))=false:=Ys
     obtain⟨w5,T⟩:=Ex ((d.drewN nq).setCell ⟨b,3,none⟩ (Vi ((p:Int)+(i:Int))));have aw:Ad (only b) d w5:=by rw[T];exact((Ad.refl _ _).drewN _).put 3 _
     obtain⟨ar,O⟩:=I.o.upd (p':=p+i) aw (by rw[T,show((p+i:Nat):Int)=(p:Int)+(i:Int) by omega];exact Af (w:=d.drewN nq) I.o.box 3 _) I.o.row;have ai:=hd (aj.o.enter (way:=(n,V+1)::r) (A:=A) (p:=p+i) ⟨_,_,_,_,ar⟩ (ba.o.fr O) bq a2 Yo bj (by rw[Qf];omega));have bb:=hd (t.o.trans O);have ab:=O _ _ _ _ X.o (by simp[H1]);obtain⟨bw,bx,bz,b0,b3⟩:=Rv ab;have b8:b≠w1.hz:=fun e=>by
      have l:=X.o;rw[<-e,I.o.box]at l;simp at l
     have bd:=hd T;have b5:=Ab ab;obtain⟨br,bs,bt,bu,bv⟩:=Rv X.o;clear x aw ar O ab T U J;go_wp2_with fail;rw[<-bd.o];apply ai.o.mono;rintro e ch ⟨av,rfl,aq⟩;have ah:=hd aq;have bc:=hd (bb.o.trans av);rw[<-a.o]at ah;have ak:(Cm names s.data.toList (Ax n c V).1 (p+i) ((n,V+1)::r) A)=M:=a.o.symm;rw[ak];clear aq av ai a ak be b1 b2 bf bg bh bi bw bx bz b0 b3 br bs bt bu bv;go_wp2;go_ret;exact⟨bc.o,rfl,ah.o⟩
    ·have bl:((V:Int) !=(j:Int))=true:=by rw[bne_iff_ne];omega
     have a:Hd (M=⟨false,p,(n,j+1)::r,A⟩):=by show _=_;rw[J.o,if_pos (Or.inr (Or.inr af))]
     have q:=hd (H.o.grow x);have v:=hd (t.o.trans (Eb.of_ext x));clear x af;go_wp2;go_ret;rw[a.o];exact⟨v.o,rfl,q.o⟩
structure Pi(cs:List Dt)(names:At)(l:List UInt8)(M:HM):Prop where
 way:∀y∈M.way,y.1.goals≠[]/\y.2<=cs.length/\y.1.vals.length=names.length
 le:M.at'<=l.length
 cnt:M.ans.length+M.way.length<=M.at'
theorem M7{names:At}{l:Lu}{n:ND}{way:Ln}{A:List (Lu)}(h:Pi cs names l ⟨true,p,way,A⟩)(hn:n.vals.length=names.length):Pi cs names l (Cm names l n p way A)/\((Cm names l n p way A).ok=true->p<(Cm names l n p way A).at'):=by
 obtain⟨a,b,c⟩:=h;simp only at a b c;unfold Cm;split
 ·split
  ·rename_i d;have:=(Qa.1 d).1;exact⟨⟨a,this,by simp only[Qg,Qn];omega⟩,fun _=>Nat.lt_succ_self _⟩
  ·exact⟨⟨a,b,c⟩,fun e=>by simp at e⟩
 ·rename_i g;split
  ·rename_i d;have:=(Qa.1 d).1;refine⟨⟨fun y f=> ?_,this,by simp only[Qf];omega⟩,fun _=>Nat.lt_succ_self _⟩;rcases Qp.1 f with rfl|f
   ·exact⟨g,Qm _,hn⟩
   ·exact a y f
  ·exact⟨⟨a,b,c⟩,fun e=>by simp at e⟩
theorem Xq{names:At}{l:Lu}{n:ND}{A:List (Lu)}(h:Pi cs names l ⟨true,p,(n,k)::r,A⟩):Pi cs names l (La cs names l n k p r A)/\((La cs names l n k p r A).ok=true->p<(La cs names l n k p r A).at'):=by
 obtain⟨g,i,s⟩:=h;simp only[Qf]at g i s;have o:=g (n,k) Ys;have v:∀y∈r,y.1.goals≠[]/\y.2<=cs.length/\y.1.vals.length=names.length:=fun y b=>g y (by simp[b]);have m:∀q,q<=cs.length->∀y∈(n,q)::r,y.1.goals≠[]/\y.2<=cs.length/\y.1.vals.length=names.length:=fun q x y b=>by
  rcases Qp.1 b with rfl|b
  ·exact⟨o.1,x,o.2.2⟩
  ·exact v y b
 unfold La
 cases t:Ea cs n (cs.length-k) k with
 |none=>
  simp only;split
  ·rename_i a;have:=(Qa.1 a).1;exact⟨⟨v,this,by simp only;omega⟩,fun _=>Nat.lt_succ_self _⟩
  ·exact⟨⟨m _ (Qe _),i,by simp only[Qf];omega⟩,fun e=>by simp at e⟩
 |some D=>
  obtain⟨j,c⟩:=D;obtain⟨a,_⟩:=OJ t;have u:=(Qa.1 a).1;simp only;split
  ·exact⟨⟨m _ u,i,by simp only[Qf];omega⟩,fun e=>by simp at e⟩
  ·rename_i B;have z:=Ci (l.drop p);rw[List.length_drop]at z;have w:(Ax n c j).2=1\/(Ax n c j).2=2:=by
    have h0:(Ax n c j).2≠0:=by
     have:∀{f k:Nat},Ea cs n f k=some (j,c)->(Ax n c j).2≠0:=by
      intro f
      induction f with
      |zero=>intro k h;simp[Ea]at h
      |succ f C=>
       intro k h;rw[Ea]at h
       cases a:cs[k]? with
       |none=>rw[a]at h;simp at h
       |some d=>
        rw[a]at h;simp only at h;split at h
        ·exact C h
        ·simp at h;obtain⟨rfl,rfl⟩:=h;assumption
     exact this t
    have s:(Ax n c j).2≠3:=fun h=>B (Or.inl h);have:=FD n c j;omega
   have:=M7 (cs:=cs) (names:=names) (l:=l) (n:=(Ax n c j).1) (p:=p+(As (l.drop p)).2) (way:=(n,j+1)::r) (A:=A) ⟨m _ u,by simp only;omega,by simp only[Qf];omega⟩ (by rw[Gy w];exact o.2.2);exact⟨this.1,fun e=>by have:=this.2 e;omega⟩
def KD(w0 w:World)(R:HN)(e:Ending)(w':World):Prop:=Eb w w'/\Ao w0 w'/\
 ((R.wrong=true/\e= .returned (.tuple #[.slice none 0 0,.agg #[.int .i64 7,.int .i64 R.at']]))\/(R.wrong=false/\∃va vc,e= .returned (.tuple #[.slice va R.ans.length vc,.agg #[.int .i64 0,.int .i64 0]])/\w'.ownsRow w0.heap.size 9 1 (.slice va R.ans.length vc) R.ans.length (Ba R.ans)))
theorem Km(c w:World)(b:Nat)(ca:Oa)(cc:Nat)(nv:Value)(s:ByteArray)(cs:Lc)(names:At)(af ax av aw:Value)(n:ND)(i:HN)(T:XU c ca cc nv cs names)(h:FR c w b (.slice ca cs.length cc) nv s 0 [] [])(hn:C3 w af ax av aw n)(U:n.vals.length=names.length)(aq:s.size<=20000)(O:JS cs names s.data.toList (Cm names s.data.toList n 0 [] []) i):
  Calls prog 82 #[Pt b,.agg #[af,ax,av,aw]] w (KD c w i):=by
 obtain⟨bd,be,bk,bm,bl,bh,bj,bi,u,rfl,rfl,rfl,rfl,bt⟩:=hn.shape;obtain⟨bn,hz⟩:=Ex n.goals.length;rw[<-hz]at hn⊢;obtain⟨G,z⟩:=Ex ((w.alloc (.cells #[.slice bd bn be,.slice bk bm bl,.slice bh bj bi,Vi u] 87)).alloc (.cells #[Vi 0,Vi 0] 91));have x:Ao w G:=by rw[z];exact Mxt
 have ak:G.heap[w.hz+1]?=some (.cells #[Vi 0,Vi 0] 91 (0,0)):=by rw[z];exact CU Ys _
 have ar:s.data.toList.length=s.size:=Ys
 have C:=hd (T.enter (h.grow x) (hn.ext x) U aq (Qm _) Ys Ys);have ap:=M7 (cs:=cs) (names:=names) (l:=s.data.toList) (n:=n) (p:=0) (way:=[]) (A:=[]) ⟨fun y bg=>by simp at bg,Qm _,Ys⟩ U;have ab:=hd ap.1;obtain⟨M,ai⟩:=Ex (Cm names s.data.toList n 0 [] []);rw[<-ai]at C O ab;have a2:=hd O;have a7:=hd T;have X:=hd x;have a4:=hd ak;have a3:=hd z;have ad:=hd ar;have br:c.hz<=w.hz:=by
  obtain⟨_,_,_,_,h⟩:=h;exact h.ext.size
 clear h hn T O x ak z ar ap ai hz U;go_enter func82,ntmps82;go_wp2_with fail;rw[<-a3.o];apply C.o.mono;rintro e w1 ⟨ag,rfl,K⟩;have ay:=hd K;have a0:=hd ag;clear K ag C;go_wp2
 go_loopg [6] (s.size+2) (fun gk bf wr=>∃M:HM,bf= .bool M.ok/\JS cs names s.data.toList M i/\Pi cs names s.data.toList M/\(if M.ok then s.size-M.at'+1 else 0)<gk/\FR c wr b (.slice ca cs.length cc) nv s M.at' M.way M.ans/\Eb G wr)
 case atStart=>exact⟨M,rfl,a2.o,ab.o,by split<;>omega,ay.o,a0.o⟩
 case round=>
  obtain⟨⟨ok,p,way,A⟩,rfl,d,a,j,⟨wa,wc,aa,ac,t⟩,L⟩:=hrel;simp only at d a j t;have R:=a.le;have Q:=a.cnt;rw[ad.o]at R;simp only at R Q;have P:=t.box;obtain⟨a9,b1,b2,ba,ae,bb,bc⟩:=IE P;have bo:=Ab P;have B:=L _ _ _ _ a4.o (by simp[H1]);obtain⟨H,I,J⟩:=Gu B;have bp:=Ab B;have f:=hd t;have D:=hd L;have a5:=hd B;clear t L B P
  cases ok with
  |false=>
   obtain⟨au,ha⟩:=d.2 rfl;simp only at ha;have F:Hd (∀w2,Ad (only (w.hz+1)) wr w2->KD c w i (Rq #[Nl,.agg #[Vi 7,Vi p]]) w2):=fun w2 g=>by
    refine⟨((Eb.of_ext X.o).trans D.o).put g Yo,C6 f.o.ext g Yo,Or.inl ⟨au,by rw[ha]⟩⟩
   clear d a j au ha;go_wp2_with fail;go_region
   all_goals
    go_wp2;refine bodyPost_ret (v:= .tuple #[Nl,.agg #[Vi 7,Vi p]]) (by simp[results,results82,go_sem,H,I,J]) rfl ?_;exact F.o _ Mkt
  |true=>
   cases way with
   |nil=>
    have m:=Wi (d.1 rfl);simp only at m;have F:Hd (∀w2,Ad (only (w.hz+1)) wr w2->KD c w i (Rq #[.slice aa A.length ac,.agg #[Vi 0,Vi 0]]) w2):=fun w2 g=>by
     refine⟨((Eb.of_ext X.o).trans D.o).put g Yo,C6 f.o.ext g Yo,Or.inr ⟨by rw[m],aa,ac,by rw[m],?_⟩⟩;rw[m];exact Aj f.o.ans (fun k ao=>g.block k (f.o.ans.lt k ao).2 (D1 f.o.ans a5.o Yd k ao))
    clear d a j m;go_wp2;refine bodyPost_ret (v:= .tuple #[.slice aa A.length ac,.agg #[Vi 0,Vi 0]]) (by simp[results,results82,go_sem,H,I,J]) rfl ?_;exact F.o _ Mkt
   |cons y r=>
    obtain⟨W,V⟩:=y;obtain⟨al,am,an⟩:=a.way (W,V) Ys;have E:=hd (U0 c wr b ca cc nv s p W V r A cs names a7.o ⟨_,_,_,_,f.o⟩ al an am aq R Yo (by simp only[Qf]at Q;omega));have Y:=hd (S6 (d.1 rfl));obtain⟨N,S⟩:=Xq a;obtain⟨a8,aj⟩:=Ex (La cs names s.data.toList W V p r A);rw[<-aj]at E Y N S;have Z:=hd N;have a6:=hd S;simp only[Qf]at ae Q;have bs:(0:Int)<(r.length:Int)+1:=Yo
    have bq:s.size-p+1<gk:=by simpa using j
    clear d a j al am an N S aj;go_wp2_with fail;apply E.o.mono;rintro e w2 ⟨ah,rfl,q⟩;have az:=hd q;have a1:=hd (D.o.trans ah);clear q ah E a9 b1 b2 ba ae bb bc H I J;go_wp2
    go_roundg (s.size-p+1)
    case measure=>omega
    case rel=>
     refine⟨a8,rfl,Y.o,Z.o,?_,az.o,a1.o⟩;split
     ·rename_i e;have K:=a6.o e;have q:=Z.o.le;rw[ad.o]at q;omega
     ·omega
def IH(p q t:ByteArray)(w:World)(e:Ending)(w':World):Prop:=Ao w w'/\∃va vc,e= .returned (.tuple #[.slice va (CI p q t).1.length vc,.agg #[.int .i64 (CI p q t).2.1,.int .i64 (CI p q t).2.2]])/\w'.ownsRow w.heap.size 9 1 (.slice va (CI p q t).1.length vc) (CI p q t).1.length (Ba (CI p q t).1)
theorem Jr{p q t:ByteArray}{a b:Nat}(h:CI p q t=([],a,b))(c:Ao w w'):IH p q t w (Rq #[Nl,.agg #[Vi a,Vi b]]) w':=by
 refine⟨c,none,0,?_,?_⟩
 ·rw[h];rfl
 ·rw[h];exact Q2 _ _ _ _
theorem PI(p q t:ByteArray)(w:World)(br:p.size<=maxLen)(bs:q.size<=maxLen)(ck:t.size<=maxLen):Calls prog 60 #[.string p,.string q,.string t] w (IH p q t w):=by
 obtain⟨U,P⟩:=Ex (w.alloc (.cells #[Vi 0,Vi 0] 91));have a4:=hd (JF p q U br bs);have bd:Ao w U:=by rw[P];exact Mxt
 have bm:U.heap[w.hz]?=some (.cells #[Vi 0,Vi 0] 91 (0,0)):=by rw[P];exact QL w _
 have co:U.hz=w.hz+1:=by rw[P];simp
 have bx:=hd P;have a5:=hd bd;have b2:=hd bm;unfold maxLen at ck;clear br bs P bd bm;go_enter func60,ntmps60;go_wp2_with fail;rw[<-bx.o];apply a4.o.mono;rintro e w1 ⟨aa,ca⟩;have cp:=aa.size;have aj:=(aa.block _ Yo).trans b2.o;obtain⟨m,n,r⟩:=Gu aj;have Q:=Ab aj;have G:=hd (a5.o.trans (aa.mono a5.o.size));have ba:=hd aj;clear aa aj a4;have aq:Hd (∀w2 au D,CI p q t=([],au,D)->Ad (only w.hz) w1 w2->IH p q t w (Rq #[Nl,.agg #[Vi (au:Nat),Vi (D:Nat)]]) w2):=fun w2 au D ha z=>Jr ha (C6 G.o z (Qe _));rcases ca with⟨R,rfl⟩|⟨⟨cs,c⟩,R,rfl⟩|⟨cs,a,M,lc,xs,X,Y,Z,b1,W,y,nc,c,x,rfl,ag,ah,K⟩
 ·have g:Hd (CI p q t=([],4,0)):=by show _=_;simp[CI,R]
  clear R;go_wp2;refine bodyPost_ret (v:= .tuple #[Nl,.agg #[Vi 4,Vi 0]]) (by simp[results,results60,go_sem,m,n,r,Q]) rfl ?_;exact aq.o _ 4 0 g.o Mkt
 ·have g:Hd (CI p q t=([],5,0)):=by show _=_;simp[CI,R,c]
  clear R c;go_wp2;refine bodyPost_ret (v:= .tuple #[Nl,.agg #[Vi 5,Vi 0]]) (by simp[results,results60,go_sem,m,n,r,Q]) rfl ?_;exact aq.o _ 5 0 g.o Mkt
 ·by_cases L:20000<t.size
  ·have g:Hd (CI p q t=([],1,0)):=by show _=_;simp[CI,c,x,L]
   have cl:(20000:Int)<(t.size:Int):=Yo
   clear ag ah K c x L;go_wp2;refine bodyPost_ret (v:= .tuple #[Nl,.agg #[Vi 1,Vi 0]]) (by simp[results,results60,go_sem,m,n,r,Q]) rfl ?_;exact aq.o _ 1 0 g.o Mkt
  ·have cl:¬(20000:Int)<(t.size:Int):=Yo
   obtain⟨V,J⟩:=Ex (w1.alloc (.cells #[.slice X Y Z,.slice b1 a.1.length W,.slice y a.2.length nc] 107));have I:Ao w1 V:=by rw[J];exact Mxt
   have a0:V.heap[w1.hz]?=some (.cells #[.slice X Y Z,.slice b1 a.1.length W,.slice y a.2.length nc] 107 (0,0)):=by rw[J];exact QL w1 _
   have cq:V.hz=w1.hz+1:=by rw[J];simp
   have f:=hd (Mq t V Yo);have a9:=hd J
   cases C:DL t.data.toList with
   |some D=>
    have g:Hd (CI p q t=([],6,D)):=by show _=_;simp[CI,c,x,L,C]
    unfold Ns at f;rw[C]at f;simp only at f;have N:=hd I;have bn:=(I.block _ Q).trans ba.o;have ap:=hd bn;clear ag ah K c x L C I a0 J bn;go_wp2_with fail;rw[<-a9.o];apply f.o.mono;rintro e w3 ⟨s,rfl⟩;have cj:=s.size;have az:=(s.block _ Yo).trans ap.o;have T:=hd (N.o.trans (s.mono N.o.size));clear s f m n r;obtain⟨m,n,r⟩:=Gu az;have O:Hd (∀w4,Ad (only w.hz) w3 w4->IH p q t w (Rq #[Nl,.agg #[Vi 6,Vi D]]) w4):=fun w4 z=>Jr g.o (C6 (G.o.trans (T.o.mono G.o.size)) z (Qe _));have ch:=Ab az;clear az;go_wp2_with fail;go_region
    all_goals
     go_wp2;refine bodyPost_ret (v:= .tuple #[Nl,.agg #[Vi 6,Vi D]]) (by simp[results,results60,go_sem,m,n,r,ch]) rfl ?_;exact O.o _ Mkt
   |none=>
    obtain⟨l,ax⟩:=Ex (Hy cs a t.data.toList);have aw:=Uu cs a C;rw[<-ax]at aw;have g:Hd (CI p q t=if l.wrong=true then([],7,l.at')else(l.ans,0,0)):=by show _=_;simp[CI,c,x,L,C,ax]
    unfold Ns at f;rw[C]at f;simp only at f;obtain⟨_,_,_,bp,cg⟩:=CA c;obtain⟨_,_,_,af,bi,cd,ce,bj,bl⟩:=Cs x;have bk:=JD x;have bg:=N0 x;have bh:XU w1 M lc (.slice y a.2.length nc) cs a.2:=⟨⟨xs,ag⟩,bp,LX c,cg,K,bk,bl⟩;have a8:Hd (∀u,Ao w1 u->Calls prog 51 #[.agg #[.slice X Y Z,.slice b1 a.1.length W,.slice y a.2.length nc]] u _):=fun u bt=>Lj u (.slice X Y Z) (.slice b1 a.1.length W) (.slice y a.2.length nc) a.1 a.2 ⟨_,_,_,rfl⟩ (ah.ext bt) (Aj K (fun j am=>bt.block j (K.lt j am).2)) Yo Yo (US af bj);have bc:Hd (∀u A B E vc b,FR w1 u b (.slice M cs.length lc) (.slice y a.2.length nc) t 0 [] []->AF u (.slice A a.1.length B) a.1->AF u (.slice E a.2.length vc) ((List.range a.2.length).map vr)->Calls prog 82 #[Pt b,.agg #[.slice A a.1.length B,.slice E a.2.length vc,Nl,Vi a.2.length]] u (KD w1 u l)):=fun u A B E vc b cc al ao=>by
     have cb:C3 u (.slice A a.1.length B) (.slice E a.2.length vc) Nl (Vi a.2.length) (AN a):=by
      refine⟨AN a,⟨?_,ao,⟨[],AK.nil _ _⟩⟩,rfl,af,bi,bg,Co.refl af⟩;have:(AN a).goals.map (·.1)=a.1:=by unfold AN;rw[QK];exact(List.map_congr_left (fun _ _=>rfl)).trans (List.map_id _)
      rw[this];exact al
     exact Km w1 u b M lc _ t cs a.2 _ _ _ _ (AN a) l bh cc cb (by simp[AN]) Yo aw
    have N:=hd I;have ap:=hd ((I.block _ Q).trans ba.o);have b6:=hd a0;clear ag ah K c x L C I a0 J bp af bi cd ce bj bk bl bg bh aw ax;go_wp2_with fail;rw[<-a9.o];apply f.o.mono;rintro e w3 ⟨s,rfl⟩;have cj:=s.size;have b3:=hd ((s.block _ Yo).trans ap.o);have a1:=(s.block _ Yo).trans b6.o;have T:=hd (N.o.trans (s.mono N.o.size));obtain⟨H,ai⟩:=Ex ((w3.alloc (.cells #[Vi 0,Vi 0] 91)).alloc (.cells #[.slice M cs.length lc,.slice y a.2.length nc,.string t,Vi 0,Nl,Nl] 142));have ac:Ao w3 H:=by rw[ai];exact Mxt
    have bo:H.heap[w3.hz+1]?=some (.cells #[.slice M cs.length lc,.slice y a.2.length nc,.string t,Vi 0,Nl,Nl] 142 (0,0)):=by rw[ai];exact heap_alloc2_new w3 _ _
    have ab:Ao w1 H:=T.o.trans (ac.mono T.o.size);have bw:Hd (FR w1 H (w3.hz+1) (.slice M cs.length lc) (.slice y a.2.length nc) t 0 [] []):=⟨none,0,none,0,ab,Yo,bo,⟨[],⟨Q2 _ _ _ _,fun i d h=>by simp at h⟩⟩,Q2 _ _ _ _⟩;obtain⟨b7,b8,b9,cf⟩:=F1 a1;have cn:=Ab a1;have a7:=hd (a8.o H ab);have bb:=hd ((ac.block _ Yo).trans b3.o);have cm:=hd ab;have bz:=hd ai;have cr:=ac.size;clear s f m n r a1 ac bo ab ai a8;go_wp2_with fail;rw[<-bz.o];apply a7.o.mono;rintro e bu ⟨ad,A,B,E,vc,rfl,al,ao⟩;have ct:=ad.size;obtain⟨ar,ay⟩:=Ex (bu.alloc (.cells #[.slice A a.1.length B,.slice E a.2.length vc,Nl,Vi a.2.length] 87));have ae:Ao bu ar:=by rw[ay];exact Mxt
    have av:Ao H ar:=ad.trans (ae.mono ad.size);have a3:=hd (bc.o ar A B E vc (w3.hz+1) (bw.o.grow av) (al.ext ae) (ao.ext ae));have b4:=hd ((av.block _ (Ab bb.o)).trans bb.o);have b0:=hd ay;clear ad al ao ae av ay bc a7 b7 b8 b9 cf;go_wp2_with fail;rw[<-b0.o];apply a3.o.mono;rintro e bv ⟨bf,be,ci⟩;have ak:=bf _ _ _ _ b4.o (by simp[H1]);obtain⟨m,n,r⟩:=Gu ak;have bq:=Ab ak;have a6:=hd (G.o.trans (be.mono G.o.size));have b5:=hd ak;clear bf be ak a3;rcases ci with⟨S,rfl⟩|⟨S,va,a2,rfl,an⟩
    ·have O:Hd (∀F,Ad (only w.hz) bv F->IH p q t w (Rq #[Nl,.agg #[Vi 7,Vi l.at']]) F):=fun F z=>Jr (by rw[g.o,if_pos S]) (C6 a6.o z (Qe _));clear S;go_wp2;refine bodyPost_ret (v:= .tuple #[Nl,.agg #[Vi 7,Vi l.at']]) (by simp[results,results60,go_sem,m,n,r,bq]) rfl ?_;exact O.o _ Mkt
    ·have O:Hd (∀F,Ad (only w.hz) bv F->IH p q t w (Rq #[.slice va l.ans.length a2,.agg #[Vi 0,Vi 0]]) F):=fun F z=>by
      have e:CI p q t=(l.ans,0,0):=by rw[g.o,if_neg (by rw[S];simp)]
      refine⟨C6 a6.o z (Qe _),va,a2,by rw[e];rfl,?_⟩;rw[e];exact AI (Aj an (fun k am=>z.block k (an.lt k am).2 (D1 an b5.o Yd k am))) G.o.size
     clear S an;go_wp2;refine bodyPost_ret (v:= .tuple #[.slice va l.ans.length a2,.agg #[Vi 0,Vi 0]]) (by simp[results,results60,go_sem,m,n,r,bq]) rfl ?_;exact O.o _ Mkt
theorem WR(p q t:ByteArray):((CI p q t).2.1≠0->(CI p q t).1=[])/\((CI p q t).2.1=0->(CI p q t).2.2=0):=by
 unfold CI;split
 ·exact⟨fun _=>rfl,fun h=>by simp at h⟩
 ·split
  ·exact⟨fun _=>rfl,fun h=>by simp at h⟩
  ·split
   ·exact⟨fun _=>rfl,fun h=>by simp at h⟩
   ·split
    ·exact⟨fun _=>rfl,fun h=>by simp at h⟩
    ·split
     ·exact⟨fun _=>rfl,fun h=>by simp at h⟩
     ·exact⟨fun h=>absurd rfl h,fun _=>rfl⟩
theorem Wl(p q t:ByteArray)(w:World)(s:p.size<=maxLen)(u:q.size<=maxLen)(x:t.size<=maxLen):Calls prog 36 #[.string p,.string q,.string t] w (HG p q t w):=by
 have a:=hd (PI p q t w s u x);unfold IH at a;obtain⟨b,c⟩:=WR p q t;obtain⟨X,j⟩:=Ex (CI p q t);rw[<-j]at a b c;have f:=hd j;clear s u x j;obtain⟨A,h,B⟩:=X;simp only at a b c;go_enter func36,ntmps36;go_wp2_with fail;apply a.o.mono;rintro e w1 ⟨i,va,vc,rfl,r⟩;have v:=i.size;have l:=hd i;have m:=hd r;clear i r a
 by_cases d:h=0
 ·obtain rfl:=c d;subst d;have g:Hd (∀o,HG p q t w (Rq #[.slice va A.length vc,Vi 0,Vi 0]) (w1.alloc o)):=fun o=>by
   have n:Ao w1 (w1.alloc o):=Mxt;refine⟨l.o.trans (n.mono v),va,vc,by rw[<-f.o];rfl,?_⟩;rw[<-f.o];exact Aj m.o (fun k z=>n.block k (m.o.lt k z).2)
  clear b c;go_wp2;go_ret3;exact g.o _
 ·have hb:((h:Int) !=0)=true:=by rw[bne_iff_ne];omega
  obtain rfl:=b d;have g:Hd (∀w2,Ao w1 w2->HG p q t w (Rq #[Nl,Vi h,Vi B]) w2):=fun w2 y=>Fz f.o.symm (l.o.trans (y.mono v));clear b c d;go_wp2_with fail;go_quiet (fail);go_wp2;go_ret3;exact g.o _ Mxt
theorem XA{names:At}{l:Lu}{n:ND}{A:List (Lu)}{a:HN}(h:EF cs names l n p A a):A.length<=p->a.ans.length<=a.at'/\(a.wrong=false->a.at'<=l.length):=by
 refine EF.ind (P:=fun n p A a=>A.length<=p->a.ans.length<=a.at'/\(a.wrong=false->a.at'<=l.length)) ?_ ?_ ?_ ?_ h
 ·intro n p A e _ b;have:=(Qa.1 e).1;exact⟨by simp;omega,fun _=>this⟩
 ·intro n p A e _ b;exact⟨b,fun h=>by simp at h⟩
 ·intro n p A e _ b;exact⟨b,fun h=>by simp at h⟩
 ·intro n p A a e _ j b;have o:∀(f k p:Nat)(A:List (Lu))(a:HN),Ja (fun n p A a=>A.length<=p->a.ans.length<=a.at'/\(a.wrong=false->a.at'<=l.length)) cs l n f k p A a->A.length<=p->a.ans.length<=a.at'/\(a.wrong=false->a.at'<=l.length):=by
   intro f
   induction f with
   |zero=>
    intro k p A a h b;rcases h with⟨d,rfl⟩|⟨c,d,_,rfl⟩
    ·have:=(Qa.1 d).1;exact⟨by simp only;omega,fun _=>this⟩
    ·exact⟨b,fun h=>by simp at h⟩
   |succ f g=>
    intro k p A a h b;obtain⟨c,_,⟨_,d⟩|⟨_,_,rfl⟩|⟨_,_,_,q,d,⟨m,rfl⟩|⟨m,i⟩⟩⟩:=h
    ·exact g _ _ _ _ d b
    ·exact⟨b,fun h=>by simp at h⟩
    ·exact d Yo
    ·exact g _ _ _ _ i (d Yo).1
  exact o _ _ _ _ _ j Yo
theorem V2(p q t:ByteArray):(CI p q t).1.length<=20000:=by
 unfold CI;split
 ·simp
 ·rename_i cs _;split
  ·simp
  ·rename_i a _;split
   ·simp
   ·rename_i g;split
    ·simp
    ·rename_i c;split
     ·simp
     ·rename_i d;have b:=XA (KU cs a c) Ys;have e:=b.2 (by simpa using d);have f:t.data.toList.length=t.size:=rfl;simp only;omega
theorem WC{j:Value}{ls:List (Value×Nat)}{f:Oa}{g:Nat}{c:Oa}{d B':Nat}(h:Cf w B bW j ls f g c d)(i:w.ownsRow B' 9 1 lv n xs):
  ∀k,Lw bW (.slice f ls.length g) (.slice c ls.length d) lv k->∃cl t fr,w.heap[k]?=some (.cells cl t fr)/\t≠78/\(t=9->Ak lv k):=fun k a=>by
 rcases a with rfl|a|a|a
 ·exact⟨_,_,_,h.box,Yd,fun e=>absurd e Yd⟩
 ·obtain⟨cl,fr,b⟩:=own_ty h.lrow k a;exact⟨_,_,_,b,Yd,fun e=>absurd e Yd⟩
 ·obtain⟨cl,fr,b⟩:=own_ty h.krow k a;exact⟨_,_,_,b,Yd,fun e=>absurd e Yd⟩
 ·obtain⟨cl,fr,b⟩:=own_ty i k a;exact⟨_,_,_,b,Yd,fun _=>a⟩
theorem WM{i:Value}{ls:List (Value×Nat)}{d:Oa}{e:Nat}{b:Oa}{c:Nat}(h:Cf w B bW i ls d e b c)(f:B<=bW)(g:w.ownsRow B 9 1 lv n xs):
  ∀k,Lw bW (.slice d ls.length e) (.slice b ls.length c) lv k->B<=k:=fun k a=>by
 rcases a with rfl|a|a|a
 ·exact f
 ·exact(h.lrow.lt k a).1
 ·exact(h.krow.lt k a).1
 ·exact(g.lt k a).1
def To(w:World)(B bW:Nat)(v0:Value)(N:Nat)(sv kv:Value)(e:Ending)(w':World):Prop:=
 e= .returned (.bool true)/\Below B w w'/\∃ls' sa sc ka kc,ls'.length=N/\Cf w' B bW v0 ls' sa sc ka kc/\UQ w w' bW sv kv (.slice sa ls'.length sc) (.slice ka ls'.length kc)
structure Jv(w wr:World)(B bW b0:Nat)(sv kv v0 s0 s1 s2 s3 s4 s5:Value)(va:Option Addr)(vc:Nat)(A:List (List UInt8))(N:Nat)(ls:List (Value×Nat))(sa:Option Addr)(sc:Nat)(ka:Option Addr)(kc:Nat):Prop where
 bel:Below B w wr
 len:ls.length=N
 box:wr.heap[b0]?=some (.cells #[s0,s1,s2,s3,s4,s5] 78 (0,0))
 lists:Cf wr B bW v0 ls sa sc ka kc
 want:wr.ownsRow 0 9 1 (.slice va A.length vc) A.length (Ba A)
 grew:UQ w wr bW sv kv (.slice sa ls.length sc) (.slice ka ls.length kc)
theorem Jv.own{w3:World}{o:Nat}{F u n v x s2 y z C:Value}{va:Oa}{vc:Nat}{A:List (Lu)}{N:Nat}{ls:List (Value×Nat)}{D:Oa}{E:Nat}{r:Oa}{s:Nat}(h:Jv w wr B bW o F u n v x s2 y z C va vc A N ls D E r s)(I:B<=bW)(d:Ao wr w2)
  {la:Oa} {lc:Nat} (g:w2.ownsRow wr.hz 9 1 (.slice la A.length lc) A.length (Ba A)) {e:Ending} (K:VA w2 B bW n (ls.length+4) (.slice D ls.length E) (.slice r ls.length s) (.slice la A.length lc) e w3):
  e=Rq #[]/\∃m sa' sc' ka' kc',Jv w w3 B bW o F u n v x s2 y z C va vc A (N+4) m sa' sc' ka' kc':=by
 obtain⟨rfl,f,m,sa',sc',ka',kc',hl,J,O,M⟩:=K;have T:=Ab h.lists.box;have p:=h.lists.ext d;have q:=WC p g;have L:=WM p I (AI g Yo);have U:=d.size;have V:=h.grew.kept.size;refine⟨rfl,m,sa',sc',ka',kc',?_,by rw[hl,h.len],?_,J,?_,(h.grew.kept.trans (H4 d)).then f (fun k b a=> ?_),fun k b c=>h.grew.so k b (O k Yo c),fun k b c=>h.grew.ko k b (M k Yo c)⟩
 ·exact(h.bel.trans (d.mono Yo)).trans (f.below Yo L)
 ·have j:=(d.block _ (Ab h.box)).trans h.box;refine(f.block _ (Ab j) (fun a=> ?_)).trans j;obtain⟨cl,t,fr,c,i,_⟩:=q _ a;rw[j]at c;simp at c;exact i c.2.1.symm
 ·have l:=Aj h.want (fun k b=>d.block k (h.want.lt k b).2);refine Aj l (fun k b=>f.block k (l.lt k b).2 (fun a=> ?_));obtain⟨cl,t,fr,c,_,i⟩:=q _ a;obtain⟨P,Q,G⟩:=own_ty l k b;rw[G]at c;simp at c;have H:=i c.2.1.symm;have R:=(g.lt k H).1;have S:=(h.want.lt k b).2;omega
 ·rcases a with a|a|a|a
  ·exact Or.inl a
  ·exact Or.inr (Or.inl (h.grew.so k b a))
  ·exact Or.inr (Or.inr (h.grew.ko k b a))
  ·have:=(g.lt k a).1;omega
theorem WK(w:World)(B d:Nat)(F:Value)(ls:List (Value×Nat))(v:Oa)(z:Nat)(l:Oa)(r:Nat)(h:Cf w B d F ls v z l r)(Y:B<=d)(a7:ls.length<=9000000)(kd n m:Int)(p q x:ByteArray)(R:p.size<=maxLen)(S:q.size<=maxLen)(U:x.size<=maxLen)(Z:Hi B w):
  Calls prog 64 #[Pt d,.agg #[Vi kd,Vi n,Vi m,.string p,.string q,.string x]] w (To w B d F (ls.length+8) (.slice v ls.length z) (.slice l ls.length r)):=by
 have G:=hd (fun u=>RK p q x u R S U);have M:=hd (fun u=>Wl p q x u R S U);unfold HG at G M;have Q:=V2 p q x;obtain⟨X,aa⟩:=Ex (CI p q x);simp only[<-aa]at G M Q;clear aa;obtain⟨A,a2,ba⟩:=X;simp only at G M Q;have a4:=Ab h.box;have ai:=hd h;have ag:=hd Z;clear h R S U Z;go_enter func64,ntmps64;go_wp2_with fail;apply(G.o _).mono;rintro e w1 ⟨I,va,vc,rfl,ab⟩;have H:Ao w (w.alloc (.cells #[Vi kd,Vi n,Vi m,.string p,.string q,.string x] 78)):=Mxt;have b:Hd (Jv w w1 B d w.hz (.slice v ls.length z) (.slice l ls.length r) F (Vi kd) (Vi n) (Vi m) (.string p) (.string q) (.string x) va vc A (ls.length+4*0) ls v z l r):=
  ⟨(H.mono Yo).trans (I.mono (by have:=H.size;omega)),rfl,(I.block _ Ys).trans (QL w _),(ai.o.ext H).ext I,AI ab (Qm _),(H4 H).trans (H4 I),fun _ _ h=>h,fun _ _ h=>h⟩
 clear H I ab G;go_wp2
 go_loopw [8] (fun i wr=>∃(t:Nat)(E:List (Value×Nat))(sa':Oa)(sc':Nat)(ka':Oa)(kc':Nat),t<=2/\i=Vi t/\Jv w wr B d w.hz (.slice v ls.length z) (.slice l ls.length r) F (Vi kd) (Vi n) (Vi m) (.string p) (.string q) (.string x) va vc A (ls.length+4*t) E sa' sc' ka' kc') (fun i _=>2-(intOf i).toNat)
 case atStart=>exact⟨0,ls,v,z,l,r,Yo,rfl,b.o⟩
 case round=>
  clear b;obtain⟨t,E,sa',sc',ka',kc',a9,rfl,f⟩:=hrel;have b:=hd f;have aj:wr.cell? ⟨w.hz,3,none⟩=some (.string p):=Aa f.box 3 _ rfl;have ak:wr.cell? ⟨w.hz,4,none⟩=some (.string q):=Aa f.box 4 _ rfl;have al:wr.cell? ⟨w.hz,5,none⟩=some (.string x):=Aa f.box 5 _ rfl;have a3:=Ab f.box;have ao:=f.len;clear f
  by_cases a8:t<2
  ·go_wp2_with fail;apply(M.o _).mono;rintro e w2 ⟨O,la,lc,rfl,J⟩;have ac:=O.size;have af:Hd (∀u,Ao w2 u->Calls prog 94 #[Pt d,.slice la A.length lc] u fun e w3=>e=Rq #[]/\∃E sa' sc' ka' kc',Jv w w3 B d w.hz (.slice v ls.length z) (.slice l ls.length r) F (Vi kd) (Vi n) (Vi m) (.string p) (.string q) (.string x) va vc A (ls.length+4*t+4) E sa' sc' ka' kc'):=fun u L=>by
    have c:Ao wr u:=O.trans (L.mono ac);have K:u.ownsRow wr.hz 9 1 (.slice la A.length lc) A.length (Ba A):=Aj J (fun k j=>L.block k (J.lt k j).2);refine(Xe u B d F E sa' sc' ka' kc' (b.o.lists.ext c) Y Yo la A.length lc (Ba A) (AI K Yo) Q (fun y aq k j an=>by
     have V:=(b.o.lists.all y aq).1.lt j;have W:=(K.lt k an).1;omega) B (Lib.TabBelow.on ag.o (b.o.bel.trans (c.mono Yo)))).mono ?_
    exact fun e w3 D=>b.o.own Y c K D
   have ah:Hd (∀u,Ao w2 u->∀s,s<A.length->∃g C a,la=some ⟨g,0,none⟩/\va=some ⟨C,0,none⟩/\g<u.hz/\C<u.hz/\u.cell? ⟨g,s,none⟩=some (.string a)/\u.cell? ⟨C,s,none⟩=some (.string a)):=fun u L s T=>by
    have c:Ao wr u:=O.trans (L.mono ac);have K:u.ownsRow wr.hz 9 1 (.slice la A.length lc) A.length (Ba A):=Aj J (fun k j=>L.block k (J.lt k j).2);obtain⟨g,y,V,W,D,N,_⟩:=Ie K T;obtain⟨C,bb,ar,au,ad,av,_⟩:=Ie (Aj b.o.want (fun k j=>c.block k (b.o.want.lt k j).2)) T;rw[D]at ad
    cases ad
    have am:∃a,y= .string a:=by
     unfold Ba at D;rw[Qj]at D;obtain⟨bc,_,rfl⟩:=Option.map_eq_some_iff.1 D;exact⟨_,rfl⟩
    obtain⟨a,rfl⟩:=am;exact⟨g,C,a,V,ar,W,au,N,av⟩
   clear O J aj ak al b;go_wp2
   go_loopw [12] (fun i u=>∃s:Nat,s<=A.length/\i=Vi s/\Ao w2 u) (fun i _=>A.length-(intOf i).toNat)
   case atStart=>exact⟨0,Qm _,rfl,Below.refl _ _⟩
   case round=>
    obtain⟨s,T,rfl,c⟩:=hrel;have P:=hd c
    by_cases ap:s<A.length
    ·obtain⟨g,C,a,rfl,rfl,a5,a6,cg,a1⟩:=ah.o _ c s ap;clear c;go_wp2_with fail;go_quiet (fail);go_wp2
     go_roundw
     case rel=>exact⟨s+1,Yo,Yg,P.o.trans ((Mxt).mono P.o.size)⟩
     case measure=>simp[intOf];omega
    ·clear c;go_wp2_with fail;apply(af.o _ P.o).mono;rintro e w3 ⟨rfl,ay,az,a0,aw,ax,N⟩;have ae:=hd N;clear N;go_wp2
     go_roundw
     case rel=>exact⟨t+1,ay,az,a0,aw,ax,Yo,Yg,ae.o⟩
     case measure=>simp[intOf];omega
  ·obtain rfl:t=2:=Yo
   go_wp2;go_ret;exact⟨rfl,b.o.bel,E,sa',sc',ka',kc',ao,b.o.lists,b.o.grew⟩
def Iq(n:Int):Prop:= -9223372036854775808<=n/\n<9223372036854775808
def N8(w:World)(sv:Value)(N:Nat):Prop:=∃a len cap,sv= .slice a len cap/\len<=N/\∀k,k<len->∃(b off:Nat)(kd n m:Int)(p q x:ByteArray),a=some ⟨b,off,none⟩/\b<w.heap.size/\
 w.cell? ⟨b,off+k*6,none⟩=some (.int .i64 kd)/\w.cell? ⟨b,off+k*6+1,none⟩=some (.int .i64 n)/\w.cell? ⟨b,off+k*6+2,none⟩=some (.int .i64 m)/\
 w.cell? ⟨b,off+k*6+3,none⟩=some (.string p)/\w.cell? ⟨b,off+k*6+4,none⟩=some (.string q)/\w.cell? ⟨b,off+k*6+5,none⟩=some (.string x)/\p.size<=maxLen/\q.size<=maxLen/\x.size<=maxLen/\Iq n/\Iq m
theorem Nx{i j:Value}(w:World)(B a:Nat)(b:List Ee)(la:Oa)(lc:Nat)(h:CQ w B a i j b la lc)(c:B<=a)(e:b.length<=2000000)(kd n m:Int)(p q x:ByteArray)(d:kd=3\/kd=4\/kd=5)(k:p.size<=maxLen)(l:q.size<=maxLen)(hn:Iq n)(g:Iq m):
  Calls prog 62 #[Pt a,.agg #[Vi kd,Vi n,Vi m,.string p,.string q,.string x]] w (Ei w B a i j (b.length+1)):=by
 rcases d with rfl|d
 ·exact Oi w B a b la lc h c e n m p q x k l
 ·by_cases f:b=[]
  ·subst f;exact Oq w B a la lc h c kd n m p q x Yo
  ·rcases d with rfl|rfl
   ·exact Mm w B a b la lc h c e f n m p q x hn g
   ·exact Me w B a b la lc h c e f n m p q x hn g
theorem OG{j k:Value}(w:World)(B a:Nat)(b:List Ee)(la:Oa)(lc:Nat)(h:CQ w B a j k b la lc)(t:B<=a)(u:b.length<=2000000)(kd n m:Int)(p q x:ByteArray)(d:kd=3\/kd=4\/kd=5)(g:p.size<=maxLen)(i:q.size<=maxLen)(hn:Iq n)(f:Iq m):
  Calls prog 38 #[Pt a,.agg #[Vi kd,Vi n,Vi m,.string p,.string q,.string x]] w (Ei w B a j k (b.length+1)):=by
 have v:=Ab h.box;have s:=hd (Nx (w.alloc (.cells #[Vi kd,Vi n,Vi m,.string p,.string q,.string x] 78)) B a b la lc (h.ext Mxt) t u kd n m p q x d g i hn f);have r:Hd (BF B w (w.alloc (.cells #[Vi kd,Vi n,Vi m,.string p,.string q,.string x] 78))):=FF Mxt Yo;clear h g i hn f;rcases d with rfl|rfl|rfl
 all_goals
  go_enter func38,ntmps38;go_wp2_with fail;apply s.o.mono;rintro e w1 c;have l:=hd c;obtain⟨rfl,_⟩:=c;go_wp2;go_ret;exact l.o.up r.o (Qe _)
theorem Vu(w:World)(B a:Nat)(r:Value)(ls:List (Value×Nat))(j:Oa)(l:Nat)(g:Oa)(i:Nat)(h:Cf w B a r ls j l g i)(G:B<=a)(H:ls.length<=9000000)(n m:Int)(p q x:ByteArray)(u:p.size<=maxLen)(v:q.size<=maxLen)(y:x.size<=maxLen)(t:Hi B w):
  Calls prog 38 #[Pt a,.agg #[Vi 8,Vi n,Vi m,.string p,.string q,.string x]] w (To w B a r (ls.length+8) (.slice j ls.length l) (.slice g ls.length i)):=by
 have J:=Ab h.box;have b:Ao w (w.alloc (.cells #[Vi 8,Vi n,Vi m,.string p,.string q,.string x] 78)):=Mxt;have C:=hd (WK (w.alloc (.cells #[Vi 8,Vi n,Vi m,.string p,.string q,.string x] 78)) B a r ls j l g i (h.ext b) G H 8 n m p q x u v y (t.ext Yo b));have A:Hd (Below B w (w.alloc (.cells #[Vi 8,Vi n,Vi m,.string p,.string q,.string x] 78))):=(Below.refl _ w).alloc Yo _;have c:=hd b;clear h u v y t b;go_enter func38,ntmps38;go_wp2_with fail;apply C.o.mono;rintro e w1 s;have z:=hd s;obtain⟨rfl,_⟩:=s;go_wp2;go_ret;obtain⟨_,D,I,sa',sc',ka',kc',E,F,d⟩:=z.o;exact⟨rfl,A.o.trans D,I,sa',sc',ka',kc',E,F,(H4 c.o).trans d.kept,fun k f=>d.so k (Nat.lt_of_lt_of_le f c.o.size),fun k f=>d.ko k (Nat.lt_of_lt_of_le f c.o.size)⟩
section
open Go.ChangeShapes Go.WideShapes Go.ChangeAt Go.WideMaps Go.WideElems Go.RowKit
theorem own:ownKnob prog.godebug=none:=by kernel_rfl
theorem W0:laidOutB prog=true:=by kernel_rfl
theorem M3:prog.cellsOf 78=6:=by kernel_rfl
theorem OF:prog.cellsOf 3=1:=by kernel_rfl
theorem Vd:prog.cellsOf 9=1:=by kernel_rfl
theorem ER{c:World}{a:Addr}{j:Nat}(h:c.cell? (a.add j)=some v)(d:a.spot=none):c.cell? ⟨a.block,a.off+j,none⟩=some v:=by
 have e:a.add j=⟨a.block,a.off+j,none⟩:=by
  unfold Addr.add;obtain⟨b,o,s⟩:=a;simp only at d;subst d;split
  ·rename_i h0;subst h0;rfl
  ·rfl
 rwa [e]at h
theorem UB{c:World}{a:Addr}(h:c.cell? a=some v):a.spot=none:=by
 unfold World.cell? at h;split at h
 ·split at h
  ·cases h
  ·rename_i b;cases d:a.spot with
   |none=>rfl
   |some _=>rw[d]at b;simp at b
 ·cases h
theorem KV{c:Type}{e:TypeId×Value->c}{b:World}{base j:Nat}{k:Nat->Bool}{held:Bool}{a:Addr}{cs:Lv}{x:DataW c×List MemPlace}(g:∀i,i<6->b.cell? (a.add i)=cs[i]?)(m:cs.length=6)(hi:i<6)
  (h:DataW.trod e prog b base k held j 9 ((cs.drop i).take (prog.cellsOf 9))=some x):∃s:ByteArray,b.cell? (a.add i)=some (.string s)/\s.size<=maxLen:=by
 obtain⟨s,d,_,f⟩:=DataW.trod_string underlying9 h;rw[Vd]at d;refine⟨s,?_,f⟩;rw[g i hi];have:=congrArg (fun l:Lv=>l[0]?) d;simpa using this
theorem VM{c:Type}{e:TypeId×Value->c}{b:World}{base g:Nat}{j:Nat->Bool}{held:Bool}{a:Addr}{cs:Lv}{x:DataW c×List MemPlace}(f:∀i,i<6->b.cell? (a.add i)=cs[i]?)(n:cs.length=6)(hi:i<6)
  (h:DataW.trod e prog b base j held g 3 ((cs.drop i).take (prog.cellsOf 3))=some x):∃k:Int,b.cell? (a.add i)=some (Vi k):=by
 obtain⟨s,d,_,m⟩:=DataW.trod_int underlying3 h;rw[OF]at d;refine⟨s,?_⟩;rw[f i hi];have:=congrArg (fun l:Lv=>l[0]?) d;simpa using this
end
theorem JV(s:ByteArray)(w:World)(a c:Nat)(f:a≠0)(h:Calls prog 72 #[.string s] w fun e w'=>e=Rq #[Nl,.agg #[Vi a,Vi c]]/\Below w.hz w w'):
  Calls prog 83 #[.string s] w fun e w'=>e=Rq #[.string ⟨#[]⟩,Vi a,Vi c]/\Below w.hz w w':=by
 have d:=hd h;have g:((a:Int) !=0)=true:=by rw[bne_iff_ne];omega
 clear h f;go_enter func83,ntmps83;go_wp2_with fail;apply d.o.mono;rintro e w1 ⟨rfl,hb⟩;have b:=hd hb;clear hb;go_wp2_with fail;go_quiet (fail);go_wp2;go_ret3;exact⟨rfl,(b.o.alloc b.o.size _).trans ⟨rfl,rfl,rfl,Qe _,fun _ _=>rfl⟩⟩
theorem M2(s:ByteArray)(w:World)(b c:Nat)(f:b≠0)(h:Calls prog 73 #[.string s] w fun e w'=>e=Rq #[.agg #[Nl,Nl,Nl],.agg #[Vi b,Vi c]]/\Below w.hz w w'):
  Calls prog 85 #[.string s] w fun e w'=>e=Rq #[.string ⟨#[]⟩,Vi b,Vi c]/\Below w.hz w w':=by
 have d:=hd h;have g:((b:Int) !=0)=true:=by rw[bne_iff_ne];omega
 clear h f;go_enter func85,ntmps85;go_wp2_with fail;apply d.o.mono;rintro e w1 ⟨rfl,hb⟩;have a:=hd hb;clear hb;go_wp2_with fail;go_quiet (fail);go_wp2;go_ret3;exact⟨rfl,((a.o.alloc a.o.size _).alloc (a.o.alloc a.o.size _).size _).trans ⟨rfl,rfl,rfl,Qe _,fun _ _=>rfl⟩⟩
theorem QX(s:ByteArray)(w:World)(b:Lu)(h:Calls prog 72 #[.string s] w fun e w'=>Below w.hz w w'/\∃v,e=Rq #[v,.agg #[Vi 0,Vi 0]]/\(∃a n x,v= .slice a n x)/\
   ∀o,Calls prog 105 #[v] (w'.alloc o) fun e k=>e= .returned (.string ⟨b.toArray⟩)/\Below w'.hz w' k):
  Calls prog 83 #[.string s] w fun e w'=>e=Rq #[.string ⟨b.toArray⟩,Vi 0,Vi 0]/\Below w.hz w w':=by
 have g:=hd h;clear h;go_enter func83,ntmps83;go_wp2_with fail;apply g.o.mono;rintro e w1 ⟨hb,v,rfl,⟨a,n,x,rfl⟩,d⟩;have c:=hd hb;have i:=hd d;clear hb d;go_wp2_with fail;apply(i.o _).mono;rintro e w2 ⟨rfl,f⟩;have j:=hd f;clear f;go_wp2;go_ret3;exact⟨rfl,c.o.trans (j.o.mono c.o.size)⟩
theorem VG(s:ByteArray)(w:World)(f:Lu)(h:Calls prog 73 #[.string s] w fun e w'=>Below w.hz w w'/\∃c b d,e=Rq #[.agg #[c,b,d],.agg #[Vi 0,Vi 0]]/\(∃a n x,c= .slice a n x)/\(∃a n x,b= .slice a n x)/\(∃a n x,d= .slice a n x)/\
   ∀o p,Calls prog 109 #[.agg #[c,b,d]] ((w'.alloc o).alloc p) fun e q=>e= .returned (.string ⟨f.toArray⟩)/\Below w'.hz w' q):
  Calls prog 85 #[.string s] w fun e w'=>e=Rq #[.string ⟨f.toArray⟩,Vi 0,Vi 0]/\Below w.hz w w':=by
 have k:=hd h;clear h;go_enter func85,ntmps85;go_wp2_with fail;apply k.o.mono;rintro e w1 ⟨hb,c,b,d,rfl,⟨r,v,A,rfl⟩,⟨t,y,B,rfl⟩,⟨u,z,C,rfl⟩,i⟩;have g:=hd hb;have l:=hd i;clear hb i;go_wp2_with fail;apply(l.o _ _).mono;rintro e w2 ⟨rfl,j⟩;have m:=hd j;clear j;go_wp2;go_ret3;exact⟨rfl,g.o.trans (m.o.mono g.o.size)⟩
theorem NP:Hz:=by
 intro s w n
 by_cases c:800<s.size
 ·rw[BM,if_pos c];exact JV s w 1 0 Yo (Ir s w n c)
 ·obtain⟨d,q,_⟩:=BV s false
  by_cases h0:(Ct s false).1=0
  ·obtain⟨cs,j,f,k,f4,l⟩:=Oh s Yo h0;rw[BM,if_neg c,if_neg (by rw[<-d];simp[h0]),j];refine QX s w _ ((Jl s w Yo).mono ?_);rintro e w' ⟨hb,b⟩;rcases b with⟨b,_⟩|⟨_,v,B,h,i,xs,rfl,g⟩
   ·exact absurd h0 b
   ·refine⟨hb,v,rfl,?_,fun o=> ?_⟩
    ·obtain⟨a,x,rfl⟩:=Ac g.1;exact⟨a,_,x,rfl⟩
    ·have p:=Kp (w'.alloc o) B h i v _ xs (g.fresh ((Ad.refl _ w').alloc o)) k f4 (by rw[f];exact l);apply p.mono;rintro e w2 ⟨rfl,m⟩;refine⟨by rw[f],((Below.refl _ w').alloc (Qe _) o).trans (m.mono Ys)⟩
  ·rw[BM,if_neg c,if_pos (by rw[<-d];exact h0)];refine JV s w _ _ (by rw[<-d];exact h0) ((Jl s w Yo).mono ?_);rintro e w' ⟨hb,b⟩;rcases b with⟨b,rfl⟩|⟨b,_⟩
   ·rw[<-d,<-q h0];exact⟨rfl,hb⟩
   ·exact absurd b h0
theorem Su:JE:=by
 intro s w D
 by_cases d:120<s.size
 ·rw[B8,if_pos d];exact M2 s w 1 0 Yo (JY s w D d)
 ·obtain⟨f,G,_⟩:=BV s true;have k:(Ct s true).1=0->∃c cs,(Ct s true).2.2.clauses=c::cs:=fun h0=>by
   obtain⟨q,_,g,_⟩:=Ek s Yo h0;exact⟨_,_,g⟩
  by_cases h0:(Ct s true).1=0
  ·obtain⟨q,v,g,y,f4,z,A⟩:=Ek s Yo h0;rw[B8,if_neg d,if_neg (by rw[<-f];simp[h0]),v];refine VG s w _ ((ID s w Yo k).mono ?_);rintro e w' ⟨hb,b⟩;rcases b with⟨b,_⟩|⟨_,r,j,i,B,u,vs,c,cs,rfl,h,l,E,m⟩
   ·exact absurd h0 b
   ·rw[g]at h;simp only[QI]at h;obtain⟨rfl,_⟩:=h;have t:∃a n x,i= .slice a n x:=by
     obtain⟨a,x,rfl⟩:=Ac E;exact⟨a,_,x,rfl⟩
    refine⟨hb,r,j,i,rfl,l,?_,t,fun o p=> ?_⟩
    ·obtain⟨a,x,rfl⟩:=Ac m.1;exact⟨a,_,x,rfl⟩
    ·have F:=Mf ((w'.alloc o).alloc p) B u r j i q.1 vs l t (m.fresh (((Ad.refl _ w').alloc o).alloc p)) f4 z A;apply F.mono;rintro e w2 ⟨rfl,C⟩;refine⟨by rw[y],(((Below.refl _ w').alloc (Qe _) o).alloc Ys p).trans (C.mono Yp)⟩
  ·rw[B8,if_neg d,if_pos (by rw[<-f];exact h0)];refine M2 s w _ _ (by rw[<-f];exact h0) ((ID s w Yo k).mono ?_);rintro e w' ⟨hb,b⟩;rcases b with⟨b,rfl⟩|⟨b,_⟩
   ·rw[<-f,<-G h0];exact⟨rfl,hb⟩
   ·exact absurd b h0
open Classical in
theorem BK.lists{X Y S:Nat->Prop}{s:SC}{cs:List Dt}{a:List (List BL)×At}{D:List (ND×Nat)}(h:BK X w s cs a D m)(f:Ad (fun k=>S k\/X k) w w')(n:DC S w)(r:∀k,k<w.heap.size->Y k->X k)(p:L8 Y w'):BK Y w' s cs a D m:=by
 obtain⟨b,c⟩:∃b:World,b={w with heap:=w.heap.mapIdx (fun i o=>if S i then(w'.heap[i]?).getD o else o)}:=⟨_,rfl⟩;have t:b.heap.size=w.heap.size:=by rw[c];simp
 have hb:∀k,k<w.heap.size->b.heap[k]?=if S k then w'.heap[k]? else w.heap[k]?:=fun k q=>by
  have d:=f.size;rw[c];simp only[Array.getElem?_mapIdx,Array.getElem?_eq_getElem q,Array.getElem?_eq_getElem (show k<w'.heap.size by omega),Option.map_some,Option.getD_some];split<;>rfl
 have l:Ad S w b:=⟨by rw[c],by rw[c],by rw[c],Yo,fun k e d=>by rw[hb k e,if_neg d]⟩;refine(h.keep l n).on_heap (fun k e d=> ?_) (fun k e=>r k Yo) p;rw[hb k Yo];split
 ·rfl
 ·rename_i g;exact f.block k Yo (fun j=>j.elim g d)
theorem CQ.lists{l:List Ee}{la:Oa}{lc:Nat}{ls f:List (Value×Nat)}{m g sa' ka':Oa}{n j sc' kc':Nat}(h:CQ w B bW (.slice m ls.length n) (.slice g ls.length j) l la lc)(D:Cf w B bW (.slice la l.length lc) ls m n g j)
  (r:Cf w' B bW (.slice la l.length lc) f sa' sc' ka' kc') (o:UQ w w' bW (.slice m ls.length n) (.slice g ls.length j) (.slice sa' f.length sc') (.slice ka' f.length kc')):CQ w' B bW (.slice sa' f.length sc') (.slice ka' f.length kc') l la lc:=by
 obtain⟨S,s⟩:∃S:Nat->Prop,S=fun k=>k=bW\/Ak (.slice m ls.length n) k:=⟨_,rfl⟩;have q:Ad (fun k=>S k\/Ak (.slice g ls.length j) k) w w':=o.kept.mono (fun k _ h=>by rw[s];exact h.elim (fun h=>Or.inl (Or.inl h)) (fun h=>h.elim (fun h=>Or.inl (Or.inr h)) Or.inr));have p:∀k,S k->∃cl t fr,w.heap[k]?=some (.cells cl t fr)/\(t=76\/t=47):=fun k a=>by
  rw[s]at a;rcases a with rfl|a
  ·exact⟨_,_,_,h.box,Or.inl rfl⟩
  ·obtain⟨cl,fr,b⟩:=own_ty D.lrow k a;exact⟨_,_,_,b,Or.inr rfl⟩
 have E:DC S w:=fun k a=>by
  obtain⟨cl,t,fr,b,c⟩:=p k a;exact⟨cl,t,fr,b,by rcases c with rfl|rfl<;>simp[HZ]⟩
 have C:DF S w:=fun k a=>by
  obtain⟨cl,t,fr,b,c⟩:=p k a;exact⟨cl,t,fr,b,by rcases c with rfl|rfl<;>simp[BR]⟩
 have v:∀{k:Nat}{cl:Av}{t:TypeId}{fr:Nat×Nat},w.heap[k]?=some (.cells cl t fr)->t≠76->t≠47->t≠3->¬(S k\/Ak (.slice g ls.length j) k):=fun b I J K a=>by
  rcases a with a|a
  ·obtain⟨L,N,M,c,A⟩:=p _ a;rw[b]at c;simp at c;obtain⟨_,rfl,_⟩:=c;exact A.elim I J
  ·exact h.xok.ty b K a
 have y:L8 (Ak (.slice ka' f.length kc')) w':=own_ty r.krow;refine⟨r.box,Aj h.row (fun k u=> ?_),fun i e F=> ?_,h.apart,y⟩
 ·obtain⟨cl,fr,b⟩:=own_ty h.row k u;exact q.block k (h.row.lt k u).2 (v b Yd Yd Yd)
 ·have d:=h.all i e F;refine⟨d.code.keepI q C h.xok (fun k G=> ?_) d.fx,d.ref.lists q E o.ko y,d.inv,d.prog,d.ask,d.low,fun a k x H=> ?_⟩
  ·obtain⟨cl,t,fr,b,c⟩:=d.code.own_ty G;exact v b (by rcases c with rfl|rfl<;>decide) (by rcases c with rfl|rfl<;>decide) (by rcases c with rfl|rfl<;>decide)
  ·obtain⟨_,z⟩:=d.code.found a;exact d.fx a k x (o.ko k (z.lt k (Fv.2 x)).2 H)
structure EA(w:World)(B bW:Nat)(es:List Ee)(la:Option Addr)(lc:Nat)(ls:List (Value×Nat))(sa:Option Addr)(sc:Nat)(ka:Option Addr)(kc:Nat):Prop where
 law:CQ w B bW (.slice sa ls.length sc) (.slice ka ls.length kc) es la lc
 lists:Cf w B bW (.slice la es.length lc) ls sa sc ka kc
theorem EA.ext{a:List Ee}{la:Oa}{lc:Nat}{ls:List (Value×Nat)}{d b:Oa}{f c:Nat}(h:EA w B bW a la lc ls d f b c)(e:Ao w w'):EA w' B bW a la lc ls d f b c:=⟨h.law.ext e,h.lists.ext e⟩
theorem EA.srch{q i:List Ee}{la o:Oa}{lc p:Nat}{ls:List (Value×Nat)}{f b:Oa}{g c:Nat}(h:EA w B bW q la lc ls f g b c)(r:BF B w w')(l:CQ w' B bW (.slice f ls.length g) (.slice b ls.length c) i o p):EA w' B bW i o p ls f g b c:=by
 have d:∀{B e size n:Nat}{v:Value}{xs:Lv},w.ownsRow B e size v n xs->e=9\/e=3\/e=47->w'.ownsRow B e size v n xs:=fun a s=>Aj a (fun k t=>by
  obtain⟨cl,fr,j⟩:=own_ty a k t;rw[r.frm _ _ _ _ j s,j])
 refine⟨l,l.box,d h.lists.lrow Yd,d h.lists.krow Yd,fun x m=>⟨?_,(h.lists.all x m).2⟩⟩;obtain⟨n,hn,a⟩:=(h.lists.all x m).1;exact⟨n,hn,d a Yd⟩
def O0(w:World)(B bW N:Nat)(e:Ending)(w':World):Prop:=
 e= .returned (.bool true)/\Below B w w'/\∃es la lc ls sa sc ka kc,es.length<=N/\ls.length<=8*N/\EA w' B bW es la lc ls sa sc ka kc
theorem EA.same{N:Nat}{a:List Ee}{la:Oa}{lc:Nat}{ls:List (Value×Nat)}{f c:Oa}{g d:Nat}{e:Ending}(h:EA w B bW a la lc ls f g c d)(k:B<=bW)(i:a.length<=N)(j:ls.length<=8*N)(b:e= .returned (.bool true)/\Below w.hz w w'):O0 w B bW (N+1) e w':=
 ⟨b.1,b.2.mono (by have:=Ab h.law.box;omega),a,la,lc,ls,f,g,c,d,Yo,Yo,h.ext b.2⟩
theorem VL(w:World)(B b N:Nat)(g:List Ee)(la:Oa)(lc:Nat)(ls:List (Value×Nat))(t r:Oa)(u s:Nat)(h:EA w B b g la lc ls t u r s)(c:B<=b)(G:N<=1048576)(i:g.length<=N)(j:ls.length<=8*N)(kd n m:Int)(p q x:ByteArray)(H:1<=kd/\kd<=8)(d:p.size<=maxLen)(f:q.size<=maxLen)(o:x.size<=maxLen)(hn:Iq n)(C:Iq m)(A:Hi B w):
  Calls prog 38 #[Pt b,.agg #[Vi kd,Vi n,Vi m,.string p,.string q,.string x]] w (O0 w B b (N+1)):=by
 have l:kd=1\/kd=2\/(kd=3\/kd=4\/kd=5)\/kd=6\/kd=7\/kd=8:=Yo
 rcases l with rfl|rfl|l|rfl|rfl|rfl
 ·exact(NY NP n m p q x _ w d).mono fun e w' a=>h.same c i j a
 ·exact(RH Su n m p q x _ w f).mono fun e w' a=>h.same c i j a
 ·apply(OG w B b g la lc h.law c Yo kd n m p q x l d f hn C).mono;rintro e w' ⟨a,v,y,D,E,hl,k⟩;exact⟨a,v.bel,y,D,E,ls,t,u,r,s,Yo,Yo,h.srch v k⟩
 ·exact(Wn VQ n m p q x _ w d f o).mono fun e w' a=>h.same c i j a
 ·exact(N1 NI n m p q x _ w d f o).mono fun e w' a=>h.same c i j a
 ·apply(Vu w B b _ ls t u r s h.lists c Yo n m p q x d f o A).mono;rintro e w' ⟨a,hb,F,sa',sc',ka',kc',hl,k,z⟩;exact⟨a,hb,g,la,lc,F,sa',sc',ka',kc',Yo,Yo,h.law.lists h.lists k z,k⟩
theorem Ss(V:Value)(w:World)(ap:N8 w V 1048576)(N:Hi w.hz w):
  Calls prog 13 #[V,Vi 1,Vi 8] w fun e w'=>e= .returned (Vi (-1))/\Below w.hz w w':=by
 obtain⟨a,len,au,rfl,ax,P⟩:=ap;have ab:=hd P;have E:=hd N;clear P N;go_enter func13,a1;go_wp2
 go_loopw [8] (fun i wr=>∃(k:Nat)(d:List Ee)(la:Oa)(lc:Nat)(ls:List (Value×Nat))(j:Oa)(l:Nat)(g:Oa)(h:Nat),k<=len/\i=Vi k/\Below w.hz w wr/\d.length<=k/\ls.length<=8*k/\EA wr w.hz w.hz d la lc ls j l g h) (fun i _=>len-(intOf i).toNat)
 case atStart=>exact⟨0,[],none,0,[],none,0,none,0,Qm _,rfl,(Below.refl _ _).alloc (Qe _) _,Qe _,Qe _,CQ.nil (QL w _),Cf.nil (QL w _)⟩
 case round=>
  obtain⟨k,d,la,lc,ls,j,l,g,h,aw,rfl,c,ak,am,C⟩:=hrel;have az:=Ab C.law.box;have X:=hd C;have aa:=hd c;clear C
  by_cases ao:k<len
  ·obtain⟨b,off,kd,n,m,p,q,x,rfl,f,G,H,I,J,K,L,v,y,z,hn,u⟩:=ab.o k ao;have ac:wr.cell? ⟨b,off+k*6,none⟩=some (Vi kd):=(c.cell (p:=⟨b,off+k*6,none⟩) f).trans G;have ad:wr.cell? ⟨b,off+k*6+1,none⟩=some (Vi n):=(c.cell (p:=⟨b,off+k*6+1,none⟩) f).trans H;have ae:wr.cell? ⟨b,off+k*6+2,none⟩=some (Vi m):=(c.cell (p:=⟨b,off+k*6+2,none⟩) f).trans I;have af:wr.cell? ⟨b,off+k*6+3,none⟩=some (.string p):=(c.cell (p:=⟨b,off+k*6+3,none⟩) f).trans J;have ag:wr.cell? ⟨b,off+k*6+4,none⟩=some (.string q):=(c.cell (p:=⟨b,off+k*6+4,none⟩) f).trans K;have ah:wr.cell? ⟨b,off+k*6+5,none⟩=some (.string x):=(c.cell (p:=⟨b,off+k*6+5,none⟩) f).trans L;have B:Ao wr (wr.alloc (.cells #[Vi kd,Vi n,Vi m,.string p,.string q,.string x] 78)):=Mxt;have A:=hd (X.o.ext B);have r:=hd (c.trans (B.mono Yo));clear G H I J K L B c
   by_cases t:1<=kd/\kd<=8
   ·have Z:=hd (VL _ w.hz w.hz k d la lc ls j g l h A.o (Qe _) Yo ak am kd n m p q x t v y z hn u (Lib.TabBelow.on E.o r.o));obtain⟨av,aj⟩:=t;clear v y z hn u;go_wp2_with fail;apply Z.o.mono;rintro e w1 ⟨rfl,O,ai,aq,ar,S,T,U,Q,R,al,an,s⟩;have F:=hd (r.o.trans O);have a0:=Ab s.law.box;have W:=hd (Up w1 w.hz w.hz _ S T U Q R s.lists Yo w.hz (Lib.TabBelow.on E.o F.o) Yo);have Y:=hd s;clear O s ac ad ae af ag ah;go_wp2_with fail;apply W.o.mono;rintro e w2 ⟨rfl,M⟩;have D:=hd M;clear M;go_wp2
    go_roundw
    case rel=>exact⟨k+1,ai,aq,ar,S,T,U,Q,R,Yo,Yg,F.o.trans (D.o.mono Yo),al,an,Y.o.ext D.o⟩
    case measure=>simp[intOf];omega
   ·by_cases ay:(1:Int)<=kd
    ·have aj:¬kd<=(8:Int):=Yo
     clear t v y z hn u;go_wp2
     go_roundw
     case rel=>exact⟨k+1,d,la,lc,ls,j,l,g,h,Yo,Yg,r.o,Yo,Yo,A.o⟩
     case measure=>simp[intOf];omega
    ·clear t v y z hn u;go_wp2
     go_roundw
     case rel=>exact⟨k+1,d,la,lc,ls,j,l,g,h,Yo,Yg,r.o,Yo,Yo,A.o⟩
     case measure=>simp[intOf];omega
  ·clear c;go_wp2;go_ret;exact⟨rfl,aa.o⟩
theorem Ru(a:Value)(w:World)(d:N8 w a 1048576)(b:Hi w.hz w):
  Calls prog 9 #[a] w fun e w'=>e= .returned (.bool true)/\Below w.hz w w':=by
 have f:=hd (Ss a w d b);clear d b;go_enter func9,ntmps9;go_wp2_with fail;apply f.o.mono;rintro e w1 ⟨rfl,c⟩;have g:=hd c;clear c;go_wp2;go_ret;exact⟨rfl,g.o⟩
section
open Go.ChangeShapes Go.WideShapes Go.ChangeAt Go.WideMaps Go.WideElems Go.RowKit
theorem U7{a:Type}(d:DataW a):1<=Rows.uptoBulk d:=by
 cases d with
 |lit l=>cases l<;>simp[Rows.uptoBulk]
 |nil=>simp[Rows.uptoBulk]
 |ptr d=>simp[Rows.uptoBulk]
 |slice b f=>simp[Rows.uptoBulk]
 |agg e=>simp[Rows.uptoBulk]
 |iface t d=>simp[Rows.uptoBulk]
 |map c=>simp[Rows.uptoBulk]
 |held h=>simp[Rows.uptoBulk]
theorem Vk{a:Type}(l:List (DataW a)):l.length<=Rows.uptoBulkAll l:=by
 induction l with
 |nil=>simp[Rows.uptoBulkAll]
 |cons x r b=>have:=U7 x;simp only[Rows.uptoBulkAll,Qf];omega
theorem LM{c:Type}{e:TypeId×Value->c}{b:World}{base m:Nat}{n:Nat->Bool}{held:Bool}{a:Addr}{cs:Lv}{x:DataW c×List MemPlace}(j:∀i,i<6->b.cell? (a.add i)=cs[i]?)(o:cs.length=6)(hi:i<6)
  (h:DataW.trod e prog b base n held m 3 ((cs.drop i).take (prog.cellsOf 3))=some x):∃k:Int,b.cell? (a.add i)=some (Vi k)/\Iq k:=by
 obtain⟨s,d,_,f⟩:=DataW.trod_int underlying3 h;rw[OF]at d;refine⟨s,?_,?_⟩
 ·rw[j i hi];have:=congrArg (fun l:Lv=>l[0]?) d;simpa using this
 ·have g:(decide (IntKind.min .i64<=s)&&decide (s<=IntKind.max .i64))=true:=f;rw[Q6,Q7,Q7,show IntKind.min .i64= -9223372036854775808 from rfl,show IntKind.max .i64=9223372036854775807 from rfl]at g;unfold Iq;omega
set_option maxRecDepth 100000 in
theorem Vf{u:Type}{N:TypeId×Value->u}{r:World}{a0:Oa}{len:Nat}{d:DataW u}{X:List MemPlace}
  (h:DataW.Trod N prog r 0 (fun _=>true) true 22 (.slice a0 len cap) d X) (hb:Rows.uptoBulk d<=1048576):N8 r (.slice a0 len cap) 1048576:=by
 obtain⟨fuel,R⟩:=h;rcases Deep.open_slice underlying22 R with⟨q,_⟩|⟨a,l,c,m,n,D,ag,q,_,hl,ak,A,f,v⟩
 ·simp[Value.cells]at q;obtain⟨rfl,rfl,rfl⟩:=q;exact⟨none,0,0,rfl,Yd,fun k z=>absurd z Yo⟩
 ·simp[Value.cells]at q;obtain⟨rfl,rfl,rfl⟩:=q;have e:len<=1048576:=by
   have hd:d= .slice ((List.range len).map D) ((List.range (m-len)).map fun j=>D (len+j)):=congrArg Prod.fst f;rw[hd]at hb;have s:=Vk ((List.range len).map D);simp only[Rows.uptoBulk]at hb;rw[Ql,List.length_range]at s;omega
  refine⟨some a,len,cap,rfl,e,fun k z=> ?_⟩;obtain⟨cs,w,S⟩:=v k (by rw[A];simp;omega);rw[M3]at w;obtain⟨hb,e,g⟩:=World.cells?_some w;obtain⟨xs,al,_,_,aj,T,p⟩:=DataW.trod_struct underlying78 S;have f:∀i,i<6->∃x,xs[i]?=some x:=fun i hi=>⟨_,Qb (by rw[T];exact hi)⟩;obtain⟨an,H⟩:=f 0 Yo;obtain⟨ao,I⟩:=f 1 Yo;obtain⟨ap,J⟩:=f 2 Yo;obtain⟨aq,K⟩:=f 3 Yo;obtain⟨ar,L⟩:=f 4 Yo;obtain⟨au,M⟩:=f 5 Yo;obtain⟨U,q0⟩:=VM g e (i:=0) Yo ((p 0 _ rfl).trans H);obtain⟨V,t,Y⟩:=LM g e (i:=1) Yo ((p 1 _ rfl).trans I);obtain⟨W,C,Z⟩:=LM g e (i:=2) Yo ((p 2 _ rfl).trans J);obtain⟨aa,E,ad⟩:=KV g e (i:=3) Yo ((p 3 _ rfl).trans K);obtain⟨ab,F,ae⟩:=KV g e (i:=4) Yo ((p 4 _ rfl).trans L);obtain⟨ac,G,af⟩:=KV g e (i:=5) Yo ((p 5 _ rfl).trans M);have P:a.block<r.hz:=by
   have:=World.block_lt_of_cell? r _ t;rw[Deep.add_add]at this;simpa[Addr.add]using this
  have B:a.spot=none:=by
   obtain⟨ah,y,_⟩:=v 0 (by rw[A];simp;omega);rw[M3]at y;obtain⟨_,ai,Q⟩:=World.cells?_some y;have s:=Q 0 Yo;rw[Qb Yo]at s;have O:=UB s;simpa[Addr.add]using O
  simp only[Deep.add_add]at q0 t C E F G;obtain⟨b,o,am⟩:=a;simp only at B;subst B;refine⟨b,o,U,V,W,aa,ab,ac,rfl,P,?_,?_,?_,?_,?_,?_,ad,ae,af,Y,Z⟩
  ·simpa using ER q0 rfl
  ·simpa[Nat.add_assoc]using ER t rfl
  ·simpa[Nat.add_assoc]using ER C rfl
  ·simpa[Nat.add_assoc]using ER E rfl
  ·simpa[Nat.add_assoc]using ER F rfl
  ·simpa[Nat.add_assoc]using ER G rfl
end
section
open Go.ChangeShapes Go.WideShapes Go.ChangeAt Go.WideMaps Go.WideElems Go.RowKit
theorem UP:(Rows.laid_internal_strconv_uint64pow10:DataW Unit)=Lib.tabData .u64 Lib.pow10Tab:=by kernel_rfl
theorem XB{a:World}(h:laidMet prog Rows.allsUptoRow.laid a):Lib.TabIs prog a "internal/strconv.uint64pow10" .u64 Lib.pow10Tab:=by
 have b:laidMet prog [("internal/strconv.uint64pow10",Rows.laid_internal_strconv_uint64pow10)] a:=h.tail.tail;rw[UP]at b;exact Lib.tabIs_of_head (g:=0) (t:=258) (e:=209) (n:=20) (by kernel_rfl) (by kernel_rfl) (by kernel_rfl) (by kernel_rfl) (by kernel_rfl) (by kernel_rfl) b
end
section
open Go.ChangeShapes Go.WideShapes Go.ChangeAt Go.WideMaps Go.WideElems Go.RowKit
theorem SS(os:Os)(args:Av):laidMetH prog Rows.wholeUptoRow.laid ((World.doorLaid prog 400 os).forCall (fun _ _=>0) ⟨#[],args,[]⟩).memory:=
 laidMetH_of_parts3 (fuel:=8) (laidMet_of_run' 8 Yk Yk) Yk Yk
theorem PV(os:Os){a:Type}(b:TypeId×Value->a):DataW.whole b prog ((World.doorLaid prog 400 os).forCall (fun _ _=>0) ⟨#[],#[Nl],[]⟩).memory f9.params.toList Rows.wholeSpec.vars false #[Value.slice none 0 0].toList 8=some ([.nil],[],[]):=by kernel_rfl
set_option maxRecDepth 100000 in
theorem Oo(os:Os)(H:os.Started)(o:Type)(b:TypeId×Value->o)(n:Stop.Interp):
  ReturnsInHanded {} checked os 9 .any ((Rows.OpenSpec.upto Rows.wholeSpec).preRow b prog f9 Rows.wholeUptoRow.domain false Rows.wholeUptoRow.laid) (((Rows.OpenSpec.upto Rows.wholeSpec).at n).post b prog f9 false true false false):=by
 have g:Input.okWideB prog ((World.doorLaid prog 400 os).forCall (fun _ _=>0) ⟨#[],#[Nl],[]⟩) 9 ⟨#[],#[Nl],[]⟩=true:=by kernel_rfl
 refine returnsInHanded_of_row (C:=checked) (s:=Rows.OpenSpec.upto Rows.wholeSpec) own H Yk func9
  ⟨World.doorLaid prog 400 os,fun _ _=>0,⟨#[],#[Nl],[]⟩,rfl,World.shaped_of_RefB Yk Yk,(Input.okWide_of_okWideB (base:=0) g).1,(Input.okWide_of_okWideB g).2,
   OpenSpec.preRow_of_cond 8 (PV os b) Yk (fun k D=>by cases D;kernel_rfl) Yk (SS os _),by
    simp only[Assume.holds];exact⟨Ys,Ys,fun _=>Modest.zero,Ys,Ys⟩⟩ ?_
 intro a base args ds gs K l f _ A _ r _ _;have i:∀(j:Nat) t v,f9.params[j]?=some t->args[j]?=some v->Value.okWide prog a .any base t v:=l;have z:Rows.uptoBulkAll (ds++gs)<=1048576:=of_decide_eq_true (A _ rfl);have y:=f;obtain⟨p,q,d,w,rfl,N,O⟩:=f;have c:DataW.TrodAll b prog a 0 (fun _=>true) true f9.params.toList args.toList ds p:=d;rw[params9]at c i;obtain⟨I,M,rfl,rfl,h0⟩:=trodAll_one c;obtain⟨rfl,rfl⟩:=trodVars_none w;have G:∀x∈p,x.block<a.hz:=by obtain⟨m,E⟩:=h0;exact DataW.trod_lt m _ _ _ E
 obtain⟨a0,P,L,rfl⟩:=okWide_slice underlying22 (i 0 22 I rfl rfl);have F:=Vf h0 (by simp only[Qs,Rows.uptoBulkAll]at z;omega);clear d l;have u:Lib.TabIs prog a "internal/strconv.uint64pow10" .u64 Lib.pow10Tab:=XB r;refine(Ru _ a F (Lib.tabBelow_of_tabIs u)).mono fun e J ⟨B,bel⟩=> ?_;subst B;exact⟨_,rfl,_,_,_,[],_,[],y,trodAll_mk1 (shut_bool underlying4 _),trodAll_mk1 (Below.trod W0 Yk (of_decide_eq_true Yk) h0 bel G),rfl,bel.frame _,fun h=>by cases h⟩
theorem Ud:Rows.WholeUptoSaid:=
 OpenClaim.holds_of_cond 9 f9 rfl rfl rfl rfl rfl rfl rfl ⟨rfl,rfl,rfl,rfl,rfl⟩ rfl rfl rfl rfl rfl Yk func9 Yk
  (i Yk) (by unfold f.isWrapper;first|(rw[h (by decide+d)];kernel_rfl)|(rw[g (by decide+d)];exact⟨rfl,rfl⟩))
  (fun os e b c _ a=>by rw[OpenClaim.pre_eq_preRow];exact Oo os e b c a)
theorem whole_hold:Rows.WholeUptoCardSaid:=
 Claim7.holds_tied_plain_at .later [] [.data,.data,.data] true Rows.wholeUptoCard.stood.harness false
  Ud (fun _ h=>by cases h) Yk (fun _ h=>by cases h) wholeUpto_row_tie rfl ⟨rfl,rfl⟩ Yk rfl
  (fun f b d e=>by
   obtain rfl:f=9:=Option.some.inj ((show prog.funcNamed f9.name=some 9 by kernel_rfl).symm.trans d)|>.symm;obtain rfl:b=f9:=(Option.some.inj (func9.symm.trans e)).symm;exact⟨by kernel_rfl,fun j t a=>by
    rw[params9]at a;have g:t∈[22]:=by simpa using Array.mem_of_getElem? a
    have c:([22].all fun u=> !prog.wantsStandIn u)=true:=by kernel_rfl
    exact(show prog.wantsStandIn t=false by simpa using List.all_eq_true.1 c t g)⟩)
  Yk
end
end Go.Proofs.YtlmjilpjmgjjcaaGreatDoor
