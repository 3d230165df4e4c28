/-
  PROVED HERE: what the law's 'mark' and 'own' do with a list that came out (the conditions stand in each statement).
-/
import Derived.Test.YtlmjilpjmgjjcaaGreatDoorT8
import Derived.Shelf.LaysM
import Derived.Shelf.Strconv.Itoa3
import Derived.Lib.AppendIntMem
import Derived.Lib.ItoaLen
set_option linter.unusedSimpArgs false
set_option linter.unusedVariables false
set_option maxRecDepth 10000
set_option maxHeartbeats 4000000
namespace Go.Proofs.YtlmjilpjmgjjcaaGreatDoor
open Go.RowKit
open _root_.Go.Proofs.Tryz
open Go.Value (int slice string agg pointer tuple)
open Go.IntKind (i64)
open Go.Ending (returned)
variable {w w' w1 w2 w0 wr:World}{k B b i p size cap M rb bW x:Nat}{v cv gv vv lv:Value}{xs ys vs:Lv}{X Y S:Np}{s:ByteArray}{t e:TypeId}{P:Program}{l:Ly}{ls ts:Ll}{ρ:Nat->Nat}{σ:Nat->Ly}{cs:Lc}{c:Db}{a:Ll×At}{m:SN}{ds r:Ln}{st:RS}{L:Bj}{G:Gr}{A:List Lu}
attribute [local simp] Yj EB IB pa Ph.kd Ph.val Kd.val
theorem E8.bump{c:Nat}{n:ND}(h:E8 w (slice (some ⟨c,0,none⟩) (ds.length+1) cap) (ds++[(n,k)]) xs)(b:Nat):
  E8 (w.setCell ⟨c,ds.length*5+4,none⟩ (int i64 b)) (slice (some ⟨c,0,none⟩) (ds.length+1) cap) (ds++[(n,b)]) (xs.set (ds.length*5+4) (int i64 b)):=by
 have a:=h.owns;have v:=a.1;rw[Qg,Qn]at a v;have s:=Hr a;have t:=CK w c (ds.length+1) cap (ds.length*5+4) (int i64 b);refine⟨by rw[Qg,Qn];exact BY a _ _,fun i d hd=> ?_⟩;rcases QB i ds.length with hi|hi
 ·rw[Qc hi]at hd;obtain⟨f,j,l,m,o,p,q,r,u,g⟩:=h.all i d (by rw[Qc hi];exact hd);exact⟨f,j,l,m,by rw[QF Yo];exact o,by rw[QF Yo];exact p,by rw[QF Yo];exact q,by rw[QF Yo];exact r,by rw[QF Yo];exact u,g.keep t s⟩
 ·have e:i=ds.length:=by
   have:=(Qa.1 hd).1;simp at this;omega
  subst e;rw[Qd (Qe _)]at hd;simp at hd;subst hd;obtain⟨f,j,l,m,o,p,q,r,u,g⟩:=h.all ds.length (n,k) (by rw[Qd (Qe _)];simp);exact⟨f,j,l,m,by rw[QF Yo];exact o,by rw[QF Yo];exact p,by rw[QF Yo];exact q,by rw[QF Yo];exact r,by rw[List.getElem?_set_self Yo],g.keep t s⟩
theorem Dj.bump{c:Nat}{x:CX}{n:ND}(h:Dj w b x cs a m)(z:m.way=(n,k)::r)(p:x.wa=some ⟨c,0,none⟩):
  Ad (CF b x) w ((w.setCell ⟨c,r.length*5+4,none⟩ (int i64 ((k+1:Nat):Int))).setCell ⟨b,3,none⟩ (int i64 ((m.tries+1:Nat):Int)))/\Dj ((w.setCell ⟨c,r.length*5+4,none⟩ (int i64 ((k+1:Nat):Int))).setCell ⟨b,3,none⟩ (int i64 ((m.tries+1:Nat):Int))) b x cs a {m with way:=(n,k+1)::r,tries:=m.tries+1}:=by
 obtain⟨J,o⟩:=h.way;obtain⟨xs,D⟩:=h.prog;rw[z,p,Qf,Qw]at o;have l:=h.box;have y:c≠b:=fun e=>by
  subst e;rcases o.owns.2 with⟨e,_⟩|⟨g,K,L,e,_,v,_⟩
  ·simp at e
  ·simp at e;obtain⟨rfl,_⟩:=e;rw[l]at v;simp at v
 have q:Ad (Ak (slice (some ⟨c,0,none⟩) (r.length+1) x.wc)) w (w.setCell ⟨c,r.length*5+4,none⟩ (int i64 ((k+1:Nat):Int))):=CK w c (r.length+1) x.wc _ _;have u:(w.setCell ⟨c,r.length*5+4,none⟩ (int i64 ((k+1:Nat):Int))).heap[b]?=_:=(q.block b (Ac l) (fun e=>y (by simpa[Ak,Value.ownBlock]using e))).trans l;have s:Ad (only b) (w.setCell ⟨c,r.length*5+4,none⟩ (int i64 ((k+1:Nat):Int))) _:=(Ad.refl (only b) _).put 3 (int i64 ((m.tries+1:Nat):Int));have d:Ad (CF b x) w ((w.setCell ⟨c,r.length*5+4,none⟩ (int i64 ((k+1:Nat):Int))).setCell ⟨b,3,none⟩ (int i64 ((m.tries+1:Nat):Int))):=(q.mono (fun i _ e=>QO (by rw[p];exact Fp.1 e))).trans (s.mono (fun i _ e=>QG e));have f:=h.offS;have t:=E8.bump (ds:=r.reverse) (n:=n) (k:=k) (xs:=J) (by rw[Qv];exact o) (k+1);rw[Qv]at t;have G:DB (only b) (w.setCell ⟨c,r.length*5+4,none⟩ (int i64 ((k+1:Nat):Int))):=fun j e=>by
  have e:j=b:=e;subst e;exact⟨_,_,_,u,by simp[BP]⟩
 have E:=t.keep s G (fun j F e=>by
  have e:j=b:=e;subst e;exact y (by simpa[Value.ownBlock]using F))
 refine⟨d,(by have:=Ae u 3 (int i64 ((m.tries+1:Nat):Int));rw[z]at this;exact this),⟨xs,f.prog d D⟩,f.own (by simp[BP]) d h.names,⟨_,by rw[p];simp only[Qw,Qf];exact E⟩,fun H=> ?_⟩;obtain⟨⟨I,A,B⟩,C⟩:=h.found H;exact⟨⟨I,f.terms d A,B⟩,f.own (by simp[BP]) d C⟩
def RH(W:World)(b:Nat)(T X:Lu):Lv->World->Prop
 |[],y=>y=W
 |[v],y=>y=W/\v= .string ⟨X.toArray⟩
 |[v,_],y=>v= .string ⟨X.toArray⟩/\y=W.setCell ⟨b,7,none⟩ (.string ⟨(T++X).toArray⟩)
 |_,_=>False
theorem RH.at{a:World}{T X:Lu}{y:World}(h:RH a b T X vs y):(vs.length<=1->y=a)/\(1<=vs.length->vs.getD 0 undef=string ⟨X.toArray⟩):=by
 match vs,h with
 |[],h=>exact⟨fun _=>h,fun h=>by simp at h⟩
 |[v],h=>exact⟨fun _=>h.1,fun _=>by simpa using h.2⟩
 |[v,v'],h=>exact⟨fun h=>by simp at h,fun _=>by simpa using h.1⟩
theorem Rj(w:World)(b:Nat)(x:CX)(cs:Lc)(a:Ll×At)(m:SN)(h:Dj w b x cs a m)(be:DD cs a m)(h0:m.status=0)(d9:m.way≠[])(d6:m.tries<3000)(dv:∀c∈cs,KR c/\Ry c)(dt:∀c∈cs,Mu c)(e9:cs.length<=24):
  Calls prog 76 #[Pt b] w fun e w'=>e=Rq #[]/\∃z,Ad (CF b x) w w'/\Dj w' b z cs a (AQ cs m)/\El w x z:=by
 obtain⟨n,k,r,c,a3,cd,dx⟩:=be.head d9;have fd:=(Qa.1 cd).1;have d1:=be.len;rw[a3,Qf]at d1;have f6:r.length+1<=100000:=Yo
 obtain⟨xs,b9⟩:=h.prog;obtain⟨gh,a0⟩:=h.way;have D:=h.box;obtain⟨ca,cc,na,nc,wa,wc,va,vl,vc,fa,fl,fc⟩:=x;simp only[CX.cells]at D b9 a0;rw[a3,Qf,Qw]at a0;rw[a3,Qf,h0]at D;have bh:=a0.owns;rw[Qg,Qv,Qn]at bh;obtain⟨l,ge,gf,ea,_,a4,ga⟩:=An bh Yo;simp only[QH]at ea;obtain⟨rfl,_,rfl⟩:=ea;obtain⟨fq,fr,fs,ft,a6,a7,a8,bm,bn,cg⟩:=a0.all r.length (n,k) (by rw[Qd Ys];simp);obtain⟨lb,gb,gc,d0,_,ff,_⟩:=An b9.owns Yo;simp only[QH]at d0;obtain⟨rfl,_,rfl⟩:=d0;obtain⟨U,b1,b2,V,ao,ap,aq,W,Y⟩:=IA D;have cx:=Af bh _ _ bn;simp only at cx;have fm:=fun i=>Ag a4 i;have fz:=Ac D;have f9:=Ac a4;have f5:l≠b:=fun e=>by
  subst e;rw[D]at a4;simp at a4
 have f3:decide ((r.length:Int)<0)=false:=by rw[decide_eq_false_iff_not];omega
 obtain⟨a5,ch⟩:∃x,x=m.tries:=⟨_,rfl⟩;rw[<-ch]at D V;have f8:a5<=3000:=Yo
 have ba:=Yh be;have em:=Yh h;have ez:=Yh dv;have ex:=Yh dt;have J:=Yh a3;have Q:=Yh cd;have e0:=Yh dx;have cm:=Yh h0;have bd:=Yh ch;have e1:=Yh d6;clear h be dv dt a3 cd dx h0 d9 b9 a0 bh a4 ff D a6 a7 a8 bm bn cg ch d6 d1;go_enter func76,ntmps76;go_wp2_with fail;go_quiet (fail);go_wp2_with fail;obtain⟨S,cb⟩:=Ex (((w.drewN nq).setCell ⟨l,r.length*5+4,none⟩ (int i64 ((k:Int)+1))).setCell ⟨b,3,none⟩ (int i64 ((a5:Int)+1)));rw[<-cb];have dc:Ao w (w.drewN nq):=Ao.of ((Ad.refl _ w).drewN _);obtain⟨b6,O⟩:=(em.o.ext dc).bump J.o rfl;rw[show((k+1:Nat):Int)=(k:Int)+1 by omega,<-bd.o,show((a5+1:Nat):Int)=(a5:Int)+1 by omega,<-cb]at b6 O;have dh:Ad (CF b ⟨some ⟨lb,0,none⟩,cc,na,nc,some ⟨l,0,none⟩,wc,va,vl,vc,fa,fl,fc⟩) w S:=((Ad.refl _ w).drewN nq).trans b6;obtain⟨s,av⟩:∃s:SN,s={m with way:=(n,k+1)::r,tries:=a5+1}:=⟨_,rfl⟩;rw[<-av]at O;have ae:=O.box;rw[av]at ae;simp only[CX.cells,Qf]at ae;rw[cm.o]at ae;clear U b1 b2 V ao ap aq W Y cx fm;obtain⟨U,b1,b2,V,ao,ap,aq,W,Y⟩:=IA ae;obtain⟨gi,a1⟩:=O.way;rw[av]at a1;simp only[Qf,Qw]at a1;have af:=a1.owns;rw[Qg,Qv,Qn]at af;obtain⟨fq,fr,fs,ft,a6,a7,a8,bm,bn,cg⟩:=a1.all r.length (n,k+1) (by rw[Qd Ys];simp);obtain⟨C,ac,rfl,b8,dl,dd,dq⟩:=cg;obtain⟨c6,c7,rfl⟩:=ac.goals.shape;obtain⟨ei,ej,rfl⟩:=ac.vals.shape;obtain⟨eg,eh,rfl⟩:=ac.done.shape;simp only[Ql]at ac a6 a7 a8;have ct:=Af af _ _ a6;have cu:=Af af _ _ a7;have cv:=Af af _ _ a8;have cw:=Af af _ _ bm;obtain⟨gg,dp⟩:=O.prog;obtain⟨fv,fw,cv2,ec,ed,ee,ay⟩:=dp.cell Q.o;obtain⟨cy,cz,rfl⟩:=Ab ay.head;obtain⟨c0,c1,rfl⟩:=ay.body.shape;obtain⟨c2,c3,rfl⟩:=Ab ay.names;have f0:=Ac ae;obtain⟨ce,du⟩:=ez.o c (Qh Q.o);have er:YH (∀an u,Ao S.drew u->(∀k,an k->S.heap.size<=k/\k<u.heap.size)->Calls prog 97 #[agg #[slice c6 C.goals.length c7,slice ei C.vals.length ej,slice eg C.done.length eh,int i64 C.vars],agg #[slice cy c.head.length cz,slice c0 c.body.length c1,slice c2 c.names.length c3]] u fun e cj=>∃r,e=returned r/\Ao u cj/\Ke C c k an r cj):=fun an u f e6=>by
  have eb:Ao S u:=f.undrew;apply(Mf u _ _ _ _ _ _ C c k b8 ce (ac.ext eb) (ay.ext eb)).mono;intro e cj h;exact h.toX (fun j H=>(e6 j H).2)
 have bx:=Yh ce;have bv:=Yh b8;have ew:=Yh dl;have eq:=Yh dd;have bc:=Yh dq;have ey:=Yh du;have ep:YH (Mu c):=ex.o c (Qh Q.o);have eo:=Yh O;have co:=Yh dh;have I:=Yh av
 clear cb dc b6 O dh av ae a1 af a6 a7 a8 bm bn ac dp ay ce b8 dl dd dq du;refine DL Yk [.pur (Pt b),.pur (Pt b),.pur (pointer (some ⟨b,2,none⟩)),.pur (slice (some ⟨l,0,none⟩) (r.length+1) wc),.pur (int i64 r.length),.pur (pointer (some ⟨l,r.length*5,none⟩)),.pur (pointer (some ⟨l,r.length*5,none⟩)),.pur (agg #[slice c6 C.goals.length c7,slice ei C.vals.length ej,slice eg C.done.length eh,int i64 C.vars]),
  .pur (Pt b),.pur (Pt b),.pur (Pt b),.pur (slice (some ⟨lb,0,none⟩) cs.length cc),.pur (int i64 k),.pur (pointer (some ⟨lb,k*3,none⟩)),.pur (agg #[slice cy c.head.length cz,slice c0 c.body.length c1,slice c2 c.names.length c3]),
  .cal,.post (fun v=>v),.post (A9 0),.post (A9 1),.alo 87 #[Nl,Nl,Nl,int i64 0] 20 (fun v=>cellsOf (A9 0 v)),.sto 19,.post (A9 1)] 15 Yk (Ke C c k) 97 _ Ke.stable er.o ?_ rfl Yd ?_
 ·refine⟨fun vc β u f=> ?_,fun vc β u f=> ?_,fun vc β u f=> ?_,fun vc β u f=> ?_,fun vc β u f=> ?_,fun vc β u f=> ?_,fun vc β u f=> ?_,fun vc β u f=> ?_,fun vc β u f=> ?_,fun vc β u f=> ?_,fun vc β u f=> ?_,fun vc β u f=> ?_,fun vc β u f=> ?_,fun vc β u f=> ?_,fun vc β u f=> ?_,fun vc β u=> ?_,?_,?_,?_,fun vc β u=> ?_,?_,?_,trivial⟩
  all_goals try(simp[pa,Kd.val,go_sem,f.up U,f.up b2,f.up ct,f.up cu,f.up cv,f.up cw,f.up ec,f.up ed,f.up ee,fd];done)
  all_goals try(simp[pa,Kd.val,go_sem];done)
  all_goals try(rintro vc β an u ⟨Z,b3,aa,aj,ak,al,ag,ah,ai,ck,ef,rfl,_⟩;simp[pa,Kd.val,go_sem,A9];done)
  all_goals try(simp[pa,Kd.val,go_sem];intro h;omega)
  rintro vc β an u t gj gd cl dw ⟨Z,b3,aa,aj,ak,al,ag,ah,ai,ck,ef,rfl,_⟩ hb;simp at dw;obtain⟨rfl,rfl,rfl,rfl⟩:=dw;have bo:=Aa hb 0 _ rfl;have bp:=Aa hb 1 _ rfl;have bq:=Aa hb 2 _ rfl;have br:=Aa hb 3 _ rfl;have fu:=fun i=>Ag hb i;refine⟨_,?_,Ae (Ae (Ae (Ae hb 0 _) 1 _) 2 _) 3 _,((((Ad.refl (only (β 19)) u).put 0 _).put 1 _).put 2 _).put 3 _⟩;simp[pa,Kd.val,go_sem,bo,bp,bq,br,fu,A9]
 rintro vc β w5 az ⟨Z,b3,aa,aj,ak,al,ag,ah,ai,ck,ef,rfl,fi⟩ ds _;have az:=az.undrew;obtain⟨e7,D⟩:=ds 19 _ _ _ _ rfl;have ad:w5.heap[β 19]?=some (.cells #[slice Z b3 aa,slice aj ak al,slice ag ah ai,int i64 ck] 87 (0,0)):=D;generalize e8:β 19=bt at*;have bo:=Aa ad 0 _ rfl;have bp:=Aa ad 1 _ rfl;have bq:=Aa ad 2 _ rfl;have br:=Aa ad 3 _ rfl;have b4:=eo.o.ext az;have bb:=Yh (co.o.then (Ad.of_below az) (S':=fun j=>S.heap.size<=j) (fun i hi f4=>by have:=co.o.size;omega));have ax:=b4.box;rw[I.o]at ax;simp only[CX.cells,Qf]at ax;rw[cm.o]at ax;clear U b1 b2 V ao ap aq W Y ct cu cv cw ec ed ee;obtain⟨U,b1,b2,V,ao,ap,aq,W,Y⟩:=IA ax;have f2:=Ac ad;have F:=Yh b4;have ci:s.way=(n,k+1)::r:=by rw[I.o]
 have d2:s.tree.length+s.way.length<=100000:=by
  have ar:=ba.o.len;have L:=e1.o;rw[J.o]at ar;rw[I.o];simp only[Qf]at ar⊢;omega
 have d3:∀y∈s.way,1<=y.2/\y.2<=4000:=fun y g=>by
  rw[ci]at g;rcases Qp.1 g with rfl|g
  ·exact⟨Nat.succ_le_succ (Qm _),by show k+1<=_;omega⟩
  ·have ar:=(ba.o.way y (by rw[J.o];simp[g])).2.2.1;have L:=ba.o.used;rw[J.o]at L;exact⟨L.2.1 y g,Yo⟩
 have P:YH (∀u (bl:CX) (N:SN),Dj u b bl cs a N->N.way.length<=200000->(∀y∈N.way,y.2<=4000)->N.tree.length+N.way.length<=200000->Calls prog 53 #[Pt b] u fun e w'=>e=Rq #[]/\Ad (only b) u w'/\Dj w' b bl cs a (CE cs N)):=fun u bl N ar L e4 e5=>MW u b bl cs a N ar L e4 e9 e5;have R:=Yh d2;have bz:=Yh d3;have e3:=Yh ci;clear d2 d3 ci D ad ax b4 ds az;simp only[CD,pa,Kd.val,Ja,Act.put,A9];rw[e8];rcases fi with⟨rfl,E⟩|⟨rfl,K,E⟩|⟨rfl,K,q0,bi,E,rfl,rfl,fb,fk,fj⟩
 ·have fh:(Ax n c k).2=0:=by
   rcases E with h|h
   ·exact absurd (QS (by rw[<-bc.o.gl,h];rfl)) e0.o
   ·exact(Eb bv.o bc.o bx.o h).1.symm
  have M:AQ cs m=CE cs s:=by
   unfold AQ;rw[J.o];simp only[Q.o];rw[QP Yo,QP Yo,I.o,bd.o]
  have bu:=Yh (P.o w5 _ s F.o (by have:=R.o;omega) (fun y g=>(bz.o y g).2) (by have:=R.o;omega));have am:=Yh M;clear E fh M P;go_wp2_with fail;apply bu.o.mono;rintro e q ⟨rfl,au,G⟩;have bs:YH (∃z,Ad (CF b ⟨some ⟨lb,0,none⟩,cc,na,nc,some ⟨l,0,none⟩,wc,va,vl,vc,fa,fl,fc⟩) w q/\Dj q b z cs a (AQ cs m)/\El w ⟨some ⟨lb,0,none⟩,cc,na,nc,some ⟨l,0,none⟩,wc,va,vl,vc,fa,fl,fc⟩ z):=⟨_,bb.o.trans (au.mono (fun i _ e=>QG e)),by rw[am.o];exact G,⟨fun j H=>QG H,rfl,rfl,rfl,rfl,fun j H=>QG H⟩⟩;clear au G;go_wp2;go_end0;exact⟨rfl,bs.o⟩
 ·have d4:(Ax n c k).2=3:=(Eb bv.o bc.o bx.o E).1.symm;obtain⟨d,A⟩:∃d:SN,d={s with status:=3}:=⟨_,rfl⟩;have M:AQ cs m=CE cs d:=by
   unfold AQ;rw[J.o];simp only[Q.o];rw[QQ d4,A,I.o,bd.o]
  have b7:Ad (only b) w5 (w5.setCell ⟨b,4,none⟩ (int i64 3)):=(Ad.refl _ _).put 4 _;have c8:Dj (w5.setCell ⟨b,4,none⟩ (int i64 3)) b ⟨some ⟨lb,0,none⟩,cc,na,nc,some ⟨l,0,none⟩,wc,va,vl,vc,fa,fl,fc⟩ cs a d:=by
   refine F.o.upd b7 ?_ ⟨rfl,rfl,rfl,rfl⟩ (by rw[A];exact F.o.way) (fun h=>by rw[A]at h;simp at h);have:=Ae F.o.box 4 (int i64 3);rw[A];exact this
  have B:d.way=s.way/\d.tree=s.tree:=by rw[A];exact⟨rfl,rfl⟩
  have bu:=Yh (P.o _ _ d c8 (by rw[B.1];have:=R.o;omega) (fun y g=>(bz.o y (by rw[<-B.1];exact g)).2) (by rw[B.1,B.2];have:=R.o;omega));have am:=Yh M;have es:=Yh (bb.o.trans (b7.mono (fun i _ e=>QG e)));clear E d4 M P c8 b7 B A;go_wp2_with fail;apply bu.o.mono;rintro e q ⟨rfl,au,G⟩;have bs:YH (∃z,Ad (CF b ⟨some ⟨lb,0,none⟩,cc,na,nc,some ⟨l,0,none⟩,wc,va,vl,vc,fa,fl,fc⟩) w q/\Dj q b z cs a (AQ cs m)/\El w ⟨some ⟨lb,0,none⟩,cc,na,nc,some ⟨l,0,none⟩,wc,va,vl,vc,fa,fl,fc⟩ z):=⟨_,es.o.trans (au.mono (fun i _ e=>QG e)),by rw[am.o];exact G,⟨fun j H=>QG H,rfl,rfl,rfl,rfl,fun j H=>QG H⟩⟩;clear au G;go_wp2;go_end0;exact⟨rfl,bs.o⟩
 ·obtain⟨c4,c5⟩:=Eb bv.o bc.o bx.o E;obtain⟨dn,dr⟩:=c5 bi;have cf:(Ax n c k).2=1\/(Ax n c k).2=2:=by rw[<-c4];exact bi
  have dm:=OM E bi ew.o ey.o;have de:=N5 E bi eq.o ep.o;obtain⟨fn,dy,_⟩:=fb;obtain⟨fo,d8,_⟩:=fk;obtain⟨fp,d5,_⟩:=fj;have dj:F1 w5 (slice Z K.goals.length aa) (slice aj ak al) (slice ag ah ai) K:=⟨⟨fn,dy⟩,⟨fo,d8⟩,⟨fp,d5⟩⟩;have db:CV w5 (slice Z K.goals.length aa) (slice aj ak al) (slice ag ah ai) (int i64 K.vars) (Ax n c k).1:=⟨K,dj,rfl,dn,dm,de,dr⟩;obtain⟨X,bf⟩:=Ex (Lib.decDigits k);have fy:X.length<=24:=by rw[bf];have:=D8 k;omega
  obtain⟨T,aw⟩:=Ex m.tree;have fx:T.length<=100000:=by
   have:=R.o;rw[I.o]at this;simp only at this;rw[aw];omega
  obtain⟨d,A⟩:∃d:SN,d={s with tree:=T++X}:=⟨_,rfl⟩;have di:s.tree=T:=by rw[I.o,aw]
  have M:AQ cs m=CE cs (B3 d (Ax n c k).1):=by
   unfold AQ;rw[J.o];simp only[Q.o];rw[QP Yo,QQ cf,A,I.o,bd.o,aw,bf]
  obtain⟨q,bj⟩:=Ex (w5.drew.setCell ⟨b,7,none⟩ (string ⟨(T++X).toArray⟩));have ab:Ad (only b) w5 q:=by rw[bj];exact((Ad.refl _ _).drew).put 7 _
  have G:Dj q b ⟨some ⟨lb,0,none⟩,cc,na,nc,some ⟨l,0,none⟩,wc,va,vl,vc,fa,fl,fc⟩ cs a d:=by
   refine F.o.upd ab ?_ ⟨rfl,rfl,rfl,rfl⟩ (by rw[A];exact F.o.way) (fun h=>by rw[A]at h⊢;exact F.o.found h);have:=Ae (w:=w5.drew) F.o.box 7 (string ⟨(T++X).toArray⟩);rw[bj,A];exact this
  have b5:=db.keep ab F.o.off;have B:d.way=s.way/\d.tree=T++X:=by rw[A];exact⟨rfl,rfl⟩
  have fg:d.tree.length+d.way.length<=150000:=by
   have:=R.o;rw[B.1,B.2,Qg];rw[di]at this;omega
  have d7:(Ax n c k).1.used=En d.way:=by
   have L:=ba.o.used;rw[J.o]at L;rw[Gf cf,B.1,e3.o,L6,L.1]
  have bg:∀y∈d.way,1<=y.2/\y.2<=4000:=fun y g=>bz.o y (by rw[<-B.1];exact g);have cn:YH (Calls prog 52 #[Pt b,agg #[slice Z K.goals.length aa,slice aj ak al,slice ag ah ai,int i64 K.vars]] q fun e w'=>e=Rq #[]/\∃z,Ad (CF b ⟨some ⟨lb,0,none⟩,cc,na,nc,some ⟨l,0,none⟩,wc,va,vl,vc,fa,fl,fc⟩) q w'/\Dj w' b z cs a (B3 d (Ax n c k).1)/\El q ⟨some ⟨lb,0,none⟩,cc,na,nc,some ⟨l,0,none⟩,wc,va,vl,vc,fa,fl,fc⟩ z):=by
   by_cases dz:(Ax n c k).1.goals=[]
   ·exact SO q b _ cs a d _ _ _ _ _ G b5 Yo dz d7 bg (by rw[B.2,Qg];omega)
   ·exact LA q b _ cs a d _ _ _ _ _ G b5 Yo dz (by rw[B.2,Qg];omega)
  have bw:YH ((B3 d (Ax n c k).1).way.length<=200000/\(∀y∈(B3 d (Ax n c k).1).way,y.2<=4000)/\(B3 d (Ax n c k).1).tree.length+(B3 d (Ax n c k).1).way.length<=200000):=by
   show _/\_/\_;unfold B3;split
   ·simp only[Qg,Qn];exact⟨Yo,fun y g=>(bg y g).2,Yo⟩
   ·simp only[Qg,Qt,Qf];refine⟨Yo,fun y g=> ?_,Yo⟩;rcases Qp.1 g with rfl|g
    ·exact Qm _
    ·exact(bg y g).2
  have cq:=Yh (IQ k w5.drew Yo);rw[<-bf]at cq;have am:=Yh M;have cp:=Yh ab;have f7:=ab.size;have e2:=Yh bj;have a9:∀i v,w5.cell? ⟨bt,i,none⟩=some v->q.cell? ⟨bt,i,none⟩=some v:=fun i v a2=>ab.cell a2 (fun e=>by
   have e:bt=b:=e;have:S.heap.size<=bt:=e7;omega)
  have bo:=a9 0 _ bo;have bp:=a9 1 _ bp;have bq:=a9 2 _ bq;have br:=a9 3 _ br;have b0:w5.drew.cell? ⟨b,7,none⟩=some (string ⟨T.toArray⟩):=by rw[aw];exact W
  have cr:∀i,w5.drew.frozen? ⟨b,i,none⟩=false:=Y;have f1:bt<q.heap.size:=Yo
  clear E c4 c5 dn dr cf dm de dy d8 d5 dj db bf aw A di M G b5 B fg d7 bg ab bj a9 U b1 b2 V ao ap aq W Y;go_wp2_with fail;refine BW Yk 999 [.rd 0 2 (fun _=>Pt b),.rd 0 2 (fun _=>Pt b),.rd 0 2 (fun _=>pointer (some ⟨b,7,none⟩)),.rd 0 1 (fun _=>string ⟨T.toArray⟩),.rd 0 2 (fun _=>int i64 k),.st 0,.rd 1 2 (fun _=>string ⟨(T++X).toArray⟩),.rd 0 2 (fun _=>Pt b),.rd 0 2 (fun _=>pointer (some ⟨b,7,none⟩)),.st 1] 2 7 Yk (RH w5.drew b T X) rfl ?_ ?_
  ·refine⟨⟨trivial,fun vs y _ hl p=> ?_⟩,⟨trivial,fun vs y _ hl p=> ?_⟩,⟨trivial,fun vs y _ hl p=> ?_⟩,⟨trivial,fun vs y _ hl p=> ?_⟩,⟨trivial,fun vs y _ hl p=> ?_⟩,⟨trivial,fun vs y hl p=> ?_⟩,⟨trivial,fun vs y fe hl p=> ?_⟩,⟨trivial,fun vs y _ hl p=> ?_⟩,⟨trivial,fun vs y _ hl p=> ?_⟩,⟨trivial,fun vs y hl p=> ?_⟩,trivial⟩
   ·simp[go_sem]
   ·simp[go_sem]
   ·simp[go_sem]
   ·obtain rfl:=p.at.1 hl;simp[go_sem,b0]
   ·simp[go_sem]
   ·obtain rfl:=Q3.1 hl;obtain rfl:y=w5.drew:=p;refine .call 41 #[int i64 k] _ (by simp[go_sem]) (cq.o.mono ?_);rintro e u ⟨rfl,rfl⟩;exact⟨_,rfl,rfl,rfl⟩
   ·have h0:=p.at.2 fe;rw[QZ]at h0;simp[go_sem,h0,AA,show¬9223372036854775807<T.length+X.length by omega]
   ·simp[go_sem]
   ·simp[go_sem]
   ·obtain⟨v,rfl⟩:=Q1.1 hl;obtain⟨rfl,a2⟩:=p;exact .skip _ (by simp[go_sem,b0,cr]) ⟨a2,rfl⟩
  rintro vs y hl p;obtain⟨v,bk,rfl⟩:∃v bk,vs=[v,bk]:=by
   match vs,hl with
   |[v,bk],_=>exact⟨v,bk,rfl⟩
  obtain⟨a2,g⟩:=p;rw[<-e2.o]at g;subst g;simp only[EB,IB,CD,pa,Ph.kd,Ph.val,Kd.val,Qx,QX,Ja,Act.put,JC,JD,JG];clear a2 b0 cr;go_wp2_with fail;apply cn.o.mono;rintro e w7 ⟨rfl,el,df,c9,dk⟩;have eu:=Yh (P.o w7 el _ c9 bw.o.1 bw.o.2.1 bw.o.2.2);have et:=Yh df;have ev:=Yh dk;clear df c9 dk P cn;go_wp2_with fail;apply eu.o.mono;rintro e ek ⟨rfl,dg,da⟩;have en:YH (∃z,Ad (CF b ⟨some ⟨lb,0,none⟩,cc,na,nc,some ⟨l,0,none⟩,wc,va,vl,vc,fa,fl,fc⟩) w ek/\Dj ek b z cs a (AQ cs m)/\El w ⟨some ⟨lb,0,none⟩,cc,na,nc,some ⟨l,0,none⟩,wc,va,vl,vc,fa,fl,fc⟩ z):=⟨el,((bb.o.trans (cp.o.mono (fun i _ e=>QG e))).trans et.o).trans (dg.mono (fun i _ e=>QG e)),by rw[am.o];exact da,ev.o.down (Qq bb.o.size cp.o.size)⟩;clear dg da;go_wp2;go_end0;exact⟨rfl,en.o⟩
structure BH(X:Nat->Prop)(w:World)(s:SC)(cs:List Db)(a:List (List BJ)×At)(D:List (ND×Nat))(m:SN):Prop where
 ref:GX X w s cs a D m.status m.found
 trim:m.status≠3->Cw cs.length D=m.way
 len:D.length<=1+m.tries
 next:∀x∈D,x.2<=cs.length
theorem BH.ext{s:SC}{D:Ln}(h:BH X w s cs a D m)(e:Ao w w'):BH X w' s cs a D m:=⟨h.ref.ext e,h.trim,h.len,h.next⟩
theorem BH.keep{s:SC}{D:Ln}(h:BH X w s cs a D m)(c:Ad S w w')(b:Dz S w):BH X w' s cs a D m:=⟨h.ref.keep c b,h.trim,h.len,h.next⟩
def SC.cells(s:SC)(cl al nl wl:Nat)(st tr:Int):Av:=#[.slice s.la cl s.lc,.slice s.aa al s.ac,.slice s.na nl s.nc,.slice s.da wl s.dc,.int .i64 st,.int .i64 tr,.slice s.f0a s.f0l s.f0c,.slice s.f1a s.f1l s.f1c,.slice s.f2a s.f2l s.f2c,.slice s.f3a s.f3l s.f3c,.int .i64 s.f4]
theorem K8{a:Av}{c:Nat×Nat}(d:w.heap[b]?=some (.cells a 154 c)):Dz (only b) w:=fun k e=>by
 have:k=b:=e;subst this;exact⟨_,_,_,d,by simp[HR]⟩
theorem BH.tried{s:SC}{n:ND}{L T:Nat}(p:m.way=(n,k)::r)(e:cs[k]?=some c)(h0:m.status=0)(g:∀x∈r,x.2<=cs.length)(hl:r.length+1<=1+m.tries)
  (h:GX X w s cs a (Ci n c k r) (Ch n c k) (Ax n c k).1):BH X w s cs a (Ci n c k r) (AQ cs m):=by
 obtain⟨i,j,l,o⟩:=ES p e h0;have f:=(Qa.1 e).1;refine⟨⟨h.cls,h.ask,h.dues,fun d=> ?_,h.xok⟩,fun _=>i.symm,?_,?_⟩
 ·rw[j]at d;rw[o d];exact h.found d
 ·rw[l];unfold Ci;split<;>simp<;>omega
 ·intro x b;unfold Ci at b;split at b
  ·rcases Qp.1 b with rfl|b
   ·exact Qm _
   ·rcases Qp.1 b with rfl|b
    ·exact f
    ·exact g x b
  ·rcases Qp.1 b with rfl|b
   ·exact f
   ·exact g x b
theorem Kk{z y x u s q p n m k j:Value}(h:w.heap[b]?=some (.cells #[z,y,x,u,s,q,p,n,m,k,j] t (0,0)))(a c d e f g i l o r v:Value):(((((((((((w.setCell ⟨b,0,none⟩ a).setCell ⟨b,1,none⟩ c).setCell ⟨b,2,none⟩ d).setCell ⟨b,3,none⟩ e).setCell ⟨b,4,none⟩ f).setCell ⟨b,5,none⟩ g).setCell ⟨b,6,none⟩ i).setCell ⟨b,7,none⟩ l).setCell ⟨b,8,none⟩ o).setCell ⟨b,9,none⟩ r).setCell ⟨b,10,none⟩ v).heap[b]?=some (.cells #[a,c,d,e,f,g,i,l,o,r,v] t (0,0)):=by
 have h0:(w.setCell ⟨b,0,none⟩ a).heap[b]?=some (.cells #[a,y,x,u,s,q,p,n,m,k,j] t (0,0)):=Ae h 0 _;have A:((w.setCell ⟨b,0,none⟩ a).setCell ⟨b,1,none⟩ c).heap[b]?=some (.cells #[a,c,x,u,s,q,p,n,m,k,j] t (0,0)):=Ae h0 1 _;have C:(((w.setCell ⟨b,0,none⟩ a).setCell ⟨b,1,none⟩ c).setCell ⟨b,2,none⟩ d).heap[b]?=some (.cells #[a,c,d,u,s,q,p,n,m,k,j] t (0,0)):=Ae A 2 _;have D:((((w.setCell ⟨b,0,none⟩ a).setCell ⟨b,1,none⟩ c).setCell ⟨b,2,none⟩ d).setCell ⟨b,3,none⟩ e).heap[b]?=some (.cells #[a,c,d,e,s,q,p,n,m,k,j] t (0,0)):=Ae C 3 _;have E:(((((w.setCell ⟨b,0,none⟩ a).setCell ⟨b,1,none⟩ c).setCell ⟨b,2,none⟩ d).setCell ⟨b,3,none⟩ e).setCell ⟨b,4,none⟩ f).heap[b]?=some (.cells #[a,c,d,e,f,q,p,n,m,k,j] t (0,0)):=Ae D 4 _;have F:((((((w.setCell ⟨b,0,none⟩ a).setCell ⟨b,1,none⟩ c).setCell ⟨b,2,none⟩ d).setCell ⟨b,3,none⟩ e).setCell ⟨b,4,none⟩ f).setCell ⟨b,5,none⟩ g).heap[b]?=some (.cells #[a,c,d,e,f,g,p,n,m,k,j] t (0,0)):=Ae E 5 _;have G:(((((((w.setCell ⟨b,0,none⟩ a).setCell ⟨b,1,none⟩ c).setCell ⟨b,2,none⟩ d).setCell ⟨b,3,none⟩ e).setCell ⟨b,4,none⟩ f).setCell ⟨b,5,none⟩ g).setCell ⟨b,6,none⟩ i).heap[b]?=some (.cells #[a,c,d,e,f,g,i,n,m,k,j] t (0,0)):=Ae F 6 _;have H:((((((((w.setCell ⟨b,0,none⟩ a).setCell ⟨b,1,none⟩ c).setCell ⟨b,2,none⟩ d).setCell ⟨b,3,none⟩ e).setCell ⟨b,4,none⟩ f).setCell ⟨b,5,none⟩ g).setCell ⟨b,6,none⟩ i).setCell ⟨b,7,none⟩ l).heap[b]?=some (.cells #[a,c,d,e,f,g,i,l,m,k,j] t (0,0)):=Ae G 7 _;have I:(((((((((w.setCell ⟨b,0,none⟩ a).setCell ⟨b,1,none⟩ c).setCell ⟨b,2,none⟩ d).setCell ⟨b,3,none⟩ e).setCell ⟨b,4,none⟩ f).setCell ⟨b,5,none⟩ g).setCell ⟨b,6,none⟩ i).setCell ⟨b,7,none⟩ l).setCell ⟨b,8,none⟩ o).heap[b]?=some (.cells #[a,c,d,e,f,g,i,l,o,k,j] t (0,0)):=Ae H 8 _;have J:((((((((((w.setCell ⟨b,0,none⟩ a).setCell ⟨b,1,none⟩ c).setCell ⟨b,2,none⟩ d).setCell ⟨b,3,none⟩ e).setCell ⟨b,4,none⟩ f).setCell ⟨b,5,none⟩ g).setCell ⟨b,6,none⟩ i).setCell ⟨b,7,none⟩ l).setCell ⟨b,8,none⟩ o).setCell ⟨b,9,none⟩ r).heap[b]?=some (.cells #[a,c,d,e,f,g,i,l,o,r,j] t (0,0)):=Ae I 9 _;have B:(((((((((((w.setCell ⟨b,0,none⟩ a).setCell ⟨b,1,none⟩ c).setCell ⟨b,2,none⟩ d).setCell ⟨b,3,none⟩ e).setCell ⟨b,4,none⟩ f).setCell ⟨b,5,none⟩ g).setCell ⟨b,6,none⟩ i).setCell ⟨b,7,none⟩ l).setCell ⟨b,8,none⟩ o).setCell ⟨b,9,none⟩ r).setCell ⟨b,10,none⟩ v).heap[b]?=some (.cells #[a,c,d,e,f,g,i,l,o,r,v] t (0,0)):=Ae J 10 _;exact B
theorem MS(n:ND)(c:Db)(k:Nat):Ch n c k≠2:=by
 unfold Ch;split
 ·omega
 ·split<;>omega
theorem B6{n:Nat}{s:SN}(h:n=0\/s.status≠0\/s.way=[]\/3000<=s.tries):CN cs n s=(s,0):=by
 cases n with
 |zero=>rfl
 |succ n=>
  unfold CN;rw[QP];rintro⟨a,b,c⟩;rcases h with h|h|h|h
  ·omega
  ·exact h a
  ·exact b h
  ·omega
theorem Rn{n:Nat}{s:SN}(a:s.status=0)(b:s.way≠[])(c:s.tries<3000):CN cs (n+1) s=((CN cs n (AQ cs s)).1,(CN cs n (AQ cs s)).2+1):=by
 rw[CN,QQ ⟨a,b,c⟩]
theorem E3{n j:Nat}{a:SN}(h:m.status≠2/\m.status≠3)(hl:CN cs n {m with status:=0}=((CN cs (n-j) a).1,(CN cs (n-j) a).2+j))(b:CN cs (n-j) a=(a,0)):Ff cs n m=(Dt a,j):=by
 unfold Ff;rw[QP Yo,hl,b];simp
theorem BH.end_ne{s:SC}{D:Ln}(h:BH X w s cs a D m)(h0:m.status≠0):BH X w s cs a D (Dt m)/\(Dt m).status=m.status/\(Dt m).tries=m.tries:=by
 unfold Dt;split
 ·rename_i c;exact⟨⟨⟨h.ref.cls,h.ref.ask,h.ref.dues,fun b=>by simp[FE]at b,h.ref.xok⟩,fun h=>absurd rfl h,h.len,h.next⟩,c.symm,rfl⟩
 ·exact⟨h,rfl,rfl⟩
theorem BH.end_no{s:SC}{D:Ln}(h:BH X w s cs a D m)(h0:m.status=0)(c:m.way=[]):BH X w s cs a D (Dt m)/\(Dt m).status=2/\(Dt m).tries=m.tries:=by
 have e:Dt m={m with status:=2}:=by unfold Dt;rw[QP Yo,QQ h0,QQ c]
 rw[e];exact⟨⟨⟨h.ref.cls,h.ref.ask,h.ref.dues,fun b=>by simp at b,h.ref.xok⟩,fun _=>h.trim Yo,h.len,h.next⟩,rfl,rfl⟩
theorem BH.end_full{s:SC}{D:Ln}(h:BH X w s cs a D m)(h0:m.status=0)(d:m.way≠[])(c:3000<=m.tries):BH X w s cs a D (Dt m)/\(Dt m).status=3/\(Dt m).tries=m.tries:=by
 have e:Dt m=FE m:=by unfold Dt;rw[QP Yo,QQ h0,QP d,QQ c]
 rw[e];exact⟨⟨⟨h.ref.cls,h.ref.ask,h.ref.dues,fun b=>by simp[FE]at b,h.ref.xok⟩,fun h=>absurd rfl h,h.len,h.next⟩,rfl,rfl⟩
theorem BH.end_on{s:SC}{D:Ln}(h:BH X w s cs a D m)(h0:m.status=0)(c:m.way≠[])(b:¬3000<=m.tries):BH X w s cs a D (Dt m)/\(Dt m).status=0/\(Dt m).tries=m.tries:=by
 have e:Dt m=m:=by unfold Dt;rw[QP Yo,QQ h0,QP c,QP b]
 rw[e];exact⟨h,h0,rfl⟩
def Kj(X:Np)(w:World)(cs:Lc)(a:Ll×At)(m:SN)(n:Nat)(e:Ending)(w':World):Prop:=∃(s':SC)(D':Ln),e= .returned (.tuple #[s'.val cs.length a.1.length a.2.length D'.length (Ff cs n m).1.status (Ff cs n m).1.tries,.int .i64 (Ff cs n m).2,.int .i64 0])/\Ao w w'/\BH X w' s' cs a D' (Ff cs n m).1
set_option maxRecDepth 20000 in
theorem SZ(w:World)(s:SC)(cs:Lc)(a:Ll×At)(D:Ln)(m:SN)(n:Nat)(h:BH X w s cs a D m)(a3:DD cs a m)(dd:∀c∈cs,KR c/\Ry c)(db:cs.length<=24)(hn:n<=3000)(bj:m.status≠2/\m.status≠3):
  Calls prog 89 #[s.val cs.length a.1.length a.2.length D.length m.status m.tries,int i64 n] w (Kj X w cs a m n):=by
 obtain⟨HY,dh⟩:∃x,x=m.status:=⟨_,rfl⟩;obtain⟨dx,b0⟩:∃x,x=m.tries:=⟨_,rfl⟩;have en:((HY:Int)==2)=false:=by rw[Qu];omega
 have eo:((HY:Int)==3)=false:=by rw[Qu];omega
 have a0:YH (m.status≠2/\m.status≠3):=bj;have c9:BH X w s cs a D {m with status:=0}:=⟨⟨h.ref.cls,h.ref.ask,h.ref.dues,fun a2=>by simp at a2,h.ref.xok⟩,fun _=>h.trim bj.2,h.len,h.next⟩;have c7:=a3.seek bj.2;rw[<-dh,<-b0];have cg:=Yh b0;clear dh b0 h a3;obtain⟨bg,a7⟩:=Ex ((w.alloc (.cells (s.cells cs.length a.1.length a.2.length D.length 0 dx) 154)).alloc (.cells #[Nl,Nl,Nl,Nl,int i64 0,int i64 0,Nl,Nl,Nl,Nl,int i64 0] 154));have bp:Ao w bg:=by rw[a7];exact Mxt
 have eq:bg.heap.size=w.heap.size+2:=by rw[a7];simp
 have c3:bg.heap[w.heap.size]?=some (.cells (s.cells cs.length a.1.length a.2.length D.length 0 dx) 154 (0,0)):=by rw[a7];exact heap_alloc2_old w _ _
 have c4:bg.heap[w.heap.size+1]?=some (.cells #[Nl,Nl,Nl,Nl,int i64 0,int i64 0,Nl,Nl,Nl,Nl,int i64 0] 154 (0,0)):=by rw[a7];exact heap_alloc2_new w _ _
 have cc:=Yh (c9.ext bp);have b8:=Yh c3;have b9:=Yh c4;have ca:=Yh bp;have cb:=Yh c7;have cd:=Yh a7;have d2:=Yh dd;clear bp c3 c4 a7 c9 c7 dd bj;obtain⟨la,lc,aa,ac,na,nc,da,dc,f0a,f0l,f0c,f1a,f1l,f1c,f2a,f2l,f2c,f3a,f3l,f3c,f4⟩:=s;simp only[SC.val,SC.cells]at*;go_enter func89,ntmps89;go_wp2;rw[<-cd.o]
 go_loopg [7] (n+1) (fun gk ee wr=>∃(j:Nat)(dt:SC)(b:Ln)(d:SN),ee=int i64 j/\j<=n/\n-j<gk/\Ao w wr/\wr.heap[w.heap.size]?=some (.cells (dt.cells cs.length a.1.length a.2.length b.length d.status d.tries) 154 (0,0))/\wr.heap[w.heap.size+1]?=some (.cells #[Nl,Nl,Nl,Nl,int i64 0,int i64 0,Nl,Nl,Nl,Nl,int i64 0] 154 (0,0))/\BH X wr dt cs a b d/\DD cs a d/\CN cs n {m with status:=0}=((CN cs (n-j) d).1,(CN cs (n-j) d).2+j)/\d.status≠2)
 case atStart=>exact⟨0,⟨la,lc,aa,ac,na,nc,da,dc,f0a,f0l,f0c,f1a,f1l,f1c,f2a,f2l,f2c,f3a,f3l,f3c,f4⟩,D,{m with status:=0},Yg,Yo,Yo,ca.o,by rw[<-cg.o];exact b8.o,b9.o,cc.o,cb.o,Ys,Ys⟩
 case round=>
  clear b8 b9 ca cc cb cd cg;obtain⟨j,⟨la,lc,aa,ac,na,nc,da,dc,f0a,f0l,f0c,f1a,f1l,f1c,f2a,f2l,f2c,f3a,f3l,f3c,f4⟩,b,d,rfl,ek,ej,bh,hb,hz,bi,a3,de,ec⟩:=hrel;obtain⟨st,p⟩:∃x,x=d.status:=⟨_,rfl⟩;obtain⟨f,bz⟩:∃x,x=d.tries:=⟨_,rfl⟩;have ed:=a3.st;have d7:=a3.tries;have d9:=bi.len;have dg:=bi.next;rw[<-p,<-bz]at hb;simp only[SC.cells]at hb;obtain⟨F,b1,b2,H,I,J,K,M,N,O,G,P⟩:=Dq hb;obtain⟨Z,ab,ae,af,ag,ah,ai,aj,ak,al,ad,am⟩:=Dq hz;have aw:w.heap.size+1<wr.heap.size:=Ac hz;have l:YH (st=d.status/\f=d.tries):=⟨p,bz⟩;have es:st=0\/st=1\/st=3:=Yo
  have ax:f<=3000:=Yo
  have c6:b.length<=4000:=Yo
  have U:=Yh bh;have bd:=Yh hb;have bf:=Yh hz;have t:=Yh bi;have aq:=Yh a3;have y:=Yh de;have av:=Yh dg;clear bh hb hz bi a3 de ec p bz ed d7 d9 dg
  by_cases bu:st=0
  ·subst bu;have bs:d.status=0:=l.o.1.symm;have an:=Yh bs;obtain⟨a5,dn⟩:∃x,x=d.way.length:=⟨_,rfl⟩;have a1:=Yh dn;obtain⟨eg,c5⟩:=t.o.ref.dues;have b4:=t.o.trim (by rw[bs];decide);have bb:YH (∀u,Ao wr u->Calls prog 112 #[agg #[slice la cs.length lc,slice aa a.1.length ac,slice na a.2.length nc,slice da b.length dc,int i64 0,int i64 f,slice f0a f0l f0c,slice f1a f1l f1c,slice f2a f2l f2c,slice f3a f3l f3c,int i64 f4]] u fun e dz=>∃ta bl,e=returned (slice ta a5 bl)/\Ao u dz):=fun u b5=>(Km u X la cs.length lc aa a.1.length ac na a.2.length nc (slice da b.length dc) 0 f f0a f0l f0c f1a f1l f1c f2a f2l f2c f3a f3l f3c f4 b eg (c5.ext (Y:=X) (B':=0) b5 (fun _ _ h=>h) (Qe _)) c6 (fun x ba=>Qq (av.o x ba) Yo) Yo).mono (by
    rintro e dz ⟨eh,et,rfl,bh,eb⟩;obtain⟨ta,bl,rfl⟩:=Ab eb.owns;exact⟨ta,bl,by rw[b4,Qv,<-a1.o],bh⟩)
   have ch:=Yh b4;clear bs dn c5 b4
   by_cases ea:j<n
   ·by_cases au:f<3000
    ·have d8:(f:Int)<3000:=Yo
     have bm:=Yh au;clear au ax;go_wp2_with fail;apply(bb.o _ (Ao.of (Ad.refl _ _))).mono;rintro e w5 ⟨ta,bl,rfl,a8⟩;have er:=a8.size;have bt:=(a8.block _ Yo).trans bd.o;have dm:=(a8.block _ aw).trans bf.o;obtain⟨F,b1,b2,H,I,J,K,M,N,O,G,P⟩:=Dq bt;have ep:w.heap.size+1<w5.heap.size:=Yo
     have az:=Yh a8;have ce:=Yh bt;have ci:=Yh dm;clear a8 bt dm Z ab ae af ag ah ai aj ak al ad am
     by_cases V:a5=0
     ·have ay:d.way=[]:=QS (by rw[<-a1.o];exact V);have a6:=Yh ay;clear ay;subst V;go_wp2_with fail;apply(bb.o _ az.o).mono;rintro e W ⟨dv,dw,rfl,g⟩;have bw:=g.size;have z:=(g.block _ Yo).trans ce.o;have E:=(g.block _ Yo).trans ci.o;obtain⟨F,b1,b2,H,I,J,K,M,N,O,G,P⟩:=Dq z;obtain⟨Z,ab,ae,af,ag,ah,ai,aj,ak,al,ad,am⟩:=Dq E
      have A:=Yh ((U.o.trans (az.o.mono U.o.size)).trans (g.mono (U.o.trans (az.o.mono U.o.size)).size));have B:=Yh (t.o.ext (az.o.trans (g.mono az.o.size)));have ao:=Yh z;have ar:=Yh E;clear g z E;have C:YH (∀w',Ad (fun k=>w.heap.size<=k/\k<=w.heap.size+1) W w'->Kj X w cs a m n (Rq #[agg #[slice la cs.length lc,slice aa a.1.length ac,slice na a.2.length nc,slice da b.length dc,int i64 2,int i64 f,slice f0a f0l f0c,slice f1a f1l f1c,slice f2a f2l f2c,slice f3a f3l f3c,int i64 f4],int i64 j,int i64 0]) w'):=fun w' q=>by
       have p:=E3 (n:=n) (j:=j) a0.o y.o (B6 (QO (QO (QG a6.o))));obtain⟨Q,R,S⟩:=B.o.end_no an.o a6.o;refine⟨⟨la,lc,aa,ac,na,nc,da,dc,f0a,f0l,f0c,f1a,f1l,f1c,f2a,f2l,f2c,f3a,f3l,f3c,f4⟩,b,?_,?_,?_⟩
       ·rw[p];simp only[R,S,SC.val];rw[<-l.o.2];try rfl
       ·exact A.o.trans (q.below A.o.size (fun _ h=>h.1))
       ·rw[p];exact Q.keep q (DK ao.o ar.o)
      clear t aq y av l B
      try clear au
      try clear ax
      go_wp2;refine Jb (v:=tuple #[agg #[slice la cs.length lc,slice aa a.1.length ac,slice na a.2.length nc,slice da b.length dc,int i64 2,int i64 f,slice f0a f0l f0c,slice f1a f1l f1c,slice f2a f2l f2c,slice f3a f3l f3c,int i64 f4],int i64 j,int i64 0]) (by simp[results,results89,go_sem,Z,ab,ae,af,ag,ah,ai,aj,ak,al,ad,am,F,b1,b2,H,I,J,K,M,N,O,G,P,aw]) rfl ?_;exact C.o _ Mst
     ·have dl:((a5:Int)==0)=false:=by rw[Qu];omega
      have b6:d.way≠[]:=fun e=>V (by rw[a1.o,e];rfl);obtain⟨ap,k,r,c,a4,a9,dj⟩:=aq.o.head b6;have be:=Yh (UL w5 ⟨la,lc,aa,ac,na,nc,da,dc,f0a,f0l,f0c,f1a,f1l,f1c,f2a,f2l,f2c,f3a,f3l,f3c,f4⟩ cs a b f d.found ap k r c (by have:=t.o.ref.ext az.o;rw[an.o]at this;exact this) d2.o db (by rw[ch.o,a4]) a9 dj c6 (fun x ba=>Qq (av.o x ba) Yo) (Qq (JW bm.o) Yd));obtain⟨d5,bo,co,d6⟩:=ES a4 a9 an.o;have df:r.length+1<=1+d.tries:=by
       have a2:=MP cs.length b;rw[ch.o,a4]at a2;have ei:=t.o.len;simp at a2;omega
      have cf:YH (∀u b7,GX X u b7 cs a (Ci ap c k r) (Ch ap c k) (Ax ap c k).1->BH X u b7 cs a (Ci ap c k r) (AQ cs d)):=fun u b7 b5=>BH.tried (L:=0) (T:=0) a4 a9 an.o (fun x ba=>(aq.o.way x (by rw[a4];simp[ba])).2.2.1) df b5;have d3:YH (DD cs a (AQ cs d)):=aq.o.try' db an.o a4 a9 (by rw[<-l.o.2];exact bm.o);have bn:YH ((AQ cs d).status=Ch ap c k/\(AQ cs d).tries=f+1/\(AQ cs d).status≠2):=⟨bo,by rw[co,<-l.o.2],by rw[bo];exact MS _ _ _⟩;have d4:YH (CN cs n {m with status:=0}=((CN cs (n-(j+1)) (AQ cs d)).1,(CN cs (n-(j+1)) (AQ cs d)).2+(j+1))):=by
       have a2:=y.o;rw[show n-j=(n-(j+1))+1 by omega,Rn an.o b6 (by rw[<-l.o.2];exact bm.o)]at a2;show _=_;rw[a2];simp;omega
      clear d5 bo co d6 df a4 a9 dj b6 V;simp only[SC.val]at be;go_wp2_with fail;unfold F2 at be;apply be.o.mono;obtain⟨dy,b3⟩:∃x:Nat,x=f+1:=⟨_,rfl⟩;obtain⟨du,bx⟩:∃x:Nat,x=Ch ap c k:=⟨_,rfl⟩;obtain⟨cj,br⟩:∃x:Nat,x=(Ci ap c k r).length:=⟨_,rfl⟩;have bc:YH (dy=f+1/\du=Ch ap c k/\cj=(Ci ap c k r).length):=⟨b3,bx,br⟩;rw[<-b3,<-bx,<-br];clear b3 bx br;rintro e W ⟨ef,rfl,g,c8⟩;obtain⟨dp,dq,ck,cl,dr,ds,cm,cn,cp,cr,cq,ct,cv,cu,cw,cy,cx,cz,c1,c0,c2⟩:=ef;have bw:=g.size;have z:=(g.block _ Yo).trans ce.o;have E:=(g.block _ Yo).trans ci.o;obtain⟨F,b1,b2,H,I,J,K,M,N,O,G,P⟩:=Dq z;have d0:=Yh g;have ao:=Yh z;have ar:=Yh E;have d1:=Yh (cf.o _ _ (by rw[<-bc.o.2.1];exact c8));clear g z E c8 cf be;simp only[SC.val];go_wp2
      go_roundg (n-j)
      case measure=>omega
      case rel=>
       have bq:Ad (only w.heap.size) W _:=(((((((((((Ad.refl (only w.heap.size) W).put 0 (slice dp cs.length dq)).put 1 (slice ck a.1.length cl)).put 2 (slice dr a.2.length ds)).put 3 (slice cm cj cn)).put 4 (int i64 du)).put 5 (int i64 dy)).put 6 (slice cp cr cq)).put 7 (slice ct cv cu)).put 8 (slice cw cy cx)).put 9 (slice cz c1 c0)).put 10 (int i64 c2);have dk:Ao w W:=(U.o.trans (az.o.mono U.o.size)).trans (d0.o.mono Yo);refine⟨j+1,⟨dp,dq,ck,cl,dr,ds,cm,cn,cp,cr,cq,ct,cv,cu,cw,cy,cx,cz,c1,c0,c2⟩,Ci ap c k r,AQ cs d,Yg,Yo,Yo,dk.trans (bq.below dk.size (fun i hi=>by have:i=w.heap.size:=hi;omega)),?_,?_,d1.o.keep bq (K8 ao.o),d3.o,d4.o,bn.o.2.2⟩
       ·rw[bn.o.1,bn.o.2.1,<-bc.o.1,<-bc.o.2.1,<-bc.o.2.2];exact Kk ao.o _ _ _ _ _ _ _ _ _ _ _
       ·exact(bq.block _ Yo (fun e=>by have:w.heap.size+1=w.heap.size:=e;omega)).trans ar.o
    ·have di:(3000:Int)<=(f:Int):=Yo
     have d8:¬(f:Int)<3000:=Yo
     clear au ax;go_wp2_with fail;apply(bb.o _ (Ao.of (Ad.refl _ _))).mono;rintro e W ⟨dv,dw,rfl,g⟩;have bw:=g.size;have z:=(g.block _ Yo).trans bd.o;have E:=(g.block _ Yo).trans bf.o;obtain⟨F,b1,b2,H,I,J,K,M,N,O,G,P⟩:=Dq z;obtain⟨Z,ab,ae,af,ag,ah,ai,aj,ak,al,ad,am⟩:=Dq E
     have A:=Yh (U.o.trans (g.mono U.o.size));have B:=Yh (t.o.ext (g));have ao:=Yh z;have ar:=Yh E;clear g z E
     by_cases V:a5=0
     ·have ay:d.way=[]:=QS (by rw[<-a1.o];exact V);have a6:=Yh ay;clear ay;subst V;have C:YH (∀w',Ad (fun k=>w.heap.size<=k/\k<=w.heap.size+1) W w'->Kj X w cs a m n (Rq #[agg #[slice la cs.length lc,slice aa a.1.length ac,slice na a.2.length nc,slice da b.length dc,int i64 2,int i64 f,slice f0a f0l f0c,slice f1a f1l f1c,slice f2a f2l f2c,slice f3a f3l f3c,int i64 f4],int i64 j,int i64 0]) w'):=fun w' q=>by
       have p:=E3 (n:=n) (j:=j) a0.o y.o (B6 (QO (QO (QO (by rw[<-l.o.2];omega)))));obtain⟨Q,R,S⟩:=B.o.end_no an.o a6.o;refine⟨⟨la,lc,aa,ac,na,nc,da,dc,f0a,f0l,f0c,f1a,f1l,f1c,f2a,f2l,f2c,f3a,f3l,f3c,f4⟩,b,?_,?_,?_⟩
       ·rw[p];simp only[R,S,SC.val];rw[<-l.o.2];try rfl
       ·exact A.o.trans (q.below A.o.size (fun _ h=>h.1))
       ·rw[p];exact Q.keep q (DK ao.o ar.o)
      clear t aq y av l B
      try clear au
      try clear ax
      go_wp2;refine Jb (v:=tuple #[agg #[slice la cs.length lc,slice aa a.1.length ac,slice na a.2.length nc,slice da b.length dc,int i64 2,int i64 f,slice f0a f0l f0c,slice f1a f1l f1c,slice f2a f2l f2c,slice f3a f3l f3c,int i64 f4],int i64 j,int i64 0]) (by simp[results,results89,go_sem,Z,ab,ae,af,ag,ah,ai,aj,ak,al,ad,am,F,b1,b2,H,I,J,K,M,N,O,G,P,aw]) rfl ?_;exact C.o _ Mst
     ·have dl:((a5:Int)==0)=false:=by rw[Qu];omega
      have bk:d.way≠[]:=fun e=>V (by rw[a1.o,e];rfl);have C:YH (∀w',Ad (fun k=>w.heap.size<=k/\k<=w.heap.size+1) W w'->Kj X w cs a m n (Rq #[agg #[slice la cs.length lc,slice aa a.1.length ac,slice na a.2.length nc,slice da b.length dc,int i64 3,int i64 f,slice f0a f0l f0c,slice f1a f1l f1c,slice f2a f2l f2c,slice f3a f3l f3c,int i64 f4],int i64 j,int i64 0]) w'):=fun w' q=>by
       have p:=E3 (n:=n) (j:=j) a0.o y.o (B6 (QO (QO (QO (by rw[<-l.o.2];omega)))));obtain⟨Q,R,S⟩:=B.o.end_full an.o bk (by rw[<-l.o.2];omega);refine⟨⟨la,lc,aa,ac,na,nc,da,dc,f0a,f0l,f0c,f1a,f1l,f1c,f2a,f2l,f2c,f3a,f3l,f3c,f4⟩,b,?_,?_,?_⟩
       ·rw[p];simp only[R,S,SC.val];rw[<-l.o.2];try rfl
       ·exact A.o.trans (q.below A.o.size (fun _ h=>h.1))
       ·rw[p];exact Q.keep q (DK ao.o ar.o)
      clear t aq y av l B
      try clear au
      try clear ax
      go_wp2;refine Jb (v:=tuple #[agg #[slice la cs.length lc,slice aa a.1.length ac,slice na a.2.length nc,slice da b.length dc,int i64 3,int i64 f,slice f0a f0l f0c,slice f1a f1l f1c,slice f2a f2l f2c,slice f3a f3l f3c,int i64 f4],int i64 j,int i64 0]) (by simp[results,results89,go_sem,Z,ab,ae,af,ag,ah,ai,aj,ak,al,ad,am,F,b1,b2,H,I,J,K,M,N,O,G,P,aw]) rfl ?_;exact C.o _ Mst
   ·go_wp2_with fail;apply(bb.o _ (Ao.of (Ad.refl _ _))).mono;rintro e W ⟨dv,dw,rfl,g⟩;have bw:=g.size;have z:=(g.block _ Yo).trans bd.o;have E:=(g.block _ Yo).trans bf.o;obtain⟨F,b1,b2,H,I,J,K,M,N,O,G,P⟩:=Dq z;obtain⟨Z,ab,ae,af,ag,ah,ai,aj,ak,al,ad,am⟩:=Dq E
    have A:=Yh (U.o.trans (g.mono U.o.size));have B:=Yh (t.o.ext (g));have ao:=Yh z;have ar:=Yh E;clear g z E
    by_cases V:a5=0
    ·have ay:d.way=[]:=QS (by rw[<-a1.o];exact V);have a6:=Yh ay;clear ay;subst V;have C:YH (∀w',Ad (fun k=>w.heap.size<=k/\k<=w.heap.size+1) W w'->Kj X w cs a m n (Rq #[agg #[slice la cs.length lc,slice aa a.1.length ac,slice na a.2.length nc,slice da b.length dc,int i64 2,int i64 f,slice f0a f0l f0c,slice f1a f1l f1c,slice f2a f2l f2c,slice f3a f3l f3c,int i64 f4],int i64 j,int i64 0]) w'):=fun w' q=>by
      have p:=E3 (n:=n) (j:=j) a0.o y.o (B6 (QG Yo));obtain⟨Q,R,S⟩:=B.o.end_no an.o a6.o;refine⟨⟨la,lc,aa,ac,na,nc,da,dc,f0a,f0l,f0c,f1a,f1l,f1c,f2a,f2l,f2c,f3a,f3l,f3c,f4⟩,b,?_,?_,?_⟩
      ·rw[p];simp only[R,S,SC.val];rw[<-l.o.2];try rfl
      ·exact A.o.trans (q.below A.o.size (fun _ h=>h.1))
      ·rw[p];exact Q.keep q (DK ao.o ar.o)
     clear t aq y av l B
     try clear au
     try clear ax
     go_wp2;refine Jb (v:=tuple #[agg #[slice la cs.length lc,slice aa a.1.length ac,slice na a.2.length nc,slice da b.length dc,int i64 2,int i64 f,slice f0a f0l f0c,slice f1a f1l f1c,slice f2a f2l f2c,slice f3a f3l f3c,int i64 f4],int i64 j,int i64 0]) (by simp[results,results89,go_sem,Z,ab,ae,af,ag,ah,ai,aj,ak,al,ad,am,F,b1,b2,H,I,J,K,M,N,O,G,P,aw]) rfl ?_;exact C.o _ Mst
    ·have dl:((a5:Int)==0)=false:=by rw[Qu];omega
     have bk:d.way≠[]:=fun e=>V (by rw[a1.o,e];rfl)
     by_cases au:3000<=f
     ·have di:(3000:Int)<=(f:Int):=Yo
      have C:YH (∀w',Ad (fun k=>w.heap.size<=k/\k<=w.heap.size+1) W w'->Kj X w cs a m n (Rq #[agg #[slice la cs.length lc,slice aa a.1.length ac,slice na a.2.length nc,slice da b.length dc,int i64 3,int i64 f,slice f0a f0l f0c,slice f1a f1l f1c,slice f2a f2l f2c,slice f3a f3l f3c,int i64 f4],int i64 j,int i64 0]) w'):=fun w' q=>by
       have p:=E3 (n:=n) (j:=j) a0.o y.o (B6 (QG Yo));obtain⟨Q,R,S⟩:=B.o.end_full an.o bk (by rw[<-l.o.2];omega);refine⟨⟨la,lc,aa,ac,na,nc,da,dc,f0a,f0l,f0c,f1a,f1l,f1c,f2a,f2l,f2c,f3a,f3l,f3c,f4⟩,b,?_,?_,?_⟩
       ·rw[p];simp only[R,S,SC.val];rw[<-l.o.2];try rfl
       ·exact A.o.trans (q.below A.o.size (fun _ h=>h.1))
       ·rw[p];exact Q.keep q (DK ao.o ar.o)
      clear t aq y av l B
      try clear au
      try clear ax
      go_wp2;refine Jb (v:=tuple #[agg #[slice la cs.length lc,slice aa a.1.length ac,slice na a.2.length nc,slice da b.length dc,int i64 3,int i64 f,slice f0a f0l f0c,slice f1a f1l f1c,slice f2a f2l f2c,slice f3a f3l f3c,int i64 f4],int i64 j,int i64 0]) (by simp[results,results89,go_sem,Z,ab,ae,af,ag,ah,ai,aj,ak,al,ad,am,F,b1,b2,H,I,J,K,M,N,O,G,P,aw]) rfl ?_;exact C.o _ Mst
     ·have di:¬(3000:Int)<=(f:Int):=Yo
      have C:YH (∀w',Ad (fun k=>w.heap.size<=k/\k<=w.heap.size+1) W w'->Kj X w cs a m n (Rq #[agg #[slice la cs.length lc,slice aa a.1.length ac,slice na a.2.length nc,slice da b.length dc,int i64 0,int i64 f,slice f0a f0l f0c,slice f1a f1l f1c,slice f2a f2l f2c,slice f3a f3l f3c,int i64 f4],int i64 j,int i64 0]) w'):=fun w' q=>by
       have p:=E3 (n:=n) (j:=j) a0.o y.o (B6 (QG Yo));obtain⟨Q,R,S⟩:=B.o.end_on an.o bk (by rw[<-l.o.2];omega);refine⟨⟨la,lc,aa,ac,na,nc,da,dc,f0a,f0l,f0c,f1a,f1l,f1c,f2a,f2l,f2c,f3a,f3l,f3c,f4⟩,b,?_,?_,?_⟩
       ·rw[p];simp only[R,S,SC.val];rw[<-l.o.2];try rfl
       ·exact A.o.trans (q.below A.o.size (fun _ h=>h.1))
       ·rw[p];exact Q.keep q (DK ao.o ar.o)
      clear t aq y av l B
      try clear au
      try clear ax
      go_wp2;refine Jb (v:=tuple #[agg #[slice la cs.length lc,slice aa a.1.length ac,slice na a.2.length nc,slice da b.length dc,int i64 0,int i64 f,slice f0a f0l f0c,slice f1a f1l f1c,slice f2a f2l f2c,slice f3a f3l f3c,int i64 f4],int i64 j,int i64 0]) (by simp[results,results89,go_sem,Z,ab,ae,af,ag,ah,ai,aj,ak,al,ad,am,F,b1,b2,H,I,J,K,M,N,O,G,P,aw]) rfl ?_;exact C.o _ Mst
  ·have el:((st:Int)==0)=false:=by rw[Qu];omega
   have em:((st:Int) !=0)=true:=by rw[QR];omega
   have bv:d.status≠0:=by rw[<-l.o.1];exact bu
   have C:YH (∀w',Ad (fun k=>w.heap.size<=k/\k<=w.heap.size+1) wr w'->Kj X w cs a m n (Rq #[agg #[slice la cs.length lc,slice aa a.1.length ac,slice na a.2.length nc,slice da b.length dc,int i64 st,int i64 f,slice f0a f0l f0c,slice f1a f1l f1c,slice f2a f2l f2c,slice f3a f3l f3c,int i64 f4],int i64 j,int i64 0]) w'):=fun w' q=>by
    have p:=E3 (n:=n) (j:=j) a0.o y.o (B6 (QO (QG bv)));obtain⟨Q,R,S⟩:=(t.o.end_ne bv);refine⟨⟨la,lc,aa,ac,na,nc,da,dc,f0a,f0l,f0c,f1a,f1l,f1c,f2a,f2l,f2c,f3a,f3l,f3c,f4⟩,b,?_,?_,?_⟩
    ·rw[p];simp only[R,S,SC.val];rw[<-l.o.1,<-l.o.2];try rfl
    ·exact U.o.trans (q.below U.o.size (fun _ h=>h.1))
    ·rw[p];exact Q.keep q (DK bd.o bf.o)
   clear bu bv t aq y av l
   by_cases ea:j<n
   ·go_wp2;refine Jb (v:=tuple #[agg #[slice la cs.length lc,slice aa a.1.length ac,slice na a.2.length nc,slice da b.length dc,int i64 st,int i64 f,slice f0a f0l f0c,slice f1a f1l f1c,slice f2a f2l f2c,slice f3a f3l f3c,int i64 f4],int i64 j,int i64 0]) (by simp[results,results89,go_sem,Z,ab,ae,af,ag,ah,ai,aj,ak,al,ad,am,F,b1,b2,H,I,J,K,M,N,O,G,P,aw]) rfl ?_;exact C.o _ Mst
   ·go_wp2;refine Jb (v:=tuple #[agg #[slice la cs.length lc,slice aa a.1.length ac,slice na a.2.length nc,slice da b.length dc,int i64 st,int i64 f,slice f0a f0l f0c,slice f1a f1l f1c,slice f2a f2l f2c,slice f3a f3l f3c,int i64 f4],int i64 j,int i64 0]) (by simp[results,results89,go_sem,Z,ab,ae,af,ag,ah,ai,aj,ak,al,ad,am,F,b1,b2,H,I,J,K,M,N,O,G,P,aw]) rfl ?_;exact C.o _ Mst
noncomputable def Hk(m:SN):Nat:=open Classical in if m.way=[]then 2 else if 3000<=m.tries then 3 else 0
theorem Xf(w:World)(b:Nat)(x:CX)(cs:Lc)(a:Ll×At)(m:SN)(h:Dj w b x cs a m):
  Calls prog 77 #[Pt b] w fun e w'=>e=returned (int i64 (Hk m))/\w'=w:=by
 have d:=h.box;obtain⟨ca,cc,na,nc,wa,wc,va,vl,vc,fa,fl,fc⟩:=x;simp only[CX.cells]at d;obtain⟨p,b1,b2,n,q,r,s,t,u⟩:=IA d;obtain⟨j,hz⟩:=Ex m.way.length;obtain⟨k,f⟩:∃j,j=m.tries:=⟨_,rfl⟩;rw[<-hz]at b2;rw[<-f]at n
 by_cases i:j=0
 ·have c:Hk m=2:=by unfold Hk;rw[QQ (QS Yo)]
  rw[c];subst i;clear h d hz f c;go_enter func77,ntmps77;go_wp2;go_ret;exact⟨rfl,rfl⟩
 ·have g:m.way≠[]:=fun e=>i (by rw[hz,e];rfl);have v:((j:Int)==0)=false:=by rw[Qu];omega
  by_cases l:3000<=k
  ·have c:Hk m=3:=by unfold Hk;rw[QP g,QQ Yo]
   have o:(3000:Int)<=(k:Int):=Yo
   rw[c];clear h d hz f c g l i;go_enter func77,ntmps77;go_wp2;go_ret;exact⟨rfl,rfl⟩
  ·have c:Hk m=0:=by unfold Hk;rw[QP g,QP Yo]
   have o:¬(3000:Int)<=(k:Int):=Yo
   rw[c];clear h d hz f c g l i;go_enter func77,ntmps77;go_wp2;go_ret;exact⟨rfl,rfl⟩
theorem Dj.full{x:CX}(h:Dj w b x cs a m)(c:Ad (only b) w w')(hb:w'.heap[b]?=some (.cells #[slice x.ca cs.length x.cc,slice x.na a.2.length x.nc,Nl,int i64 m.tries,int i64 3,slice x.va x.vl x.vc,slice x.fa x.fl x.fc,string ⟨#[]⟩] 112 (0,0))):Dj w' b {x with wa:=none,wc:=0} cs a (FE m):=
 h.upd c hb ⟨rfl,rfl,rfl,rfl⟩ ⟨[],E8.nil _⟩ (fun h=>by simp[FE]at h)
theorem Dj.stat{x:CX}(h:Dj w b x cs a m)(st:Nat)(d:st≠1)(c:Ad (only b) w w')(hb:w'.heap[b]?=some (.cells (x.cells cs.length a.2.length m.way.length m.tries st m.tree) 112 (0,0))):Dj w' b x cs a {m with status:=st}:=
 h.upd c hb ⟨rfl,rfl,rfl,rfl⟩ h.way (fun h=>absurd h d)
theorem RO(h:m.status=0):m={m with status:=0}:=by
 obtain⟨a,b,c,d,e⟩:=m;simp only at h;subst h;rfl
theorem Xa{x c:CX}(h:El w x c){i:Nat}(hi:i<w.heap.size)(a:CF b c i):CF b x i:=by
 rcases a with rfl|a
 ·exact QG rfl
 ·rcases h.1 i a with h|h
  ·exact QO h
  ·omega
theorem R6(w:World)(b:Nat)(x:CX)(cs:Lc)(a:Ll×At)(m:SN)(n:Nat)(h:Dj w b x cs a m)(hn:n<=3000)(c:m.status=2\/m.status=3):
  Calls prog 54 #[Pt b,int i64 n] w fun e w'=>e=Rq #[int i64 0,int i64 0]/\w'=w:=by
 have d:=h.box;obtain⟨ca,cc,na,nc,wa,wc,va,vl,vc,fa,fl,fc⟩:=x;simp only[CX.cells]at d;obtain⟨g,b1,b2,i,f,j,k,l,o⟩:=IA d;clear h d;rcases c with c|c
 all_goals
  rw[c]at f;clear c;go_enter func54,ntmps54;go_wp2;go_ret2;exact⟨rfl,rfl⟩
theorem U2(w:World)(b:Nat)(n:Int)(hn:n<0\/3000<n)(hi: -9223372036854775808<=n/\n<9223372036854775808):
  Calls prog 54 #[Pt b,int i64 n] w fun e w'=>e=Rq #[int i64 0,int i64 8]/\w'=w:=by
 by_cases h0:n<0
 ·clear hn;go_enter func54,ntmps54;go_wp2;go_ret2;exact⟨rfl,rfl⟩
 ·have a:3000<n:=Yo
  clear hn;go_enter func54,ntmps54;go_wp2;go_ret2;exact⟨rfl,rfl⟩
set_option maxRecDepth 20000 in
theorem Wh(w:World)(b:Nat)(x:CX)(cs:Lc)(a:Ll×At)(m:SN)(n:Nat)(h:Dj w b x cs a m)(I:DD cs a m)(bg:∀c∈cs,KR c/\Ry c)(be:∀c∈cs,Mu c)(bf:cs.length<=24)(hn:n<=3000)(au:m.status≠2/\m.status≠3):
  Calls prog 54 #[Pt b,int i64 n] w fun e w'=>e=Rq #[int i64 (Ff cs n m).2,int i64 0]/\∃l,Ad (CF b x) w w'/\Dj w' b l cs a (Ff cs n m).1/\OG w x l m (Ff cs n m).1:=by
 obtain⟨HY,bj⟩:∃Q,Q=m.status:=⟨_,rfl⟩;have ci:((HY:Int)==2)=false:=by rw[Qu];omega
 have cj:((HY:Int)==3)=false:=by rw[Qu];omega
 have B:=h.box;obtain⟨ca,cc,na,nc,wa,wc,va,vl,vc,fa,fl,fc⟩:=x;simp only[CX.cells]at B;rw[<-bj]at B;obtain⟨ah,b1,b2,ai,aj,ak,al,am,an⟩:=IA B;obtain⟨a8,ag⟩:=Ex (((w.setCell ⟨b,4,none⟩ (int i64 0)).setCell ⟨b,5,none⟩ Nl).setCell ⟨b,6,none⟩ Nl);have aq:Ad (only b) w a8:=by rw[ag];exact(((Ad.refl _ _).put 4 _).put 5 _).put 6 _
 have ba:Dj a8 b ⟨ca,cc,na,nc,wa,wc,none,0,0,none,0,0⟩ cs a {m with status:=0}:=h.upd aq (by rw[ag];exact Ae (Ae (Ae B 4 _) 5 _) 6 _) ⟨rfl,rfl,rfl,rfl⟩ h.way (fun h=>by simp at h);have a5:=Yh (aq.mono (S':=CF b ⟨ca,cc,na,nc,wa,wc,va,vl,vc,fa,fl,fc⟩) (fun i _ e=>QG e));have a2:=Yh ba;have a3:=Yh (I.seek au.2);have a6:=Yh ag;have bp:=Yh bg;have bo:=Yh be;have br:=Yh au;clear h I bg be au B aq ba ag bj;go_enter func54,ntmps54;go_wp2;rw[<-a6.o]
 go_loopg [6] (n+1) (fun gk cd wr=>∃(j:Nat)(l:CX)(d:SN),cd=int i64 j/\j<=n/\n-j<gk/\Ad (CF b ⟨ca,cc,na,nc,wa,wc,va,vl,vc,fa,fl,fc⟩) w wr/\Dj wr b l cs a d/\El w ⟨ca,cc,na,nc,wa,wc,va,vl,vc,none,fl,fc⟩ l/\DD cs a d/\CN cs n {m with status:=0}=((CN cs (n-j) d).1,(CN cs (n-j) d).2+j)/\d.status≠2)
 case atStart=>exact⟨0,_,{m with status:=0},Yg,Yo,Yo,a5.o,a2.o,⟨fun k A=>QG A,rfl,rfl,rfl,rfl,fun k A=>QG A⟩,a3.o,Ys,Ys⟩
 case round=>
  clear ah b1 b2 ai aj ak al am an a5 a2 a3 a6;obtain⟨j,⟨K,L,N,O,P,Z,W,Y,X,M,U,T⟩,d,rfl,ch,cg,ap,ao,J,I,ar,b7⟩:=hrel;obtain⟨st,ax⟩:∃Q,Q=d.status:=⟨_,rfl⟩;obtain⟨V,ay⟩:∃Q,Q=d.tries:=⟨_,rfl⟩;obtain⟨aa,a1⟩:∃Q,Q=d.way.length:=⟨_,rfl⟩;have b8:=I.st;have b4:=I.tries;have B:=ao.box;simp only[CX.cells]at B;rw[<-ax,<-ay,<-a1]at B;obtain⟨ah,b1,b2,ai,aj,ak,al,am,an⟩:=IA B;have cf:=Ac B;have f:YH (st=d.status/\V=d.tries/\aa=d.way.length):=⟨ax,ay,a1⟩;have b9:st=0\/st=1\/st=3:=Yo
  have cm:aa<=100000:=by have:=I.len;omega
  have a4:=Yh ap;have t:=Yh ao;have HN:=Yh J;have D:=Yh I;have H:=Yh ar;have S:=Yh B;have v:YH (CN cs (n-j) d=(d,0)->∀w',(∃l,Ad (only b) wr w'/\Dj w' b l cs a (Dt d)/\(l.wa=P\/l.wa=none)/\l.ca=K/\l.cc=L/\l.na=N/\l.nc=O/\l.fa=M)->(Ending.returned (tuple #[int i64 j,int i64 0]))=Rq #[int i64 (Ff cs n m).2,int i64 0]/\∃l,Ad (CF b ⟨ca,cc,na,nc,wa,wc,va,vl,vc,fa,fl,fc⟩) w w'/\Dj w' b l cs a (Ff cs n m).1/\OG w ⟨ca,cc,na,nc,wa,wc,va,vl,vc,fa,fl,fc⟩ l m (Ff cs n m).1):=fun hl w' ⟨l,af,bv,ab,bw,bx,bz,b0,b3⟩=>by
   have bh:∀k,(∃p,l.fa=some p/\p.block=k)->w.heap.size<=k:=fun k A=>(J.2.2.2.2.2 k (by rw[b3]at A;exact A)).elim (fun⟨p,aw,_⟩=>by simp at aw) (fun h=>h);rw[E3 (n:=n) (j:=j) br.o ar hl];refine⟨rfl,l,ap.trans (af.mono (fun i _ e=>QG e)),bv,⟨fun k A=> ?_,bw.trans J.2.1,bx.trans J.2.2.1,bz.trans J.2.2.2.1,b0.trans J.2.2.2.2.1,fun k A=>QO (bh k A)⟩,QO bh⟩;rcases ab with ab|ab
   ·rw[ab]at A;exact J.1 k A
   ·rw[ab]at A;obtain⟨p,aw,_⟩:=A;simp at aw
  clear ap ao J I ar B ax ay a1 b7 b8 b4
  by_cases ac:st=0
  ·subst ac;have u:YH (d.status=0):=f.o.1.symm;have E:=Yh (Xf wr b ⟨K,L,N,O,P,Z,W,Y,X,M,U,T⟩ cs a d t.o)
   by_cases bi:j<n
   ·by_cases G:aa=0
    ·have R:YH (d.way=[]):=QS (by rw[<-f.o.2.2];exact G);subst G;have q:=B6 (cs:=cs) (n:=n-j) (s:=d) (QO (QO (QG R.o)));have y:Hk d=2:=by unfold Hk;rw[QQ R.o]
     rw[y]at E;have g:Ad (only b) wr (wr.setCell ⟨b,4,none⟩ (int i64 2)):=(Ad.refl _ _).put 4 _;have z:YH (_/\_):=v.o q _ ⟨⟨K,L,N,O,P,Z,W,Y,X,M,U,T⟩,g,by
      have e:Dt d={d with status:=2}:=by unfold Dt;rw[QP (by rw[u.o];decide),QQ u.o,QQ R.o]
      rw[e];exact t.o.stat 2 Yd g (by rw[<-f.o.2.1,<-f.o.2.2];exact Ae S.o 4 _),QG rfl,rfl,rfl,rfl,rfl,rfl⟩
     clear q y g v t D HN H f;go_wp2_with fail;apply E.o.mono;rintro e w1 ⟨rfl,rfl⟩;go_wp2;go_ret2;exact z.o
    ·have ae:d.way≠[]:=fun e=>G (by rw[f.o.2.2,e];rfl);have cl:(0:Int)<(aa:Int):=Yo
     have ck:((aa:Int)==0)=false:=by rw[Qu];omega
     have F:=Yh ae;clear ae G
     by_cases ad:V<3000
     ·have b5:(V:Int)<3000:=Yo
      have bm:=Yh (Rj wr b ⟨K,L,N,O,P,Z,W,Y,X,M,U,T⟩ cs a d t.o D.o u.o F.o (by rw[<-f.o.2.1];exact ad) bp.o bo.o bf);obtain⟨cn,k,r,c,az,a0,cb⟩:=D.o.head F.o;obtain⟨bs,a9,bt,bu⟩:=ES az a0 u.o;have a7:YH (DD cs a (AQ cs d)/\(AQ cs d).status≠2):=⟨D.o.try' bf u.o az a0 (by rw[<-f.o.2.1];exact ad),by rw[a9];exact MS _ _ _⟩;have bq:YH (CN cs n {m with status:=0}=((CN cs (n-(j+1)) (AQ cs d)).1,(CN cs (n-(j+1)) (AQ cs d)).2+(j+1))):=by
       have af:=H.o;rw[show n-j=(n-(j+1))+1 by omega,Rn u.o F.o (by rw[<-f.o.2.1];exact ad)]at af;show _=_;rw[af];simp;omega
      clear ad az a0 cb bs a9 bt bu;go_wp2_with fail;apply bm.o.mono;rintro e w1 ⟨rfl,ce,bc,bb,bd⟩;have bl:=Yh bc;have bk:=Yh bb;have bn:=Yh bd;clear bc bb bd ah b1 b2 ai aj ak al am an;go_wp2
      go_roundg (n-j)
      case measure=>omega
      case rel=>
       exact⟨j+1,ce,AQ cs d,Yg,Yo,Yo,a4.o.then bl.o (fun i hi b6=>Xa HN.o hi b6),bk.o,HN.o.trans bn.o a4.o.size,a7.o.1,bq.o,a7.o.2⟩
     ·have b5:¬(V:Int)<3000:=Yo
      have C:3000<=V:=Yo
      clear ad;have q:=B6 (cs:=cs) (n:=n-j) (s:=d) (QO (QO (QO (by rw[<-f.o.2.1];exact C))));have y:Hk d=3:=by unfold Hk;rw[QP F.o,QQ (by rw[<-f.o.2.1];exact C)]
      rw[y]at E;have g:Ad (only b) wr (((wr.setCell ⟨b,4,none⟩ (int i64 3)).setCell ⟨b,2,none⟩ Nl).setCell ⟨b,7,none⟩ (string ⟨#[]⟩)):=(((Ad.refl _ _).put 4 _).put 2 _).put 7 _;have z:YH (_/\_):=v.o q _ ⟨_,g,by
       have e:Dt d=FE d:=by unfold Dt;rw[QP (by rw[u.o];decide),QQ u.o,QP F.o,QQ (by rw[<-f.o.2.1];exact C)]
       rw[e];exact t.o.full g (by rw[<-f.o.2.1];exact Ae (Ae (Ae S.o 4 _) 2 _) 7 _),QO rfl,rfl,rfl,rfl,rfl,rfl⟩
      clear q y g v t D HN H f C;go_wp2_with fail;apply E.o.mono;rintro e w1 ⟨rfl,rfl⟩;go_wp2;go_ret2;exact z.o
   ·by_cases G:aa=0
    ·have R:YH (d.way=[]):=QS (by rw[<-f.o.2.2];exact G);subst G;have q:=B6 (cs:=cs) (n:=n-j) (s:=d) (QG Yo);have y:Hk d=2:=by unfold Hk;rw[QQ R.o]
     rw[y]at E;have g:Ad (only b) wr (wr.setCell ⟨b,4,none⟩ (int i64 2)):=(Ad.refl _ _).put 4 _;have z:YH (_/\_):=v.o q _ ⟨⟨K,L,N,O,P,Z,W,Y,X,M,U,T⟩,g,by
      have e:Dt d={d with status:=2}:=by unfold Dt;rw[QP (by rw[u.o];decide),QQ u.o,QQ R.o]
      rw[e];exact t.o.stat 2 Yd g (by rw[<-f.o.2.1,<-f.o.2.2];exact Ae S.o 4 _),QG rfl,rfl,rfl,rfl,rfl,rfl⟩
     clear q y g v t D HN H f;go_wp2_with fail;apply E.o.mono;rintro e w1 ⟨rfl,rfl⟩;go_wp2;go_ret2;exact z.o
    ·have ae:d.way≠[]:=fun e=>G (by rw[f.o.2.2,e];rfl);have F:=Yh ae;clear ae G
     by_cases C:3000<=V
     ·have q:=B6 (cs:=cs) (n:=n-j) (s:=d) (QG Yo);have y:Hk d=3:=by unfold Hk;rw[QP F.o,QQ (by rw[<-f.o.2.1];exact C)]
      rw[y]at E;have g:Ad (only b) wr (((wr.setCell ⟨b,4,none⟩ (int i64 3)).setCell ⟨b,2,none⟩ Nl).setCell ⟨b,7,none⟩ (string ⟨#[]⟩)):=(((Ad.refl _ _).put 4 _).put 2 _).put 7 _;have z:YH (_/\_):=v.o q _ ⟨_,g,by
       have e:Dt d=FE d:=by unfold Dt;rw[QP (by rw[u.o];decide),QQ u.o,QP F.o,QQ (by rw[<-f.o.2.1];exact C)]
       rw[e];exact t.o.full g (by rw[<-f.o.2.1];exact Ae (Ae (Ae S.o 4 _) 2 _) 7 _),QO rfl,rfl,rfl,rfl,rfl,rfl⟩
      clear q y g v t D HN H f C;go_wp2_with fail;apply E.o.mono;rintro e w1 ⟨rfl,rfl⟩;go_wp2;go_ret2;exact z.o
     ·have q:=B6 (cs:=cs) (n:=n-j) (s:=d) (QG Yo);have y:Hk d=0:=by unfold Hk;rw[QP F.o,QP (by rw[<-f.o.2.1];exact C)]
      rw[y]at E;have g:Ad (only b) wr (wr.setCell ⟨b,4,none⟩ (int i64 0)):=(Ad.refl _ _).put 4 _;have z:YH (_/\_):=v.o q _ ⟨⟨K,L,N,O,P,Z,W,Y,X,M,U,T⟩,g,by
       have e:Dt d={d with status:=0}:=by
        unfold Dt;rw[QP (by rw[u.o];decide),QQ u.o,QP F.o,QP (by rw[<-f.o.2.1];exact C)];exact RO u.o
       rw[e];exact t.o.stat 0 Yd g (by rw[<-f.o.2.1,<-f.o.2.2];exact Ae S.o 4 _),QG rfl,rfl,rfl,rfl,rfl,rfl⟩
      clear q y g v t D HN H f C;go_wp2_with fail;apply E.o.mono;rintro e w1 ⟨rfl,rfl⟩;go_wp2;go_ret2;exact z.o
  ·have av:d.status≠0:=by rw[<-f.o.1];exact ac
   have q:=B6 (cs:=cs) (n:=n-j) (s:=d) (QO (QG av));rcases b9 with rfl|rfl|rfl
   ·exact absurd rfl ac
   ·have z:YH (_/\_):=v.o q wr ⟨⟨K,L,N,O,P,Z,W,Y,X,M,U,T⟩,Ad.refl _ _,by
     have e:Dt d=d:=by simp[Dt,show d.status=1 from f.o.1.symm]
     rw[e];exact t.o,QG rfl,rfl,rfl,rfl,rfl,rfl⟩
    clear ac av q v t D HN H f
    by_cases bi:j<n
    all_goals
     go_wp2;go_ret2;exact z.o
   ·have g:Ad (only b) wr ((wr.setCell ⟨b,2,none⟩ Nl).setCell ⟨b,7,none⟩ (string ⟨#[]⟩)):=((Ad.refl _ _).put 2 _).put 7 _;have z:YH (_/\_):=v.o q _ ⟨_,g,by
     have e:Dt d=FE d:=by unfold Dt;rw[QQ f.o.1.symm]
     rw[e];exact t.o.full g (by rw[<-f.o.2.1];exact Ae (Ae S.o 2 _) 7 _),QO rfl,rfl,rfl,rfl,rfl,rfl⟩
    clear ac av q g v t D HN H f
    by_cases bi:j<n
    all_goals
     go_wp2;go_ret2;exact z.o
theorem WQ(w:World)(C:Oa)(D:Nat)(ks:List Nat)(h:w.ownsRow 0 3 1 (slice C ks.length D) ks.length (AM ks))(hl:ks.length<=1000)(v:∀k∈ks,k<24):
  Calls prog 78 #[slice C ks.length D] w fun e w'=>e=returned (string ⟨(CS [] ks).toArray⟩)/\w'=w:=by
 obtain⟨f,l⟩:=Ex (CS [] ks);rw[<-l];have P:f.length<=200000:=by
  have:=K5 ks [] Ys (fun k I=>by have:=v k I;omega);rw[<-l]at this;omega
 obtain⟨L,s⟩:=Ex ks.length;rw[<-s]at h hl⊢;have y:=Yh h;have E:=Yh l;have G:=Yh v;have x:=Yh s;clear h l v s;go_enter func78,ntmps78;go_wp2
 go_loopg [3,8] (L+1) (fun gk M i wr=>∃(j:Nat)(a:Lu),i=int i64 j/\j<=L/\L-j<gk/\M=string ⟨a.toArray⟩/\wr=w/\
  a++CS (if j=0 then[]else[46]) (ks.drop j)=f)
 case atStart=>exact⟨0,[],Yg,Qm _,Yo,rfl,rfl,by simp[E.o]⟩
 case round=>
  obtain⟨j,a,rfl,S,R,rfl,rfl,t⟩:=hrel;have Q:a.length<=200000:=by
   have b:=congrArg List.length t;simp only[Qg]at b;omega
  have c:=Yh t;clear t
  by_cases K:j<L
  ·have n:j<ks.length:=by rw[<-x.o];exact K
   obtain⟨u,g⟩:∃u,ks[j]?=some u:=⟨_,Qb n⟩;have m:ks.drop j=u::ks.drop (j+1):=by
    rw[QC n,(Qa.1 g).2]
   obtain⟨N,W,Y,B,O,A,U⟩:=An y.o Yo;simp only[QH]at B;obtain⟨rfl,_,rfl⟩:=B;have Z:wr.cell? ⟨N,j,none⟩=some (int i64 u):=Af y.o j _ (by simp only[AM,Qj,g,JN]);have T:=G.o u (Qh g);have p:=Yh (IQ u wr Yo);obtain⟨X,d⟩:=Ex (Lib.decDigits u);rw[<-d]at p;have V:X.length<=30:=by rw[d];have:=D8 u;omega
   by_cases h0:j=0
   ·have J:¬(0:Int)<(j:Int):=Yo
    have q:YH ((a++X)++CS [46] (ks.drop (j+1))=f):=by
     have b:=c.o;rw[m,QQ h0]at b;simp only[CS]at b;show _=_;rw[<-b,d];simp
    have r:=Yh (AA a X);clear h0 g m A c d n;go_wp2_with fail;apply p.o.mono;rintro e w1 ⟨rfl,rfl⟩;go_wp2
    go_roundg (L-j)
    case measure=>omega
    case rel=>exact⟨j+1,a++X,Yg,Yo,Yo,by rw[<-r.o],rfl,by simpa using q.o⟩
   ·have J:(0:Int)<(j:Int):=Yo
    have q:YH ((a++[46]++X)++CS [46] (ks.drop (j+1))=f):=by
     have b:=c.o;rw[m,QP h0]at b;simp only[CS]at b;show _=_;rw[<-b,d];simp
    have r:=Yh (AA (a++[46]) X);have H:=Yh (AA a [46]);clear h0 g m A c d n;go_wp2_with fail;apply p.o.mono;rintro e w1 ⟨rfl,rfl⟩;go_wp2
    go_roundg (L-j)
    case measure=>omega
    case rel=>exact⟨j+1,a++[46]++X,Yg,Yo,Yo,by rw[<-r.o,<-H.o],rfl,by simpa using q.o⟩
  ·have z:j=L:=Yo
   have F:YH (a=f):=by
    have b:=c.o;rw[z,x.o,List.drop_length]at b;show _=_;simpa[CS]using b
   clear c z;go_wp2;go_ret;rw[F.o];exact⟨rfl,rfl⟩
theorem P9(w:World)(b:Nat)(x:CX)(cs:Lc)(a:Ll×At)(m:SN)(h:Dj w b x cs a m):
  Calls prog 55 #[Pt b] w fun e w'=>e=returned (int i64 m.status)/\w'=w:=by
 have c:=h.box;obtain⟨ca,cc,na,nc,wa,wc,va,vl,vc,fa,fl,fc⟩:=x;simp only[CX.cells]at c;obtain⟨d,b1,b2,f,g,i,j,k,l⟩:=IA c;clear h c;go_enter func55,ntmps55;go_wp2;go_ret;exact⟨rfl,rfl⟩
theorem UX(w:World)(b:Nat)(x:CX)(cs:Lc)(a:Ll×At)(m:SN)(h:Dj w b x cs a m):
  Calls prog 58 #[Pt b] w fun e w'=>e=returned (string ⟨(Du a m.status m.found m.tree).2.2.toArray⟩)/\w'=w:=by
 have d:=h.box;obtain⟨ca,cc,na,nc,wa,wc,va,vl,vc,fa,fl,fc⟩:=x;simp only[CX.cells]at d;obtain⟨k,b1,b2,l,i,n,p,q,r⟩:=IA d;obtain⟨st,g⟩:∃j,j=m.status:=⟨_,rfl⟩;rw[<-g]at i⊢;clear h d g
 by_cases f:st=2
 ·subst f;have c:YH ((Du a 2 m.found m.tree).2.2=m.tree):=by show _=_;simp[Du]
  rw[c.o];go_enter func58,ntmps58;go_wp2;go_ret;exact⟨rfl,rfl⟩
 ·have c:YH ((Du a st m.found m.tree).2.2=[]):=by
   show _=_;unfold Du;split
   ·rfl
   ·rfl
  rw[c.o];have hb:((st:Int) !=2)=true:=by rw[QR];omega
  clear f c;go_enter func58,ntmps58;go_wp2;go_ret;exact⟨rfl,rfl⟩
theorem Oz(w:World)(b:Nat)(x:CX)(cs:Lc)(a:Ll×At)(m:SN)(h:Dj w b x cs a m)(i:DD cs a m)(J:cs.length<=24):
  Calls prog 57 #[Pt b] w fun e w'=>e=returned (string ⟨(Du a m.status m.found m.tree).2.1.toArray⟩)/\w'=w:=by
 have f:=h.box;obtain⟨ca,cc,na,nc,wa,wc,va,vl,vc,fa,fl,fc⟩:=x;simp only[CX.cells]at f;obtain⟨B,b1,b2,C,j,D,v,E,F⟩:=IA f;have I:=Ac f
 by_cases c:m.status=1
 ·obtain⟨⟨n,_,l,_,p⟩,g⟩:=h.found c;have s:=(i.found c).2.2;have t:m.found.used.length<=1000:=by rw[<-p.used];have:=l.ul;omega
  obtain⟨G,H,q⟩:=Ab g;simp only[QH]at q;obtain⟨rfl,y,rfl⟩:=q;rw[y]at g v;have u:=Yh (WQ w fa fc m.found.used g t (fun k z=>by have:=s k z;omega));have d:YH ((Du a m.status m.found m.tree).2.1=CS [] m.found.used):=by show _=_;simp[Du,c,FB]
  rw[d.o];rw[c]at j;clear h i f c g s t l p d;go_enter func57,ntmps57;go_wp2_with fail;apply u.o.mono;rintro e w1 ⟨rfl,rfl⟩;go_wp2;go_ret;exact⟨rfl,rfl⟩
 ·obtain⟨st,r⟩:∃A,A=m.status:=⟨_,rfl⟩;rw[<-r]at j c⊢;have d:YH ((Du a st m.found m.tree).2.1=[]):=by
   show _=_;unfold Du;rw[QP c];split<;>rfl
  rw[d.o];have hb:((st:Int) !=1)=true:=by rw[QR];omega
  clear h i f c d r;go_enter func57,ntmps57;go_wp2;go_ret;exact⟨rfl,rfl⟩
def TE(W:World)(A:Value):Lv->World->Prop
 |[],y=>y=W
 |[v],y=>v=A/\Ao W y
 |_,_=>False
theorem TE.at{a:World}{A:Value}{y:World}(h:TE a A vs y):vs.length<=0->y=a:=by
 match vs,h with
 |[],h=>exact fun _=>h
 |[v],h=>exact fun h=>by simp at h
theorem O5(w:World)(b:Nat)(x:CX)(cs:Lc)(q:ByteArray)(a:Ll×At)(m:SN)(h:Dj w b x cs a m)(s:DD cs a m)(z:Cn q=some a):
  Calls prog 56 #[Pt b] w fun e w'=>e=returned (string ⟨(Du a m.status m.found m.tree).1.toArray⟩)/\Ao w w':=by
 have l:=h.box;obtain⟨ca,cc,na,nc,wa,wc,va,vl,vc,fa,fl,fc⟩:=x;simp only[CX.cells]at l;obtain⟨L,b1,b2,M,r,B,N,O,P⟩:=IA l
 by_cases d:m.status=1
 ·obtain⟨⟨n,g,k,t,c⟩,R⟩:=h.found d;obtain⟨_,I,_⟩:=s.found d;obtain⟨_,_,_,_,_,_,_,_,E⟩:=Cq z;have D:=Jl z;have G:n.vals.length=a.2.length:=by rw[c.vl,I]
  have p:=h.names;simp only at p g;have F:AU a.2 n=AU a.2 m.found:=by unfold AU;rw[c.valsC k]
  have A:YH (Calls prog 70 #[slice na a.2.length nc,slice va vl vc] w.drew fun e w'=>Ao w.drew w'/\e=returned (string ⟨(AU a.2 n).toArray⟩)):=by
   have i:Ao w w.drew:=⟨rfl,rfl,rfl,Qe _,fun _ _=>rfl⟩;exact FG _ _ _ a.2 n.vals (Aj p (fun j Q=>i.block j (p.lt j Q).2)) (g.ext i) (NM k t Yo) G.symm (It k t Yo D E)
  have f:YH ((Du a m.status m.found m.tree).1=AU a.2 m.found):=by show _=_;simp[Du,d]
  rw[f.o,<-F];obtain⟨Y,C⟩:=Ex (AU a.2 n);rw[<-C]at A⊢;rw[d]at r;clear h s l d R k t c g I E D G p F f C z;go_enter func56,ntmps56;go_wp2_with fail;refine BW Yk 999 [.rd 0 1 (fun _=>Pt b),.rd 0 1 (fun _=>Pt b),.rd 0 1 (fun _=>pointer (some ⟨b,1,none⟩)),.rd 0 0 (fun _=>slice na a.2.length nc),.rd 0 1 (fun _=>Pt b),.rd 0 1 (fun _=>Pt b),.rd 0 1 (fun _=>pointer (some ⟨b,5,none⟩)),.rd 0 0 (fun _=>slice va vl vc),.st 0,.rd 1 1 (fun _=>string ⟨Y.toArray⟩)] 1 7 Yk (TE w.drew (string ⟨Y.toArray⟩)) rfl ?_ ?_
  ·refine⟨⟨trivial,fun vs y _ hl c=> ?_⟩,⟨trivial,fun vs y _ hl c=> ?_⟩,⟨trivial,fun vs y _ hl c=> ?_⟩,⟨trivial,fun vs y _ hl c=> ?_⟩,⟨trivial,fun vs y _ hl c=> ?_⟩,⟨trivial,fun vs y _ hl c=> ?_⟩,⟨trivial,fun vs y _ hl c=> ?_⟩,⟨trivial,fun vs y _ hl c=> ?_⟩,⟨trivial,fun vs y hl c=> ?_⟩,⟨trivial,fun vs y T hl c=> ?_⟩,trivial⟩
   ·simp[go_sem]
   ·simp[go_sem]
   ·simp[go_sem]
   ·obtain rfl:=c.at hl;simp[go_sem,b1]
   ·simp[go_sem]
   ·simp[go_sem]
   ·simp[go_sem]
   ·obtain rfl:=c.at hl;simp[go_sem,B]
   ·obtain rfl:=Q3.1 hl;obtain rfl:y=w.drew:=c;refine .call 70 #[slice na a.2.length nc,slice va vl vc] _ (by simp[go_sem]) (A.o.mono ?_);rintro e u ⟨i,rfl⟩;exact⟨_,rfl,rfl,i⟩
   ·obtain⟨v,rfl⟩:=Q1.1 (show vs.length=1 by omega);obtain⟨rfl,_⟩:=c;simp[go_sem]
  rintro vs y hl c;obtain⟨v,rfl⟩:=Q1.1 hl;obtain⟨g,J⟩:=c;have K:=Yh J;simp only[EB,IB,CD,pa,Ph.kd,Ph.val,Kd.val,Qx,QX,Ja,Act.put,JC,JD,JG];clear g J L b1 b2 M r B N O P;go_wp2;go_ret;exact⟨rfl,K.o.undrew⟩
 ·obtain⟨st,H⟩:∃S,S=m.status:=⟨_,rfl⟩;rw[<-H]at r d⊢;have f:YH ((Du a st m.found m.tree).1=[]):=by
   show _=_;unfold Du;rw[QP d];split<;>rfl
  rw[f.o];have hb:((st:Int) !=1)=true:=by rw[QR];omega
  clear h s l d f H;go_enter func56,ntmps56;go_wp2;go_ret;exact⟨rfl,Ao.of (Ad.refl _ _)⟩
def Yz(p q:ByteArray)(w:World)(e:Ending)(w':World):Prop:=Ao w w'/\
 ((Bz p=none/\e= .returned (.tuple #[.pointer none,.int .i64 4]))\/
 ((∃cs,Bz p=some cs)/\Cn q=none/\e= .returned (.tuple #[.pointer none,.int .i64 5]))\/
 (∃cs a b,∃x:CX,Bz p=some cs/\Cn q=some a/\e= .returned (.tuple #[.pointer (some ⟨b,0,none⟩),.int .i64 0])/\(∀k,CF b x k\/(∃p,x.fa=some p/\p.block=k)->w.heap.size<=k)/\Dj w' b x cs a (KQ cs a)))
theorem Vq(b:FM (AN a))(f:a.2.length<=121):∀l∈a.1,Iv l:=fun l hl=>by
 have c:l∈(AN a).terms:=by
  unfold ND.terms AN;refine Q9 _ ?_;simp;exact hl
 have d:=(b.gs (l,0) (by unfold AN;simp;exact hl)).1;exact Hp (b.wf l c) (by have e:l.length<=30:=d;omega) (b.occ l c) (by have:(AN a).vars=a.2.length:=rfl;omega)
theorem WC(p q:ByteArray)(w:World)(d:p.size<=maxLen)(aj:q.size<=maxLen):Calls prog 32 #[string p,string q] w (Yz p q w):=by
 have ap:=Yh (Ka p q w d aj);clear d aj;go_enter func32,ntmps32;go_wp2_with fail;apply ap.o.mono;rintro e w1 ⟨I,aw⟩;have A:=Yh I;have ak:=I.size;clear I;rcases aw with⟨x,rfl⟩|⟨⟨cs,s⟩,x,rfl⟩|⟨cs,a,t,lc,xs,c,U,V,b1,T,f,nc,s,C,rfl,af,ag,z⟩
 ·have G:=Yh x;clear x;go_wp2;go_ret2;exact⟨A.o.trans ((Mxt:Ao w1 (w1.alloc _)).mono ak),QG ⟨G.o,rfl⟩⟩
 ·have G:=Yh x;have H:=Yh s;clear x s;go_wp2;go_ret2;exact⟨A.o.trans ((Mxt:Ao w1 (w1.alloc _)).mono ak),QO (QG ⟨⟨cs,H.o⟩,G.o,rfl⟩)⟩
 ·obtain⟨_,_,_,a1,a0⟩:=Cv s;obtain⟨_,_,_,B,ae,az,L,ah,_⟩:=Cq C;have ab:=NN C;obtain⟨g,v⟩:=Ex ((w1.alloc (.cells #[slice c U V,slice b1 a.1.length T,slice f a.2.length nc] 107)).alloc (.cells #[slice t cs.length lc,slice f a.2.length nc,Nl,int i64 0,int i64 0,Nl,Nl,string ⟨#[]⟩] 112));have n:Ao w1 g:=by rw[v];exact Mxt
  have a3:g.heap.size=w1.heap.size+2:=by rw[v];simp
  have ai:g.heap[w1.heap.size+1]?=some (.cells #[slice t cs.length lc,slice f a.2.length nc,Nl,int i64 0,int i64 0,Nl,Nl,string ⟨#[]⟩] 112 (0,0)):=by rw[v];exact heap_alloc2_new w1 _ _
  have X:Dj g (w1.heap.size+1) ⟨t,lc,f,nc,none,0,none,0,0,none,0,0⟩ cs a ⟨[],0,0,⟨[],[],[],[],0⟩,[]⟩:=⟨ai,⟨xs,af.ext n⟩,Aj z (fun j M=>n.block j (z.lt j M).2),⟨[],E8.nil _⟩,fun h=>by simp at h⟩;have R:=Yh (Lm g (slice c U V) (slice b1 a.1.length T) (slice f a.2.length nc) a.1 a.2 ⟨_,_,_,rfl⟩ (ag.ext n) (Aj z (fun j M=>n.block j (z.lt j M).2)) Yo Yo (Vq B ah));have S:YH (∀w3 i l m vc,Ao g w3->AF w3 (slice i a.1.length l) a.1->AF w3 (slice m a.2.length vc) ((List.range a.2.length).map vr)->∀o,Dj (w3.alloc o) (w1.heap.size+1) ⟨t,lc,f,nc,none,0,none,0,0,none,0,0⟩ cs a ⟨[],0,0,⟨[],[],[],[],0⟩,[]⟩/\Ao w (w3.alloc o)/\Calls prog 52 #[Pt (w1.heap.size+1),agg #[slice i a.1.length l,slice m a.2.length vc,Nl,int i64 a.2.length]] (w3.alloc o) fun e w'=>e=Rq #[]/\∃am,Ad (CF (w1.heap.size+1) ⟨t,lc,f,nc,none,0,none,0,0,none,0,0⟩) (w3.alloc o) w'/\Dj w' (w1.heap.size+1) am cs a (B3 ⟨[],0,0,⟨[],[],[],[],0⟩,[]⟩ (AN a))/\El (w3.alloc o) ⟨t,lc,f,nc,none,0,none,0,0,none,0,0⟩ am):=fun w3 i l m vc r D E o=>by
   have J:Ao w3 (w3.alloc o):=Mxt;have aa:Ao g (w3.alloc o):=r.trans (J.mono r.size);have W:=X.ext aa;have ay:Ao w (w3.alloc o):=(A.o.trans (n.mono A.o.size)).trans (aa.mono Yo);have ax:CV (w3.alloc o) (slice i a.1.length l) (slice m a.2.length vc) Nl (int i64 a.2.length) (AN a):=by
    refine⟨AN a,⟨?_,E.ext J,⟨[],AK.nil _ _⟩⟩,rfl,B,ae,ab,Cl.refl B⟩;have:(AN a).goals.map (·.1)=a.1:=by unfold AN;rw[QK];exact(JE (fun _ _=>rfl)).trans (List.map_id _)
    rw[this];exact D.ext J
   exact⟨W,ay,LA (w3.alloc o) _ _ cs a _ _ _ _ _ _ W ax Ys (GM L) Ys⟩
  have P:YH (∀u (F:CX),Dj u (w1.heap.size+1) F cs a (B3 ⟨[],0,0,⟨[],[],[],[],0⟩,[]⟩ (AN a))->Calls prog 53 #[Pt (w1.heap.size+1)] u fun e w'=>e=Rq #[]/\Ad (only (w1.heap.size+1)) u w'/\Dj w' (w1.heap.size+1) F cs a (KQ cs a)):=fun u F c=>by
   have e:B3 ⟨[],0,0,⟨[],[],[],[],0⟩,[]⟩ (AN a)=(⟨[(AN a,0)],0,0,⟨[],[],[],[],0⟩,[40]⟩:SN):=by unfold B3;rw[QP (GM L)];rfl
   refine MW u _ F cs a _ c (by rw[e];simp) (by rw[e];intro y al;simp at al;subst al;exact Qm _) a0 (by rw[e];simp)
  have au:=Yh v;have H:=Yh s;have av:=Yh C;clear s C af ag z a1 B ae az L ah ab n ai X v;go_wp2_with fail;rw[<-au.o];apply R.o.mono;rintro e w3 ⟨r,i,l,m,vc,rfl,D,E⟩;have a4:=r.size;have N:=Yh (S.o w3 i l m vc r D E);clear r D E R S;go_wp2_with fail;apply(N.o _).2.2.mono;rintro e w4 ⟨rfl,an,K,Y,ad⟩;have ao:=Yh (P.o w4 an Y);have a2:=K.size;simp at a2;have O:=Yh K;have Q:=Yh ad;clear K Y ad P;go_wp2_with fail;apply ao.o.mono;rintro e w5 ⟨rfl,ac,Z⟩;have ar:=Yh ac;have aq:=Yh Z;clear ac Z;go_wp2;go_ret2;refine⟨?_,QO (QO ⟨cs,a,w1.heap.size+1,an,H.o,av.o,rfl,fun k b=> ?_,aq.o⟩)⟩
  ·have c:=(N.o (.cells #[slice i a.1.length l,slice m a.2.length vc,Nl,int i64 a.2.length] 87)).2.1;refine c.trans ((O.o.below c.size (fun k b=> ?_)).trans (ar.o.below (Qq c.size O.o.size) (fun k b=> ?_)))
   ·rcases b with rfl|⟨p,d,_⟩
    ·omega
    ·simp at d
   ·have:k=w1.heap.size+1:=b;omega
  ·rcases b with(rfl|b)|b
   ·omega
   ·rcases Q.o.1 k b with⟨p,d,_⟩|h
    ·simp at d
    ·simp at h;omega
   ·rcases Q.o.2.2.2.2.2 k b with⟨p,d,_⟩|h
    ·simp at d
    ·simp at h;omega
def X7(X:Np)(p q:ByteArray)(e:Ending)(w':World):Prop:=
 (Bz p=none/\e= .returned (.tuple #[.agg #[.slice none 0 0,.slice none 0 0,.slice none 0 0,.slice none 0 0,.int .i64 0,.int .i64 0,.slice none 0 0,.slice none 0 0,.slice none 0 0,.slice none 0 0,.int .i64 0],.int .i64 4]))\/
 ((∃cs,Bz p=some cs)/\Cn q=none/\e= .returned (.tuple #[.agg #[.slice none 0 0,.slice none 0 0,.slice none 0 0,.slice none 0 0,.int .i64 0,.int .i64 0,.slice none 0 0,.slice none 0 0,.slice none 0 0,.slice none 0 0,.int .i64 0],.int .i64 5]))\/
 (∃cs a,∃s:SC,Bz p=some cs/\Cn q=some a/\e= .returned (.tuple #[s.val cs.length a.1.length a.2.length 1 0 0,.int .i64 0])/\BH X w' s cs a [(AN a,0)] (KQ cs a))
theorem D5.single{g:Nat}{a b c f h:Value}{n:ND}(hb:w.heap[g]?=some (.cells #[a,b,c,f,h,int i64 0] 250 (0,0)))(hn:BC X w a b c f h n):D5 X w 0 (slice (some ⟨g,0,none⟩) 1 1) [(n,0)] [a,b,c,f,h,int i64 0]:=by
 refine⟨⟨rfl,.inr ⟨g,1,_,rfl,Qm _,hb,Qe _,Yd,rfl,rfl⟩⟩,fun i d hd=> ?_⟩;have e:i=0:=by
  have:=(Qa.1 hd).1;simp at this;exact this
 subst e;simp at hd;subst hd;exact⟨a,b,c,f,h,rfl,rfl,rfl,rfl,rfl,rfl,hn⟩
theorem Nd(ha:a.1≠[]):(KQ cs a).status=0/\(KQ cs a).tries=0/\(KQ cs a).way=Cw cs.length [(AN a,0)]:=by
 unfold KQ B3;rw[QP (GM ha)];simp[CE,Dc]
theorem To(p q:ByteArray)(w:World)(az:Mr X w)(a3:p.size<=maxLen)(a4:q.size<=maxLen):Calls prog 111 #[string p,string q] w fun e w'=>Ao w w'/\X7 X p q e w':=by
 have a9:=Yh (fun u=>HH p q u a3 a4);have an:=Yh az;clear a3 a4 az;go_enter func111,ntmps111;go_wp2_with fail;apply(a9.o _).mono;rintro e w1 ⟨J,bh⟩;have bp:=J.size;simp at bp;have ak:w1.heap[w.heap.size]?=some (.cells #[Nl,Nl,Nl,Nl,int i64 0,int i64 0,Nl,Nl,Nl,Nl,int i64 0] 154 (0,0)):=(J.block _ Ys).trans (QL w _);obtain⟨O,P,R,T,U,V,W,Z,ab,ac,Q,ad⟩:=Dq ak;have au:Ao w w1:=(Mxt:Ao w (w.alloc _)).trans (J.mono Ys);have B:=Yh au;have bf:=Yh ak;have ah:w.heap.size<w1.heap.size:=Yo
 clear J ak au;rcases bh with⟨H,rfl⟩|⟨⟨cs,I⟩,H,rfl⟩|⟨cs,a,bv,av,nv,xs,I,ag,rfl,aj,E⟩
 ·have ae:=Yh H;clear H;go_wp2;refine Jb (v:=tuple #[agg #[Nl,Nl,Nl,Nl,int i64 0,int i64 0,Nl,Nl,Nl,Nl,int i64 0],int i64 4]) (by simp[results,results111,go_sem,O,P,R,T,U,V,W,Z,ab,ac,Q,ad,ah]) rfl ?_;exact⟨B.o.trans (Ad.below (S:=fun i=>w.heap.size<=i) Mst Yo (fun i e=>e)),QG ⟨ae.o,rfl⟩⟩
 ·have ae:=Yh H;have af:=Yh I;clear H I;go_wp2;refine Jb (v:=tuple #[agg #[Nl,Nl,Nl,Nl,int i64 0,int i64 0,Nl,Nl,Nl,Nl,int i64 0],int i64 5]) (by simp[results,results111,go_sem,O,P,R,T,U,V,W,Z,ab,ac,Q,ad,ah]) rfl ?_;exact⟨B.o.trans (Ad.below (S:=fun i=>w.heap.size<=i) Mst Yo (fun i e=>e)),QO (QG ⟨⟨cs,af.o⟩,ae.o,rfl⟩)⟩
 ·obtain⟨ao,ar⟩:=E.atoms;obtain⟨la,am,rfl⟩:=Ab aj.owns;obtain⟨aa,D,rfl⟩:=Ab ar.1;obtain⟨na,C,rfl⟩:=Ab E.names;obtain⟨_,_,_,ay,ax,a0,a1,a2,_⟩:=Cq ag;have ba:=Yh (fun u (a6:Ao w1 u)=>by
   obtain⟨ao,g⟩:=(E.ext a6).atoms;exact I0 u (an.o.ext (B.o.trans (a6.mono B.o.size))) _ (slice na a.2.length C) a ao g ⟨_,_,rfl⟩ ay ax a0 a2)
  have be:=Yh aj;have a8:=Yh E;have bb:=Yh a1;have af:=Yh I;have bc:=Yh ag;clear aj E ar ay ax I ag a1 a0 a2;go_wp2_with fail;apply(ba.o _ Mxt).mono;rintro e w2 ⟨bw,bx,bz,b0,b1,rfl,K,ai⟩;obtain⟨c,d,f,l,j,m,r,n,s,z,y,A,rfl,rfl,rfl,rfl,rfl⟩:=ai.len;have bq:=K.size;simp at bq;have F:Ao w1 w2:=(Mxt:Ao w1 (w1.alloc _)).trans (K.mono Ys);have a5:w2.heap[w1.heap.size]?=some (.cells #[slice aa a.1.length D,slice na a.2.length C] 148 (0,0)):=(K.block _ Ys).trans (QL w1 _);obtain⟨q0,b2,b3⟩:=Gs a5;have al:=(F.block _ ah).trans bf.o;obtain⟨O,P,R,T,U,V,W,Z,ab,ac,Q,ad⟩:=Dq al;have bk:w.heap.size<w2.heap.size:=Yo
  have bu:w1.heap.size<w2.heap.size:=Yo
  have M:=K8 al;have bd:YH (∀b,Ad (only w.heap.size) w2 b->b.heap.size=w2.heap.size->Ao w ((b.alloc (.cells #[slice c (AN a).goals.length d,slice f l j,slice m r n,slice s z y,int i64 A] 152)).alloc (.cells #[slice c (AN a).goals.length d,slice f l j,slice m r n,slice s z y,int i64 A,int i64 0] 250))/\X7 X p q (Rq #[agg #[slice la cs.length am,slice aa a.1.length D,slice na a.2.length C,slice (some ⟨w2.heap.size+1,0,none⟩) 1 1,int i64 0,int i64 0,Nl,Nl,Nl,Nl,int i64 0],int i64 0]) ((b.alloc (.cells #[slice c (AN a).goals.length d,slice f l j,slice m r n,slice s z y,int i64 A] 152)).alloc (.cells #[slice c (AN a).goals.length d,slice f l j,slice m r n,slice s z y,int i64 A,int i64 0] 250))):=fun b N bi=>by
   have aw:Ao w w2:=B.o.trans (F.mono B.o.size);have L:Ao w b:=aw.trans (N.below aw.size (fun k e=>by have:k=w.heap.size:=e;omega));have G:Ao b ((b.alloc (.cells #[slice c (AN a).goals.length d,slice f l j,slice m r n,slice s z y,int i64 A] 152)).alloc (.cells #[slice c (AN a).goals.length d,slice f l j,slice m r n,slice s z y,int i64 A,int i64 0] 250)):=Mxt;refine⟨L.trans (G.mono L.size),QO (QO ⟨cs,a,⟨la,am,aa,D,na,C,some ⟨w2.heap.size+1,0,none⟩,1,none,0,0,none,0,0,none,0,0,none,0,0,0⟩,af.o,bc.o,rfl,?_⟩)⟩;obtain⟨br,bs,bt⟩:=Nd (cs:=cs) bb.o;have bj:((b.alloc (.cells #[slice c (AN a).goals.length d,slice f l j,slice m r n,slice s z y,int i64 A] 152)).alloc (.cells #[slice c (AN a).goals.length d,slice f l j,slice m r n,slice s z y,int i64 A,int i64 0] 250)).heap[w2.heap.size+1]?=some (.cells #[slice c (AN a).goals.length d,slice f l j,slice m r n,slice s z y,int i64 A,int i64 0] 250 (0,0)):=by rw[<-bi];exact heap_alloc2_new b _ _
   have bl:=(M.node N ai).ext (Y:=X) G (fun _ _ h=>h);have bn:=((be.o.ext (Y:=fun _=>False) F (fun _ _ h=>h)).keep N M).ext (Y:=fun _=>False) G (fun _ _ h=>h);have bm:Fg b (slice aa a.1.length D) (slice na a.2.length C) a:=(a8.o.ext F).keep N (fun k bo=>by
    obtain⟨cl,t,fr,bg,ap⟩:=M k bo;exact⟨cl,t,fr,bg,fun e=>ap (QG e),fun e=>ap (QO (QO (QO (QO (QO e)))))⟩)
   exact⟨⟨⟨xs,bn⟩,bm.ext G,⟨_,D5.single bj bl⟩,fun aq=>by rw[br]at aq;simp at aq,an.o.ext (L.trans (G.mono L.size))⟩,fun _=>bt.symm,by rw[bs];simp,fun x a7=>by simp at a7;subst a7;exact Qm _⟩
  clear K F a5 al ai M;go_wp2;refine Jb (v:=tuple #[agg #[slice la cs.length am,slice aa a.1.length D,slice na a.2.length C,slice (some ⟨w2.heap.size+1,0,none⟩) 1 1,int i64 0,int i64 0,Nl,Nl,Nl,Nl,int i64 0],int i64 0]) (by simp[results,results111,go_sem,O,P,R,T,U,V,W,Z,ab,ac,Q,ad,bk]) rfl ?_;exact bd.o _ ((((((((((((Ad.refl (only w.heap.size) w2).put 0 _).put 1 _).put 2 _).put 3 _).put 4 _).put 5 _).put 6 _).put 7 _).put 8 _).put 9 _).put 10 _) Ys
theorem Oe(w:World)(s:SC)(cl al a dl:Nat)(st:Nat)(b:Int)(n:Nat)(hn:n<=3000)(c:st=2\/st=3):
  Calls prog 89 #[s.val cl al a dl st b,int i64 n] w fun e w'=>e=Rq #[s.val cl al a dl st b,int i64 0,int i64 0]/\Ao w w':=by
 obtain⟨la,lc,aa,ac,na,nc,da,dc,f0a,f0l,f0c,f1a,f1l,f1c,f2a,f2l,f2c,f3a,f3l,f3c,f4⟩:=s;simp only[SC.val];rcases c with rfl|rfl
 ·go_enter func89,ntmps89;go_wp2;refine Jb (v:=tuple #[agg #[slice la cl lc,slice aa al ac,slice na a nc,slice da dl dc,int i64 2,int i64 b,slice f0a f0l f0c,slice f1a f1l f1c,slice f2a f2l f2c,slice f3a f3l f3c,int i64 f4],int i64 0,int i64 0]) (by simp[results,results89,go_sem]) rfl ?_;exact⟨rfl,Mxt⟩
 ·go_enter func89,ntmps89;go_wp2;refine Jb (v:=tuple #[agg #[slice la cl lc,slice aa al ac,slice na a nc,slice da dl dc,int i64 3,int i64 b,slice f0a f0l f0c,slice f1a f1l f1c,slice f2a f2l f2c,slice f3a f3l f3c,int i64 f4],int i64 0,int i64 0]) (by simp[results,results89,go_sem]) rfl ?_;exact⟨rfl,Mxt⟩
theorem Rk(w:World)(s:SC)(cl al a dl:Nat)(st:Nat)(b n:Int)(hn:n<0\/3000<n)(hi: -9223372036854775808<=n/\n<9223372036854775808):
  Calls prog 89 #[s.val cl al a dl st b,int i64 n] w fun e w'=>e=Rq #[s.val cl al a dl st b,int i64 0,int i64 8]/\Ao w w':=by
 obtain⟨la,lc,aa,ac,na,nc,da,dc,f0a,f0l,f0c,f1a,f1l,f1c,f2a,f2l,f2c,f3a,f3l,f3c,f4⟩:=s;simp only[SC.val]
 by_cases h0:n<0
 ·clear hn;go_enter func89,ntmps89;go_wp2;refine Jb (v:=tuple #[agg #[slice la cl lc,slice aa al ac,slice na a nc,slice da dl dc,int i64 st,int i64 b,slice f0a f0l f0c,slice f1a f1l f1c,slice f2a f2l f2c,slice f3a f3l f3c,int i64 f4],int i64 0,int i64 8]) (by simp[results,results89,go_sem]) rfl ?_;exact⟨rfl,Mxt⟩
 ·have c:3000<n:=Yo
  clear hn;go_enter func89,ntmps89;go_wp2;refine Jb (v:=tuple #[agg #[slice la cl lc,slice aa al ac,slice na a nc,slice da dl dc,int i64 st,int i64 b,slice f0a f0l f0c,slice f1a f1l f1c,slice f2a f2l f2c,slice f3a f3l f3c,int i64 f4],int i64 0,int i64 8]) (by simp[results,results89,go_sem]) rfl ?_;exact⟨rfl,Mxt⟩
structure Ea where
 b:Nat
 x:CX
 s:SC
 D:List (ND×Nat)
 p:ByteArray
 q:ByteArray
 cs:List Db
 a:List (List BJ)×At
 m:SN
def Ea.row(e:Ea):Lv:= .pointer (some ⟨e.b,0,none⟩)::(e.s.cells e.cs.length e.a.1.length e.a.2.length e.D.length e.m.status e.m.tries).toList
theorem Ea.row_len(e:Ea):e.row.length=12:=rfl
def CR:List Ea->Lv
 |[]=>[]
 |e::es=>e.row++CR es
theorem SH(a b:List Ea):CR (a++b)=CR a++CR b:=by
 induction a with
 |nil=>rfl
 |cons e a c=>simp[CR,c]
theorem H0:∀{a:List Ea}{i:Nat}{e:Ea},a[i]?=some e->∀j,j<12->(CR a)[i*12+j]?=e.row[j]?:=by
 intro a
 induction a with
 |nil=>intro i e h;simp at h
 |cons f a c=>
  intro i e h j b
  cases i with
  |zero=>
   simp at h;subst h;unfold CR;rw[Qc (by rw[Ea.row_len];omega)];simp
  |succ i=>
   unfold CR;rw[Qd (by rw[Ea.row_len];omega),Ea.row_len,show(i+1)*12+j-12=i*12+j by omega];exact c (by simpa using h) j b
def J3(l:Lv)(i:Nat):Lv->Lv
 |[]=>l
 |v::vs=>J3 (l.set i v) (i+1) vs
theorem RQ:∀(vs r l:Lv)(i:Nat),J3 (r++l) (r.length+i) vs=r++J3 l i vs:=by
 intro vs
 induction vs with
 |nil=>intro r l i;rfl
 |cons v vs a=>
  intro r l i;simp only[J3];rw[List.set_append_right _ _ Yo,show r.length+i-r.length=i by omega,show r.length+i+1=r.length+(i+1) by omega];exact a r _ _
theorem S1:∀{a:List Ea}{i:Nat}{e e':Ea},a[i]?=some e->e'.b=e.b->CR (a.set i e')=J3 (CR a) (i*12+1) (e'.row.drop 1):=by
 intro a
 induction a with
 |nil=>intro i e e' h;simp at h
 |cons f a c=>
  intro i e e' h hb
  cases i with
  |zero=>
   simp at h;subst h;simp only[JG,CR,Ea.row,SC.cells,hb];rfl
  |succ i=>
   simp only[JD,CR];rw[c (by simpa using h) hb,show(i+1)*12+1=f.row.length+(i*12+1) by rw[Ea.row_len];omega,RQ]
structure FU(X:Nat->Prop)(w:World)(B:Nat)(e:Ea):Prop where
 code:Dj w e.b e.x e.cs e.a e.m
 ref:BH X w e.s e.cs e.a e.D e.m
 inv:DD e.cs e.a e.m
 prog:Bz e.p=some e.cs
 ask:Cn e.q=some e.a
 low:∀k,CF e.b e.x k->B<=k
 fx:e.m.status=1->∀k,(∃p,e.x.fa=some p/\p.block=k)->¬X k
theorem Dj.own_lt{x:CX}(h:Dj w b x cs a m){k:Nat}(c:CF b x k):k<w.heap.size:=by
 rcases c with rfl|c
 ·exact Ac h.box
 ·obtain⟨e,d⟩:=h.way;exact(d.owns.lt k (Fp.2 c)).2
theorem Dj.own_ty{x:CX}(h:Dj w b x cs a m){k:Nat}(d:CF b x k):∃cl t fr,w.heap[k]?=some (.cells cl t fr)/\(t=112\/t=135):=by
 rcases d with rfl|d
 ·exact⟨_,_,_,h.box,QG rfl⟩
 ·obtain⟨n,f⟩:=h.way;have c:(Value.slice x.wa m.way.length x.wc).ownBlock=some k:=Fp.2 d;rcases f.owns.2 with⟨e,_⟩|⟨g,j,l,e,_,i,_⟩
  ·rw[e]at c;simp[Value.ownBlock]at c
  ·rw[e]at c;simp[Value.ownBlock]at c;subst c;exact⟨_,_,_,i,QO rfl⟩
theorem FU.ext{e:Ea}(h:FU X w B e)(a:Ao w w'):FU X w' B e:=⟨h.code.ext a,h.ref.ext a,h.inv,h.prog,h.ask,h.low,h.fx⟩
theorem FU.keep{e:Ea}(h:FU X w B e)(a:Ad S w w')(c:Dz S w)(d:DB S w)(f:∀k,CF e.b e.x k->¬S k):FU X w' B e:=⟨h.code.keep a d f,h.ref.keep a c,h.inv,h.prog,h.ask,h.low,h.fx⟩
structure CP(w:World)(B bW:Nat)(v1 v2:Value)(es:List Ea)(la:Option Addr)(lc:Nat):Prop where
 box:w.heap[bW]?=some (.cells #[.slice la es.length lc,v1,v2] 76 (0,0))
 row:w.ownsRow B 156 12 (.slice la es.length lc) es.length (CR es)
 all:∀(i:Nat)(e:Ea),es[i]?=some e->FU (Ak v2) w B e
 apart:∀(i j:Nat)(e f:Ea),i≠j->es[i]?=some e->es[j]?=some f->∀k,CF e.b e.x k->¬CF f.b f.x k
 xok:Mr (Ak v2) w
theorem CP.ext{b c:Value}{a:List Ea}{la:Oa}{lc:Nat}(h:CP w B bW b c a la lc)(e:Ao w w'):CP w' B bW b c a la lc:=
 ⟨(e.block _ (Ac h.box)).trans h.box,Aj h.row (fun k g=>e.block k (h.row.lt k g).2),fun i f d=>(h.all i f d).ext e,h.apart,h.xok.ext e⟩
theorem CP.nil(h:w.heap[bW]?=some (.cells #[Nl,Nl,Nl] 76 (0,0))):CP w B bW Nl Nl [] none 0:=
 ⟨h,Q2 _ _ _ _,fun i e h=>by simp at h,fun i j e f _ h=>by simp at h,fun k a=>by simp[Ak,Value.ownBlock]at a⟩
structure BF(B:Nat)(w w':World):Prop where
 bel:Below B w w'
 frm:∀(k:Nat)(cl:Array Value)(t:TypeId)(fr:Nat×Nat),w.heap[k]?=some (.cells cl t fr)->t=9\/t=3\/t=47->w'.heap[k]?=some (.cells cl t fr)
theorem BF.trans(h:BF B w w1)(c:BF B w1 w2):BF B w w2:=⟨h.bel.trans c.bel,fun k cl t fr a b=>c.frm k cl t fr (h.frm k cl t fr a b) b⟩
theorem Fx(h:Ao w w')(b:B<=w.heap.size):BF B w w':=⟨h.mono b,fun k cl t fr a _=>(h.block k (Ac a)).trans a⟩
theorem KT(h:Ad S w w')(g:B<=w.heap.size)(i:∀k,S k->B<=k)(j:∀k,S k->∃cl t fr,w.heap[k]?=some (.cells cl t fr)/\t≠9/\t≠3/\t≠47):BF B w w':=
 ⟨h.below g i,fun k cl t fr a b=>(h.block k (Ac a) (fun l=>by
  obtain⟨m,o,n,c,d,e,f⟩:=j k l;rw[a]at c;simp at c;obtain⟨_,rfl,_⟩:=c;rcases b with rfl|rfl|rfl
  ·exact d rfl
  ·exact e rfl
  ·exact f rfl)).trans a⟩
def HL(t:TypeId):Prop:=t=76\/t=156
theorem HL.ne(h:∀k,S k->∃cl t fr,w.heap[k]?=some (.cells cl t fr)/\HL t):∀k,S k->∃cl t fr,w.heap[k]?=some (.cells cl t fr)/\t≠9/\t≠3/\t≠47:=fun k c=>by
 obtain⟨cl,t,fr,a,b⟩:=h k c;exact⟨cl,t,fr,a,by rcases b with rfl|rfl<;>decide⟩
theorem NK(h:∀k,S k->∃cl t fr,w.heap[k]?=some (.cells cl t fr)/\HL t):Dz S w/\DB S w/\∀{b x cs a m},Dj w b x cs a m->∀k,CF b x k->¬S k:=by
 refine⟨fun k e=> ?_,fun k e=> ?_,fun{b x cs a m} i k j e=> ?_⟩
 ·obtain⟨cl,t,fr,c,d⟩:=h k e;exact⟨cl,t,fr,c,by rcases d with rfl|rfl<;>simp[HR]⟩
 ·obtain⟨cl,t,fr,c,d⟩:=h k e;exact⟨cl,t,fr,c,by rcases d with rfl|rfl<;>simp[BP]⟩
 ·obtain⟨cl,t,fr,c,d⟩:=h k e;obtain⟨l,o,n,f,g⟩:=i.own_ty j;rw[c]at f;simp at f;obtain⟨_,rfl,_⟩:=f;rcases d with rfl|rfl<;>simp at g
theorem infoLs:(prog.info? 156).map (fun i=>(i.zero,i.size,i.bytes))=some (some (agg #[pointer none,Nl,Nl,Nl,Nl,int i64 0,int i64 0,Nl,Nl,Nl,Nl,int i64 0]),12,224):=by kernel_rfl
theorem X1(p:Oa)(s:SC)(cl al b d:Nat)(st c:Int):∀u∈(#[Value.pointer p,slice s.la cl s.lc,slice s.aa al s.ac,slice s.na b s.nc,slice s.da d s.dc,int i64 st,int i64 c,slice s.f0a s.f0l s.f0c,slice s.f1a s.f1l s.f1c,slice s.f2a s.f2l s.f2c,slice s.f3a s.f3l s.f3c,int i64 s.f4]:Av).toList,u.oneCell'=true:=by
 intro u a;simp at a;rcases a with rfl|rfl|rfl|rfl|rfl|rfl|rfl|rfl|rfl|rfl|rfl|rfl<;>rfl
def Ef(w:World)(B bW:Nat)(v1 v2:Value)(N:Nat)(e:Ending)(w':World):Prop:=e= .returned (.bool true)/\BF B w w'/\∃(es:List Ea)(la:Oa)(lc:Nat),es.length<=N/\CP w' B bW v1 v2 es la lc
theorem CP.more{O p:Value}{a:List Ea}{la n:Oa}{lc o:Nat}{e:Ea}(h:CP w B bW O p a la lc)(ag:B<=bW)(U:FU (Ak p) w B e)(hn:∀(i:Nat)(f:Ea),a[i]?=some f->∀k,CF f.b f.x k->¬CF e.b e.x k)
  (ha:Ar w B 156 12 (slice la a.length lc) (a.length+1) (CR a++e.row) (slice n (a.length+1) o) w'):BF B w (w'.setCell ⟨bW,0,none⟩ (slice n (a.length+1) o))/\CP (w'.setCell ⟨bW,0,none⟩ (slice n (a.length+1) o)) B bW O p (a++[e]) n o:=by
 have J:=Ac h.box;have T:¬Ak (slice la a.length lc) bW:=fun c=>by
  rcases h.row.2 with⟨e,_⟩|⟨g,G,H,e,_,m,_⟩
  ·rw[Ak,e]at c;simp[Value.ownBlock]at c
  ·rw[Ak,e]at c;simp[Value.ownBlock]at c;subst c;rw[h.box]at m;simp at m
 have D:=(ha.kept.block bW J T).trans h.box;have A:∀k,Ak (slice la a.length lc) k->∃cl t fr,w.heap[k]?=some (.cells cl t fr)/\HL t:=fun k c=>by
  rcases h.row.2 with⟨e,_⟩|⟨g,G,H,e,_,m,_⟩
  ·rw[Ak,e]at c;simp[Value.ownBlock]at c
  ·rw[Ak,e]at c;simp[Value.ownBlock]at c;subst c;exact⟨_,_,_,m,QO rfl⟩
 obtain⟨Y,Z,aa⟩:=NK A;have C:∀k,only bW k->∃cl t fr,w'.heap[k]?=some (.cells cl t fr)/\HL t:=fun k c=>by
  have c:k=bW:=c;subst c;exact⟨_,_,_,D,QG rfl⟩
 obtain⟨ab,ac,ad⟩:=NK C;have s:Ad (only bW) w' (w'.setCell ⟨bW,0,none⟩ (slice n (a.length+1) o)):=(Ad.refl _ _).put 0 _;have M:∀f,FU (Ak p) w B f->FU (Ak p) (w'.setCell ⟨bW,0,none⟩ (slice n (a.length+1) o)) B f:=fun f d=>by
  have q:=d.keep ha.kept Y Z (aa d.code);exact q.keep s ab ac (ad q.code)
 have L:(a++[e]).length=a.length+1:=Ys
 have F:w'.ownsRow B 156 12 (slice n (a.length+1) o) (a.length+1) (CR (a++[e])):=by
  rw[SH];simpa[CR]using ha.owns
 refine⟨(KT ha.kept (by have:=J;omega) (fun k l=>(h.row.lt k l).1) (HL.ne A)).trans (KT s (by have:=ha.kept.size;omega) (fun k l=>by have:k=bW:=l;omega) (HL.ne C)),?_,?_,?_,?_,?_⟩
 ·rw[L];exact Ae D 0 _
 ·rw[L];refine Aj F (fun k c=>s.block k (F.lt k c).2 (fun l=> ?_));have l:k=bW:=l;subst l;rcases F.2 with⟨e,_⟩|⟨g,G,H,e,_,m,_⟩
  ·rw[e]at c;simp[Value.ownBlock]at c
  ·rw[e]at c;simp[Value.ownBlock]at c;subst c;rw[D]at m;simp at m
 ·intro i f d;rcases QB i a.length with hi|hi
  ·rw[Qc hi]at d;exact M f (h.all i f d)
  ·rw[Qd hi]at d;have:i-a.length=0:=by
    have:=(Qa.1 d).1;simp at this;omega
   rw[this]at d;simp at d;subst d;exact M e U
 ·intro i j f g V d m k l;have z:∀(i:Nat)(f:Ea),(a++[e])[i]?=some f->(i<a.length/\a[i]?=some f)\/(i=a.length/\f=e):=fun i f d=>by
   rcases QB i a.length with hi|hi
   ·rw[Qc hi]at d;exact QG ⟨hi,d⟩
   ·rw[Qd hi]at d;have hl:=(Qa.1 d).1;simp at hl;have:i-a.length=0:=Yo
    rw[this]at d;simp at d;exact QO ⟨Yo,d.symm⟩
  rcases z i f d with⟨hi,K⟩|⟨hi,P⟩
  ·rcases z j g m with⟨c,E⟩|⟨c,I⟩
   ·exact h.apart i j f g V K E k l
   ·rw[I];exact hn i f K k l
  ·rw[P]at l;rcases z j g m with⟨c,E⟩|⟨c,I⟩
   ·exact fun W=>hn j g E k W l
   ·omega
 ·have v:∀{S:Np}{u N:World},Mr (Ak p) u->Ad S u N->(∀k,S k->∃cl t fr,u.heap[k]?=some (.cells cl t fr)/\HL t)->Mr (Ak p) N:=fun v l R k Q=>by
   obtain⟨cl,fr,q⟩:=v k Q;exact⟨cl,fr,(l.block k (Ac q) (fun X=>by
    obtain⟨ae,t,af,y,r⟩:=R k X;rw[q]at y;simp at y;obtain⟨_,rfl,_⟩:=y;rcases r with r|r<;>simp at r)).trans q⟩
  exact v (v h.xok ha.kept A) s C
theorem Sc{ae Z:Value}(w:World)(B A:Nat)(j:List Ea)(la:Oa)(lc:Nat)(h:CP w B A ae Z j la lc)(bo:B<=A)(br:j.length<=2000000)(kd n m:Int)(p q x:ByteArray)(ao:p.size<=maxLen)(ap:q.size<=maxLen):
  Calls prog 87 #[Pt A,agg #[int i64 kd,int i64 n,int i64 m,string p,string q,string x]] w (Ef w B A ae Z (j.length+1)):=by
 have ca:=Ac h.box;obtain⟨ac,T⟩:=Ex (w.alloc (.cells #[int i64 kd,int i64 n,int i64 m,string p,string q,string x] 78));have ay:Ao w ac:=by rw[T];exact Mxt
 have cb:ac.heap.size=w.heap.size+1:=by rw[T];simp
 have av:ac.heap[w.heap.size]?=some (.cells #[int i64 kd,int i64 n,int i64 m,string p,string q,string x] 78 (0,0)):=by rw[T];exact QL w _
 have bd:=Yh (WC p q ac ao ap);have af:=Yh (fun u (bt:Ao w u)=>To p q u (h.xok.ext bt) ao ap);have bf:=Yh ay;have bc:=Yh av;have bi:=Yh T;have O:=Yh h;clear h ay av T ao ap;go_enter func87,ntmps87;go_wp2_with fail;rw[<-bi.o];apply bd.o.mono;rintro e w1 ⟨ad,a4⟩;have cc:=ad.size;obtain⟨bv,bw,bx,bz,b0,b1,b2⟩:=Iw ((ad.block _ Yo).trans bc.o);have a0:Ao w w1:=bf.o.trans (ad.mono Yo);have t:=Yh a0;have ag:=Yh a4;clear ad a0;rcases a4 with⟨W,rfl⟩|⟨⟨cs,Y⟩,W,rfl⟩|⟨cs,a,b,aq,Y,a3,rfl,a7,ax⟩
 ·clear ag;have ab:=Yh W;clear W;go_wp2_with fail;apply(af.o _ t.o).mono;rintro e w2 ⟨E,X⟩;have P:=Yh E;clear E;rcases X with⟨l,rfl⟩|⟨⟨d,r⟩,l,rfl⟩|⟨d,c,s2,r,_,rfl,_⟩
  ·clear l;go_wp2;go_ret;have R:Ao w (w2.alloc (.cells #[Nl,Nl,Nl,Nl,int i64 0,int i64 0,Nl,Nl,Nl,Nl,int i64 0] 154)):=(t.o.trans (P.o.mono t.o.size)).trans ((Mxt:Ao w2 (w2.alloc _)).mono (by have:=t.o.size;have:=P.o.size;omega));exact⟨rfl,Fx R Yo,j,la,lc,Yo,O.o.ext R⟩
  ·have:=ab.o;rw[this]at r;simp at r
  ·have:=ab.o;rw[this]at r;simp at r
 ·clear ag;have ab:=Yh W;have Q:=Yh Y;clear W Y;go_wp2_with fail;apply(af.o _ t.o).mono;rintro e w2 ⟨E,X⟩;have P:=Yh E;clear E;rcases X with⟨l,rfl⟩|⟨⟨d,r⟩,l,rfl⟩|⟨d,c,s2,r,K,rfl,_⟩
  ·have:=Q.o;rw[this]at l;simp at l
  ·clear l r;go_wp2;go_ret;have R:Ao w (w2.alloc (.cells #[Nl,Nl,Nl,Nl,int i64 0,int i64 0,Nl,Nl,Nl,Nl,int i64 0] 154)):=(t.o.trans (P.o.mono t.o.size)).trans ((Mxt:Ao w2 (w2.alloc _)).mono (by have:=t.o.size;have:=P.o.size;omega));exact⟨rfl,Fx R Yo,j,la,lc,Yo,O.o.ext R⟩
  ·have:=ab.o;rw[this]at K;simp at K
 ·clear ag;have Q:=Yh Y;have aa:=Yh a3;have ah:=Yh a7;have be:=Yh ax;clear Y a3 a7 ax;go_wp2_with fail;apply(af.o _ t.o).mono;rintro e w2 ⟨E,X⟩;have bs:=E.size;rcases X with⟨l,rfl⟩|⟨⟨d,r⟩,l,rfl⟩|⟨d,c,s2,r,K,rfl,a1⟩
  ·have:=Q.o;rw[this]at l;simp at l
  ·have:=aa.o;rw[this]at l;simp at l
  ·obtain rfl:d=cs:=by have:=Q.o;rw[this]at r;simpa using r.symm
   obtain rfl:c=a:=by have:=aa.o;rw[this]at K;simpa using K.symm
   obtain⟨F,G,y,z,H,I,C,D,f0a,f0l,f0c,f1a,f1l,f1c,f2a,f2l,f2c,f3a,f3l,f3c,f4⟩:=s2;obtain⟨_,_,_,_,_,_,am,_,_⟩:=Cq aa.o;obtain⟨a9,ba,b3⟩:=Nd (cs:=d) am;obtain⟨s,S⟩:=Ex (w2.alloc (.cells #[slice F d.length G,slice y c.1.length z,slice H c.2.length I,slice C 1 D,int i64 0,int i64 0,slice f0a f0l f0c,slice f1a f1l f1c,slice f2a f2l f2c,slice f3a f3l f3c,int i64 f4] 154));have aj:Ao w2 s:=by rw[S];exact Mxt
   have cd:s.heap.size=w2.heap.size+1:=by rw[S];simp
   have aw:s.heap[w2.heap.size]?=some (.cells #[slice F d.length G,slice y c.1.length z,slice H c.2.length I,slice C 1 D,int i64 0,int i64 0,slice f0a f0l f0c,slice f1a f1l f1c,slice f2a f2l f2c,slice f3a f3l f3c,int i64 f4] 154 (0,0)):=by rw[S];exact QL w2 _
   have ai:Ao w1 s:=E.trans (aj.mono bs);have ak:Ao w s:=t.o.trans (ai.mono t.o.size);have J:=O.o.ext ak;have az:FU (Ak Z) s B ⟨b,aq,⟨F,G,y,z,H,I,C,D,f0a,f0l,f0c,f1a,f1l,f1c,f2a,f2l,f2c,f3a,f3l,f3c,f4⟩,[(AN c,0)],p,q,d,c,KQ d c⟩:=⟨be.o.ext ai,a1.ext aj,DD.new d am,Q.o,aa.o,fun k V=>by have:=ah.o k (QG V);omega,fun _ k V bu=>by have bm:=ah.o k (QO V);have bn:=O.o.xok.lt bu;omega⟩;have a8:(⟨b,aq,⟨F,G,y,z,H,I,C,D,f0a,f0l,f0c,f1a,f1l,f1c,f2a,f2l,f2c,f3a,f3l,f3c,f4⟩,[(AN c,0)],p,q,d,c,KQ d c⟩:Ea).row=[Pt b,slice F d.length G,slice y c.1.length z,slice H c.2.length I,slice C 1 D,int i64 0,int i64 0,slice f0a f0l f0c,slice f1a f1l f1c,slice f2a f2l f2c,slice f3a f3l f3c,int i64 f4]:=by simp[Ea.row,SC.cells,a9,ba]
   have ar:YH (∀w3 M N,Ar (s.drewN 1) B 156 12 (slice la j.length lc) (j.length+1) (CR j++[Pt b,slice F d.length G,slice y c.1.length z,slice H c.2.length I,slice C 1 D,int i64 0,int i64 0,slice f0a f0l f0c,slice f1a f1l f1c,slice f2a f2l f2c,slice f3a f3l f3c,int i64 f4]) (slice M (j.length+1) N) w3->(w3.heap[A]?=some (.cells #[slice la j.length lc,ae,Z] 76 (0,0)))/\Ef w B A ae Z (j.length+1) (returned (.bool true)) (w3.setCell ⟨A,0,none⟩ (slice M (j.length+1) N))):=fun w3 M N v=>by
    have a2:Ar s B 156 12 (slice la j.length lc) (j.length+1) (CR j++(⟨b,aq,⟨F,G,y,z,H,I,C,D,f0a,f0l,f0c,f1a,f1l,f1c,f2a,f2l,f2c,f3a,f3l,f3c,f4⟩,[(AN c,0)],p,q,d,c,KQ d c⟩:Ea).row) (slice M (j.length+1) N) w3:=⟨by rw[a8];exact v.owns,⟨v.kept.os,v.kept.tape,v.kept.output,v.kept.size,v.kept.block⟩,v.where_⟩;obtain⟨bk,bl⟩:=J.more bo az (fun i f bp k V bq=>by
     have bm:=(O.o.all i f bp).code.own_lt V;have bn:=ah.o k (QG bq);omega) a2
    refine⟨?_,rfl,(Fx ak Yo).trans bk,_,M,N,Ys,bl⟩;refine(a2.kept.block A (Ac J.box) (fun U=> ?_)).trans J.box;rcases J.row.2 with⟨e,_⟩|⟨g,b4,b5,e,_,a6,_⟩
    ·rw[Ak,e]at U;simp[Value.ownBlock]at U
    ·rw[Ak,e]at U;simp[Value.ownBlock]at U;subst U;rw[J.box]at a6;simp at a6
   have au:=Yh J.row;have bj:=Aa J.box 0 _ rfl;obtain⟨cf,cg,ci,cj,ck,cl,cm,cn,co,cp,ch,cq⟩:=Dq aw;have bh:=Yh S;obtain⟨L,al⟩:=Ex j.length;rw[<-al]at ar au bj br;have bg:=Yh al;have b8:B<=s.heap.size:=Yo
   have b9:A<w2.heap.size:=Yo
   clear E a1 aj aw ai ak J az a8 S a9 ba b3 am r K al bv bw bx bz b0 b1 b2;simp only[SC.val];go_wp2_with fail;rw[<-bh.o]
   go_region_law (refine BA (s.drewN 1) rfl (.tmp 41) (.tmp 45) 73 rfl B 156 infoLs underlying73 rfl Yd (slice la L lc) L (CR j) rfl au.o #[Pt b,slice F d.length G,slice y c.1.length z,slice H c.2.length I,slice C 1 D,int i64 0,int i64 0,slice f0a f0l f0c,slice f1a f1l f1c,slice f2a f2l f2c,slice f3a f3l f3c,int i64 f4] rfl (by show _=s.heap.size;omega) rfl (X1 _ ⟨F,G,y,z,H,I,C,D,f0a,f0l,f0c,f1a,f1l,f1c,f2a,f2l,f2c,f3a,f3l,f3c,f4⟩ _ _ _ _ _ _) Yo (by show B<=s.heap.size;omega) rfl ?_;intro ce w3 v;obtain⟨M,N,rfl⟩:=Ab v.owns;obtain⟨an,a5⟩:=ar.o _ _ _ v;have b6:=Aa an 0 _ rfl;have b7:=fun i=>Ag an i;have bb:=Yh a5;clear v an a5)
   all_goals
    go_wp2;go_ret;rw[<-bg.o];exact bb.o
theorem LG(c n:Int)(w:World)(g: -9223372036854775808<=c/\c<9223372036854775808)(hn:0<n/\n<9223372036854775808):
  Calls prog 88 #[int i64 c,int i64 n] w fun e w'=>∃r:Nat,(r:Int)<n/\e=returned (int i64 r)/\w'=w:=by
 have b:¬n=0:=Yo
 obtain⟨h,i⟩:=g;obtain⟨d,j⟩:=hn
 by_cases h0:c<0
 ·go_enter func88,ntmps88;go_wp2;go_ret;have e: -((c+1).tmod n)=(-(c+1))%n:=by rw[<-Int.neg_tmod,Int.tmod_eq_emod_of_nonneg Yo]
  have a:=Int.emod_nonneg (-(c+1)) b;have f:=Int.emod_lt_of_pos (-(c+1)) d;refine⟨((-(c+1))%n).toNat,Yo,?_,rfl⟩;rw[Int.toNat_of_nonneg a,<-e];rfl
 ·go_enter func88,ntmps88;go_wp2;go_ret;have a:=Int.emod_nonneg c b;have f:=Int.emod_lt_of_pos c d;refine⟨(c%n).toNat,Yo,?_,rfl⟩;rw[Int.toNat_of_nonneg a];rfl
theorem CP.cell{n o:Value}{d:List Ea}{la:Oa}{lc:Nat}(h:CP w B bW n o d la lc){k:Nat}{e:Ea}(c:d[k]?=some e):∃lb,la=some ⟨lb,0,none⟩/\lb<w.heap.size/\(∀i,w.frozen? ⟨lb,i,none⟩=false)/\w.cell? ⟨lb,k*12,none⟩=some (Pt e.b)/\
  ∀j v,(e.s.cells e.cs.length e.a.1.length e.a.2.length e.D.length e.m.status e.m.tries).toList[j]?=some v->w.cell? ⟨lb,k*12+(j+1),none⟩=some v:=by
 have q:=(Qa.1 c).1;obtain⟨lb,r,t,g,_,f,_⟩:=An h.row Yo;simp only[QH]at g;obtain⟨rfl,_,rfl⟩:=g;refine⟨lb,rfl,Ac f,fun i=>Ag f i,?_,fun j v l=> ?_⟩
 ·have:=Af h.row (k*12+0) _ ((H0 c 0 Yo).trans rfl);simpa using this
 ·have p:j<11:=by
   have:=(Qa.1 l).1;simpa[SC.cells]using this
  exact Af h.row _ _ ((H0 c (j+1) Yo).trans (by simpa[Ea.row]using l))
theorem FU.inv1{e:Ea}(h:FU X w B e):(e.m.status=1->e.m.found.vals.length=e.a.2.length/\∀k∈e.m.found.used,k<24)/\(e.m.status=2->Hv e.cs (AN e.a) e.m.tree/\e.m.tree.length<=1000000):=by
 obtain⟨_,_,_,_,g⟩:=Cv h.prog;refine⟨fun b=>⟨(h.inv.found b).2.1,fun k f=>by have:=(h.inv.found b).2.2 k f;omega⟩,fun d=>⟨?_,?_⟩⟩
 ·have c:=h.inv.tree Yo;rw[h.inv.no d]at c;exact c
 ·have:=h.inv.len;have:=h.inv.tries;omega
theorem P6{bd be:Value}(w:World)(B G:Nat)(l:List Ea)(la:Oa)(lc:Nat)(h:CP w B G bd be l la lc)(bj:B<=G)(k:Nat)(ad:k<l.length)(n:Int)(hn: -9223372036854775808<=n/\n<9223372036854775808)(a3:l.length<=2000000):
  Calls prog 90 #[Pt G,int i64 k,int i64 n] w fun e w'=>e=returned (.bool true)/\Ao w w':=by
 obtain⟨y,P⟩:∃y,l[k]?=some y:=⟨_,Qb ad⟩;obtain⟨lb,rfl,bl,bm,an,c⟩:=h.cell P;have i:=h.all k y P;obtain⟨_,_,_,Z,O⟩:=Cv i.prog;obtain⟨ab,ac⟩:=i.inv1;have X:=h.box;have ah:=Aa X 0 _ rfl;have s:=i.code;have N:=i.inv;have U:=i.ref.ref;have K:=i.ask;clear i;obtain⟨b,A,ag,D,p,q,cs,a,m⟩:=y;simp only at*;obtain⟨F,V⟩:=Ex (Du a m.status m.found m.tree);have j:=Yh (fun u (g:Ao w u)=>VG u ag cs q a D m.status m.tries m.found m.tree (U.ext g) Z O K ab ac);have E:=Yh (fun u (g:Ao w u)=>P9 u b A cs a m (s.ext g));have t:=Yh (fun u (g:Ao w u)=>O5 u b A cs q a m (s.ext g) N K);have x:=Yh (fun u (g:Ao w u)=>Oz u b A cs a m (s.ext g) N O);have v:=Yh (fun u (g:Ao w u)=>UX u b A cs a m (s.ext g));rw[<-V]at j t x v;obtain⟨bf,H⟩:=Ex F.1;obtain⟨bg,I⟩:=Ex F.2.1;obtain⟨bh,J⟩:=Ex F.2.2;rw[<-H,<-I,<-J]at j;rw[<-H]at t;rw[<-I]at x;rw[<-J]at v;obtain⟨a7,a8,ak,am,a9,ba,a1,a2,f0a,f0l,f0c,f1a,f1l,f1c,f2a,f2l,f2c,f3a,f3l,f3c,f4⟩:=ag;simp only[SC.val]at j;simp only[SC.cells]at c;obtain⟨st,Q⟩:∃f,f=m.status:=⟨_,rfl⟩;obtain⟨bc,af⟩:∃f,f=m.tries:=⟨_,rfl⟩;obtain⟨cl,Y⟩:∃f,f=cs.length:=⟨_,rfl⟩;obtain⟨al,W⟩:∃f,f=a.1.length:=⟨_,rfl⟩;obtain⟨bb,ae⟩:∃f,f=a.2.length:=⟨_,rfl⟩;obtain⟨dl,aa⟩:∃f,f=D.length:=⟨_,rfl⟩;rw[<-Q,<-af,<-Y,<-W,<-ae,<-aa]at j c;rw[<-Q]at E;have ao:=c 0 _ rfl;have ar:=c 1 _ rfl;have au:=c 2 _ rfl;have av:=c 3 _ rfl;have aw:=c 4 _ rfl;have ax:=c 5 _ rfl;have ay:=c 6 _ rfl;have az:=c 7 _ rfl;have a0:=c 8 _ rfl;have ap:=c 9 _ rfl;have aq:=c 10 _ rfl;have aj:=Yh (fun u=>LG n 5 u hn ⟨Yd,Yd⟩);obtain⟨L,T⟩:=Ex l.length;rw[<-T]at ah ad a3;have bk:(k:Int)<(L:Int):=Yo
 clear h P c X s N U K Z ab ac V H I J Q af Y W ae aa T O;go_enter func90,ntmps90;go_wp2_with fail;apply(j.o _ Mxt).mono;rintro e w1 ⟨rfl,z⟩;have a6:=z.size;simp at a6;have M:w1.heap[w.heap.size]?=some (.cells #[slice a7 cl a8,slice ak al am,slice a9 bb ba,slice a1 dl a2,int i64 st,int i64 bc,slice f0a f0l f0c,slice f1a f1l f1c,slice f2a f2l f2c,slice f3a f3l f3c,int i64 f4] 154 (0,0)):=(z.block _ Ys).trans (QL w _);obtain⟨bp,bq,bs,bt,bu,bv,bw,bx,bz,b0,br,b1⟩:=Dq M;have d:YH (Ao w w1):=(Mxt:Ao w (w.alloc _)).trans (z.mono Ys);have bn:w.heap.size<w1.heap.size:=Yo
 have bi:=Yh M;clear z M an ao ar au av aw ax ay az a0 ap aq ah;go_wp2_with fail;apply(aj.o _).mono;rintro e w2 ⟨r,a4,rfl,rfl⟩;have a5:r=0\/r=1\/r=2\/r=3\/r=4:=Yo
 clear a4;rcases a5 with rfl|rfl|rfl|rfl|rfl
 ·go_wp2_with fail;apply(E.o _ d.o).mono;rintro e w3 ⟨rfl,rfl⟩;go_wp2;go_ret;exact⟨rfl,d.o⟩
 ·go_wp2_with fail;apply(t.o _ d.o).mono;rintro e w3 ⟨rfl,R⟩;have ai:=Yh R;clear R;go_wp2;go_ret;exact⟨rfl,d.o.trans (ai.o.mono d.o.size)⟩
 ·go_wp2_with fail;apply(x.o _ d.o).mono;rintro e w3 ⟨rfl,rfl⟩;go_wp2;go_ret;exact⟨rfl,d.o⟩
 ·go_wp2_with fail;apply(v.o _ d.o).mono;rintro e w3 ⟨rfl,rfl⟩;go_wp2;go_ret;exact⟨rfl,d.o⟩
 ·go_wp2_with fail;apply(E.o _ d.o).mono;rintro e w3 ⟨rfl,rfl⟩;go_wp2_with fail;apply(t.o _ d.o).mono;rintro e w4 ⟨rfl,S⟩;have C:=Yh (d.o.trans (S.mono d.o.size));clear S;go_wp2_with fail;apply(x.o _ C.o).mono;rintro e w5 ⟨rfl,rfl⟩;go_wp2_with fail;apply(v.o _ C.o).mono;rintro e bo ⟨rfl,rfl⟩;go_wp2;go_ret;exact⟨rfl,C.o⟩
def VA(cs:Lc)(a:Ll×At)(m:SN)(n:Int)(made err:Nat)(m':SN):Prop:=DD cs a m'/\
 (∀(u:World)(b:Nat)(x:CX),Dj u b x cs a m->Calls prog 54 #[.pointer (some ⟨b,0,none⟩),.int .i64 n] u fun e u'=>e= .returned (.tuple #[.int .i64 made,.int .i64 err])/\∃x',Ad (CF b x) u u'/\Dj u' b x' cs a m'/\OG u x x' m m')/\
 (∀(Z:Np)(u:World)(s:SC)(D:Ln),BH Z u s cs a D m->Calls prog 89 #[s.val cs.length a.1.length a.2.length D.length m.status m.tries,.int .i64 n] u fun e u'=>∃(s':SC)(D':Ln),e= .returned (.tuple #[s'.val cs.length a.1.length a.2.length D'.length m'.status m'.tries,.int .i64 made,.int .i64 err])/\Ao u u'/\BH Z u' s' cs a D' m')
theorem T6{p:ByteArray}(d:DD cs a m)(q:Bz p=some cs)(n:Int)(hn: -9223372036854775808<=n/\n<9223372036854775808):∃y err w,VA cs a m n y err w:=by
 obtain⟨_,_,_,o,i⟩:=Cv q;have t:=K9 q
 by_cases hb:n<0\/3000<n
 ·refine⟨0,8,m,d,fun u b x h=> ?_,fun l u s D h=> ?_⟩
  ·apply(U2 u b n hb hn).mono;rintro e j ⟨rfl,rfl⟩;exact⟨rfl,x,Ad.refl _ _,h,OG.refl _ _ _⟩
  ·apply(Rk u s _ _ _ _ _ _ n hb hn).mono;rintro e j ⟨rfl,c⟩;exact⟨s,D,rfl,c,h.ext c⟩
 ·obtain⟨k,v⟩:∃k:Nat,n=(k:Int):=⟨n.toNat,Yo⟩;subst v;have f:k<=3000:=Yo
  by_cases g:m.status=2\/m.status=3
  ·refine⟨0,0,m,d,fun u b x h=> ?_,fun l u s D h=> ?_⟩
   ·apply(R6 u b x cs a m k h f g).mono;rintro e j ⟨rfl,rfl⟩;exact⟨rfl,x,Ad.refl _ _,h,OG.refl _ _ _⟩
   ·apply(Oe u s _ _ _ _ _ _ k f g).mono;rintro e j ⟨rfl,c⟩;exact⟨s,D,rfl,c,h.ext c⟩
  ·have r:m.status≠2/\m.status≠3:=⟨fun h=>g (QG h),fun h=>g (QO h)⟩;exact⟨(Ff cs k m).2,0,(Ff cs k m).1,d.step i,fun u b x h=>Wh u b x cs a m k h d o t i f r,fun l u s D h=>SZ u s cs a D m k h d o i f r⟩
theorem BH.on_heap{p:Np}{s:SC}{D:Ln}(h:BH p w s cs a D m)(o:∀k,k<w.heap.size->¬p k->w'.heap[k]?=w.heap[k]?)(F:∀k,k<w.heap.size->Y k->p k)(K:Mr Y w'):BH Y w' s cs a D m:=by
 obtain⟨xs,j⟩:=h.ref.cls;obtain⟨C,l⟩:=h.ref.dues;obtain⟨zs,J⟩:=h.ref.ask.atoms;have E:=h.ref.xok;have r:∀k,k<w.heap.size->¬(fun _:Nat=>False) k->Cz w k->w'.heap[k]?=w.heap[k]?/\¬(fun _:Nat=>False) k:=fun k f j l=>⟨o k f (E.terms k f j l).2,fun h=>h⟩;have q:∀{B e size n:Nat}{v:Value}{xs:Lv},w.ownsRow B e size v n xs->e≠3->w'.ownsRow B e size v n xs:=fun t N=>Aj t (fun k f=>o k (t.lt k f).2 (E.own t N k f));refine⟨⟨⟨xs,q j.owns Yd,fun i c L=> ?_⟩,⟨⟨zs,J.on r⟩,q h.ref.ask.names Yd⟩,⟨C,q l.owns Yd,fun i d hd=> ?_⟩,fun M=>(h.ref.found M).on o F,K⟩,h.trim,h.len,h.next⟩
 ·obtain⟨a,b,d,G,C,u,x,y,z,A,H,I⟩:=j.all i c L;exact⟨a,b,d,G,C,u,x,y,z,A,H.on r,I.on r⟩
 ·obtain⟨O,P,Q,R,S,u,x,y,z,A,T,g⟩:=l.all i d hd;exact⟨O,P,Q,R,S,u,x,y,z,A,T,g.on o F⟩
theorem BH.off_heap{b:Np}{u y:World}{s:SC}{D:Ln}(h:BH b u s cs a D m)(d:Dz X u)(e:∀k,k<u.heap.size->¬X k->y.heap[k]?=u.heap[k]?)(g:u.heap.size<=y.heap.size):BH b y s cs a D m:=by
 have f:Ad X u {y with os:=u.os,tape:=u.tape,output:=u.output}:=⟨rfl,rfl,rfl,g,e⟩;have c:=h.keep f d;exact c.on_heap (fun _ _ _=>rfl) (fun _ _ h=>h) c.ref.xok
def Ni(Z:Np)(cs:Lc)(a:Ll×At)(m':SN)(made err:Nat)(X:Np)(v:Value)(u:World):Prop:=∃(s':SC)(D':Ln),v= .tuple #[s'.val cs.length a.1.length a.2.length D'.length m'.status m'.tries,.int .i64 made,.int .i64 err]/\∀y:World,(∀k,k<u.heap.size->¬X k->y.heap[k]?=u.heap[k]?)->u.heap.size<=y.heap.size->BH Z y s' cs a D' m'
theorem Ni.stable{d:Np}{f:SN}{g err:Nat}:∀X c v u b,Ni d cs a f g err X v u->(∀k,k<u.heap.size->¬X k->b.heap[k]?=u.heap[k]?)->u.heap.size<=b.heap.size->(∀k,k<u.heap.size->c k->X k)->Ni d cs a f g err c v b:=by
 rintro X c v u b ⟨p,i,rfl,h⟩ hb l n;refine⟨p,i,rfl,fun y o m=>h y (fun k e hn=> ?_) (Qq l m)⟩;exact(o k Yo (fun j=>hn (n k e j))).trans (hb k e hn)
structure Jo(w:World)(B bW:Nat)(v1 v2:Value)(es:List Ea)(la:Option Addr)(lc k:Nat)(e:Ea)(x1:CX)(m1:SN):Prop where
 box:w.heap[bW]?=some (.cells #[.slice la es.length lc,v1,v2] 76 (0,0))
 row:w.ownsRow B 156 12 (.slice la es.length lc) es.length (CR es)
 rest:∀(i:Nat)(f:Ea),i≠k->es[i]?=some f->FU (Ak v2) w B f
 apart0:∀(i j:Nat)(f g:Ea),i≠j->es[i]?=some f->es[j]?=some g->∀l,CF f.b f.x l->¬CF g.b g.x l
 code:Dj w e.b x1 e.cs e.a m1
 ref:BH (Ak v2) w e.s e.cs e.a e.D e.m
 low:∀l,CF e.b x1 l->B<=l
 apart:∀(i:Nat)(f:Ea),i≠k->es[i]?=some f->∀l,CF f.b f.x l->¬CF e.b x1 l
 fx:m1.status=1->∀k,(∃p,x1.fa=some p/\p.block=k)->¬Ak v2 k
 xok:Mr (Ak v2) w
theorem Jo.ext{d g:Value}{b:List Ea}{la:Oa}{lc:Nat}{e:Ea}{l:CX}{c:SN}(h:Jo w B bW d g b la lc k e l c)(a:Ao w w'):Jo w' B bW d g b la lc k e l c:=
 ⟨(a.block _ (Ac h.box)).trans h.box,Aj h.row (fun j n=>a.block j (h.row.lt j n).2),fun i f hi m=>(h.rest i f hi m).ext a,h.apart0,h.code.ext a,h.ref.ext a,h.low,h.apart,h.fx,h.xok.ext a⟩
theorem CP.mid{F G:Value}{u:List Ea}{la:Oa}{lc:Nat}{e:Ea}{C:CX}{A:SN}(h:CP w B bW F G u la lc)(n:u[k]?=some e)(I:B<=w.heap.size)(o:Ad (CF e.b e.x) w w')(J:Dj w' e.b C e.cs e.a A)(y:OG w e.x C e.m A):BF B w w'/\Jo w' B bW F G u la lc k e C A:=by
 have d:=h.all k e n;have z:Dz (CF e.b e.x) w:=fun l hl=>by
  obtain⟨cl,t,fr,c,r⟩:=d.code.own_ty hl;exact⟨cl,t,fr,c,by rcases r with rfl|rfl<;>simp[HR]⟩
 have K:=d.code.offS;have D:∀{l:Nat}{cl:Av}{t:TypeId}{fr:Nat×Nat},w.heap[l]?=some (.cells cl t fr)->HL t->¬CF e.b e.x l:=fun{l cl t fr} c r M=>by
  obtain⟨P,T,R,v,H⟩:=d.code.own_ty M;rw[c]at v;simp at v;obtain⟨_,rfl,_⟩:=v;rcases r with rfl|rfl<;>simp at H
 refine⟨KT o I (fun l hl=>d.low l hl) (fun l hl=>by
  obtain⟨cl,t,fr,c,r⟩:=d.code.own_ty hl;exact⟨cl,t,fr,c,by rcases r with rfl|rfl<;>decide⟩),(o.block _ (Ac h.box) (D h.box (QG rfl))).trans h.box,Aj h.row (fun j q=>o.block j (h.row.lt j q).2 ?_),fun i f hi p=> ?_,h.apart,J,d.ref.keep o z,fun l hl=> ?_,fun i f hi p l hl s=> ?_,fun N k n E=>y.2.elim (fun c=>d.fx (c.2▸N) k (c.1▸n) E) (fun c=>by have:=c k n;have:=h.xok.lt E;omega),(d.ref.keep o z).ref.xok⟩
 ·rcases h.row.2 with⟨e,_⟩|⟨g,O,Q,e,_,L,_⟩
  ·rw[e]at q;simp[Value.ownBlock]at q
  ·rw[e]at q;simp[Value.ownBlock]at q;subst q;exact D L (QO rfl)
 ·exact(h.all i f p).keep o z K (fun l hl s=>h.apart i k f e hi p n l hl s)
 ·rcases hl with rfl|hl
  ·exact d.low _ (QG rfl)
  ·rcases y.1.1 l hl with c|c
   ·exact d.low l (QO c)
   ·omega
 ·have S:=(h.all i f p).code.own_lt hl;rcases s with rfl|s
  ·exact h.apart i k f e hi p n _ hl (QG rfl)
  ·rcases y.1.1 l s with c|c
   ·exact h.apart i k f e hi p n l hl (QO c)
   ·omega
theorem SS{lb n:Nat}(h:w.ownsRow B e size (slice (some ⟨lb,0,none⟩) n cap) n xs)(a b d f g i j l m o c:Value):(((((((((((w.setCell ⟨lb,k*12+1,none⟩ (a)).setCell ⟨lb,k*12+2,none⟩ (b)).setCell ⟨lb,k*12+3,none⟩ (d)).setCell ⟨lb,k*12+4,none⟩ (f)).setCell ⟨lb,k*12+5,none⟩ (g)).setCell ⟨lb,k*12+6,none⟩ (i)).setCell ⟨lb,k*12+7,none⟩ (j)).setCell ⟨lb,k*12+8,none⟩ (l)).setCell ⟨lb,k*12+9,none⟩ (m)).setCell ⟨lb,k*12+10,none⟩ (o)).setCell ⟨lb,k*12+11,none⟩ (c)).ownsRow B e size (slice (some ⟨lb,0,none⟩) n cap) n (J3 xs (k*12+1) [a,b,d,f,g,i,j,l,m,o,c])/\Ad (Ak (slice (some ⟨lb,0,none⟩) n cap)) w (((((((((((w.setCell ⟨lb,k*12+1,none⟩ (a)).setCell ⟨lb,k*12+2,none⟩ (b)).setCell ⟨lb,k*12+3,none⟩ (d)).setCell ⟨lb,k*12+4,none⟩ (f)).setCell ⟨lb,k*12+5,none⟩ (g)).setCell ⟨lb,k*12+6,none⟩ (i)).setCell ⟨lb,k*12+7,none⟩ (j)).setCell ⟨lb,k*12+8,none⟩ (l)).setCell ⟨lb,k*12+9,none⟩ (m)).setCell ⟨lb,k*12+10,none⟩ (o)).setCell ⟨lb,k*12+11,none⟩ (c)):=by
 have h0:=BY h (k*12+1) a;have q:=BY h0 (k*12+2) b;have s:=BY q (k*12+3) d;have t:=BY s (k*12+4) f;have u:=BY t (k*12+5) g;have v:=BY u (k*12+6) i;have x:=BY v (k*12+7) j;have y:=BY x (k*12+8) l;have z:=BY y (k*12+9) m;have A:=BY z (k*12+10) o;have r:=BY A (k*12+11) c;refine⟨r,?_⟩;exact((((((((((((Ad.refl _ w).setCell (p:=⟨lb,k*12+1,none⟩) (fun _=>(rfl:some lb=some lb)) a).setCell (p:=⟨lb,k*12+2,none⟩) (fun _=>(rfl:some lb=some lb)) b).setCell (p:=⟨lb,k*12+3,none⟩) (fun _=>(rfl:some lb=some lb)) d).setCell (p:=⟨lb,k*12+4,none⟩) (fun _=>(rfl:some lb=some lb)) f).setCell (p:=⟨lb,k*12+5,none⟩) (fun _=>(rfl:some lb=some lb)) g).setCell (p:=⟨lb,k*12+6,none⟩) (fun _=>(rfl:some lb=some lb)) i).setCell (p:=⟨lb,k*12+7,none⟩) (fun _=>(rfl:some lb=some lb)) j).setCell (p:=⟨lb,k*12+8,none⟩) (fun _=>(rfl:some lb=some lb)) l).setCell (p:=⟨lb,k*12+9,none⟩) (fun _=>(rfl:some lb=some lb)) m).setCell (p:=⟨lb,k*12+10,none⟩) (fun _=>(rfl:some lb=some lb)) o).setCell (p:=⟨lb,k*12+11,none⟩) (fun _=>(rfl:some lb=some lb)) c)
theorem Jo.fin{U M:Value}{lb:Nat}{o:List Ea}{lc:Nat}{e:Ea}{r:CX}{n:SN}{s2:SC}{D2:Ln}(h:Jo w B bW U M o (some ⟨lb,0,none⟩) lc k e r n)(Q:o[k]?=some e)(X:B<=w.heap.size)(ad:Bz e.p=some e.cs)(ae:Cn e.q=some e.a)(Y:DD e.cs e.a n)(O:BH (Ak M) w s2 e.cs e.a D2 n){v y A C E F G H I J z:Value}(ag:(s2.cells e.cs.length e.a.1.length e.a.2.length D2.length n.status n.tries).toList=[v,y,A,C,E,F,G,H,I,J,z]):
  BF B w (((((((((((w.setCell ⟨lb,k*12+1,none⟩ (v)).setCell ⟨lb,k*12+2,none⟩ (y)).setCell ⟨lb,k*12+3,none⟩ (A)).setCell ⟨lb,k*12+4,none⟩ (C)).setCell ⟨lb,k*12+5,none⟩ (E)).setCell ⟨lb,k*12+6,none⟩ (F)).setCell ⟨lb,k*12+7,none⟩ (G)).setCell ⟨lb,k*12+8,none⟩ (H)).setCell ⟨lb,k*12+9,none⟩ (I)).setCell ⟨lb,k*12+10,none⟩ (J)).setCell ⟨lb,k*12+11,none⟩ (z))/\CP (((((((((((w.setCell ⟨lb,k*12+1,none⟩ (v)).setCell ⟨lb,k*12+2,none⟩ (y)).setCell ⟨lb,k*12+3,none⟩ (A)).setCell ⟨lb,k*12+4,none⟩ (C)).setCell ⟨lb,k*12+5,none⟩ (E)).setCell ⟨lb,k*12+6,none⟩ (F)).setCell ⟨lb,k*12+7,none⟩ (G)).setCell ⟨lb,k*12+8,none⟩ (H)).setCell ⟨lb,k*12+9,none⟩ (I)).setCell ⟨lb,k*12+10,none⟩ (J)).setCell ⟨lb,k*12+11,none⟩ (z)) B bW U M (o.set k {e with x:=r,s:=s2,D:=D2,m:=n}) (some ⟨lb,0,none⟩) lc:=by
 obtain⟨af,u⟩:=SS (k:=k) h.row v y A C E F G H I J z;have P:∀l,Ak (slice (some ⟨lb,0,none⟩) o.length lc) l->∃cl t fr,w.heap[l]?=some (.cells cl t fr)/\HL t:=fun l c=>by
  rcases h.row.2 with⟨e,_⟩|⟨g,V,W,e,_,d,_⟩
  ·simp at e
  ·rw[Ak,e]at c;simp[Value.ownBlock]at c;subst c;exact⟨_,_,_,d,QO rfl⟩
 obtain⟨L,S,T⟩:=NK P;have Z:¬Ak (slice (some ⟨lb,0,none⟩) o.length lc) bW:=fun c=>by
  rcases h.row.2 with⟨e,_⟩|⟨g,V,W,e,_,d,_⟩
  ·simp at e
  ·rw[Ak,e]at c;simp[Value.ownBlock]at c;subst c;rw[h.box]at d;simp at d
 have R:(o.set k {e with x:=r,s:=s2,D:=D2,m:=n}).length=o.length:=Ys
 have ab:=(Qa.1 Q).1;have K:∀(i:Nat)(f:Ea),(o.set k {e with x:=r,s:=s2,D:=D2,m:=n})[i]?=some f->(i=k/\f={e with x:=r,s:=s2,D:=D2,m:=n})\/(i≠k/\o[i]?=some f):=fun i f b=>by
  by_cases hi:i=k
  ·subst hi;rw[List.getElem?_set_self ab]at b;simp at b;exact QG ⟨rfl,b.symm⟩
  ·rw[QF (fun h=>hi h.symm)]at b;exact QO ⟨hi,b⟩
 refine⟨KT u X (fun l hl=>(h.row.lt l hl).1) (HL.ne P),?_,?_,?_,?_,(O.keep u L).ref.xok⟩
 ·rw[R];exact(u.block bW (Ac h.box) Z).trans h.box
 ·rw[R,S1 (e':={e with x:=r,s:=s2,D:=D2,m:=n}) Q rfl];have:(({e with x:=r,s:=s2,D:=D2,m:=n}:Ea).row.drop 1)=[v,y,A,C,E,F,G,H,I,J,z]:=by rw[<-ag];rfl
  rw[this];exact af
 ·intro i f b;rcases K i f b with⟨_,rfl⟩|⟨hi,b⟩
  ·exact⟨h.code.keep u S (T h.code),O.keep u L,Y,ad,ae,h.low,h.fx⟩
  ·have N:=h.rest i f hi b;exact N.keep u L S (T N.code)
 ·intro i j f g aa b d l hl;rcases K i f b with⟨hi,rfl⟩|⟨hi,b⟩
  ·rcases K j g d with⟨c,rfl⟩|⟨c,d⟩
   ·omega
   ·exact fun ac=>h.apart j g c d l ac hl
  ·rcases K j g d with⟨c,rfl⟩|⟨c,d⟩
   ·exact h.apart i f hi b l hl
   ·exact h.apart0 i j f g aa b d l hl
theorem Ef.up{b c:Value}{N a:Nat}{e:Ending}(h:Ef w0 B bW b c N e w')(j:BF B w w0)(l:N<=a):Ef w B bW b c a e w':=by
 obtain⟨f,g,d,la,lc,k,i⟩:=h;exact⟨f,j.trans g,d,la,lc,Yo,i⟩
theorem TT{a:World}{V:Value->Prop}{y:World}(h:Jr a V (fun _ y=>y=a) vs y):y=a:=by
 match vs,h with
 |[],h=>exact h
 |[v],h=>exact h.2
theorem OU{g i:Value}(w:World)(B a:Nat)(b:List Ea)(la:Oa)(lc:Nat)(h:CP w B a g i b la lc)(r:B<=a)(s:b.length<=2000000)(n m:Int)(p q x:ByteArray)(d:p.size<=maxLen)(f:q.size<=maxLen):
  Calls prog 62 #[Pt a,agg #[int i64 3,int i64 n,int i64 m,string p,string q,string x]] w (Ef w B a g i (b.length+1)):=by
 have t:=Ac h.box;have k:=Yh (Sc (w.alloc (.cells #[int i64 3,int i64 n,int i64 m,string p,string q,string x] 78)) B a b la lc (h.ext Mxt) r s 3 n m p q x d f);have l:YH (BF B w (w.alloc (.cells #[int i64 3,int i64 n,int i64 m,string p,string q,string x] 78))):=Fx Mxt Yo;clear h d f;go_enter func62,ntmps62;go_wp2_with fail;apply k.o.mono;rintro e w1 c;have j:=Yh c;obtain⟨rfl,_⟩:=c;go_wp2;go_ret;exact j.o.up l.o (Qe _)
theorem OQ{b c:Value}(w:World)(B a:Nat)(la:Oa)(lc:Nat)(h:CP w B a b c [] la lc)(g:B<=a)(kd n m:Int)(p q x:ByteArray)(d:kd≠3):
  Calls prog 62 #[Pt a,agg #[int i64 kd,int i64 n,int i64 m,string p,string q,string x]] w (Ef w B a b c 1):=by
 have i:=Ac h.box;have f:=Aa h.box 0 _ rfl;have j:(kd==3)=false:=by rw[Qu];exact d
 have e:YH (Ef w B a b c 1 (returned (.bool true)) (w.alloc (.cells #[int i64 kd,int i64 n,int i64 m,string p,string q,string x] 78))):=⟨rfl,Fx Mxt Yo,[],la,lc,Ys,h.ext Mxt⟩;simp only[Qt]at f;clear h d;go_enter func62,ntmps62;go_wp2;go_ret;exact e.o
theorem Mz{l s:Value}(w:World)(B d:Nat)(b:List Ea)(la:Oa)(lc:Nat)(h:CP w B d l s b la lc)(R:B<=d)(E:b.length<=2000000)(G:b≠[])(n m:Int)(p q x:ByteArray)(hn: -9223372036854775808<=n/\n<9223372036854775808)(F: -9223372036854775808<=m/\m<9223372036854775808):
  Calls prog 62 #[Pt d,agg #[int i64 5,int i64 n,int i64 m,string p,string q,string x]] w (Ef w B d l s (b.length+1)):=by
 have X:=Ac h.box;have T:0<b.length:=List.length_pos_iff.2 G;obtain⟨a,f⟩:=Ex (w.alloc (.cells #[int i64 5,int i64 n,int i64 m,string p,string q,string x] 78));have g:Ao w a:=by rw[f];exact Mxt
 have Z:a.heap.size=w.heap.size+1:=by rw[f];simp
 have z:a.heap[w.heap.size]?=some (.cells #[int i64 5,int i64 n,int i64 m,string p,string q,string x] 78 (0,0)):=by rw[f];exact QL w _
 have D:=(h.ext g).box;have t:=Aa D 0 _ rfl;have Q:=Aa h.box 0 _ rfl;obtain⟨aa,ab,V,ac,ad,ae,af⟩:=Iw z;obtain⟨L,i⟩:=Ex b.length;have M:=Yh (fun k (U:k<b.length)=>P6 a.drew B d b la lc (h.ext (g.trans ⟨rfl,rfl,rfl,Qe _,fun _ _=>rfl⟩)) R k U n hn E);have P:YH (∀w',Ao a.drew w'->Ef w B d l s (b.length+1) (returned (.bool true)) w'):=fun w' S=>by
  have A:Ao w w':=(g.trans ⟨rfl,rfl,rfl,Qe _,fun _ _=>rfl⟩:Ao w a.drew).trans (S.mono (by show w.heap.size<=a.heap.size;omega));exact⟨rfl,Fx A Yo,b,la,lc,Yo,h.ext A⟩
 have J:=Yh i;have K:=Yh (LG m L a.drew F ⟨Yo,Yo⟩);rw[<-i]at t Q T E;have W:((L:Int)==0)=false:=by rw[Qu];omega
 have O:=Yh f
 clear h g z f i D G hn F;go_enter func62,ntmps62;go_wp2_with fail;rw[<-O.o];refine BW Yk 999 [.rd 0 1 (fun _=>pointer (some ⟨w.heap.size,2,none⟩)),.rd 0 1 (fun _=>int i64 m),.rd 0 1 (fun _=>Pt d),.rd 0 1 (fun _=>Pt d),.rd 0 1 (fun _=>Pt d),.rd 0 1 (fun _=>slice la L lc),.rd 0 1 (fun _=>int i64 L),.st 0,.rd 1 1 (fun vs=>vs.getD 0 undef)] 1 7 Yk (Jr a.drew (fun v=>∃r:Nat,r<L/\v=int i64 r) (fun _ y=>y=a.drew)) rfl ?_ ?_
 ·refine⟨⟨trivial,fun vs y _ hl c=> ?_⟩,⟨trivial,fun vs y _ hl c=> ?_⟩,⟨trivial,fun vs y _ hl c=> ?_⟩,⟨trivial,fun vs y _ hl c=> ?_⟩,⟨trivial,fun vs y _ hl c=> ?_⟩,⟨trivial,fun vs y _ hl c=> ?_⟩,⟨trivial,fun vs y _ hl c=> ?_⟩,⟨trivial,fun vs y hl c=> ?_⟩,⟨trivial,fun vs y Y hl c=> ?_⟩,trivial⟩
  all_goals try(obtain rfl:y=a.drew:=TT c)
  ·simp[go_sem]
  ·simp[go_sem,V]
  ·simp[go_sem]
  ·simp[go_sem]
  ·simp[go_sem]
  ·simp[go_sem,t]
  ·simp[go_sem]
  ·obtain rfl:=Q3.1 hl;refine .call 88 #[int i64 m,int i64 L] _ (by simp[go_sem]) (K.o.mono ?_);rintro e u ⟨r,j,rfl,rfl⟩;exact⟨_,rfl,⟨r,Yo,rfl⟩,rfl⟩
  ·obtain⟨v,rfl⟩:=Q1.1 (show vs.length=1 by omega);simp[go_sem]
 rintro vs y hl c;obtain⟨v,rfl⟩:=Q1.1 hl;obtain⟨⟨r,j,rfl⟩,rfl⟩:=c;simp only[EB,IB,CD,pa,Ph.kd,Ph.val,Kd.val,Qx,QX,Ja,Act.put,JC,JD,JG,Q5,List.take_zero,List.getD_cons_zero];have H:r<b.length:=by rw[<-J.o];exact j
 have N:=Yh (M.o r H);clear H j;go_wp2_with fail;apply N.o.mono;rintro e w2 ⟨rfl,C⟩;have I:=Yh C;clear C;go_wp2;go_ret;exact P.o _ I.o
theorem Rc{lb:Nat}{c:List Ea}{lc:Nat}(h:w.ownsRow B 156 12 (slice (some ⟨lb,0,none⟩) c.length lc) c.length (CR c)){k:Nat}{e:Ea}(d:c[k]?=some e):lb<w.heap.size/\(∀i,w.frozen? ⟨lb,i,none⟩=false)/\w.cell? ⟨lb,k*12,none⟩=some (Pt e.b)/\
  ∀j v,(e.s.cells e.cs.length e.a.1.length e.a.2.length e.D.length e.m.status e.m.tries).toList[j]?=some v->w.cell? ⟨lb,k*12+(j+1),none⟩=some v:=by
 have o:=(Qa.1 d).1;obtain⟨p,q,r,g,_,f,_⟩:=An h Yo;simp only[QH,Qo,Addr.mk.injEq,and_true]at g;obtain⟨rfl,_,rfl⟩:=g;refine⟨Ac f,fun i=>Ag f i,?_,fun j v l=> ?_⟩
 ·have:=Af h (k*12+0) _ ((H0 d 0 Yo).trans rfl);simpa using this
 ·have n:j<11:=by
   have:=(Qa.1 l).1;simpa[SC.cells]using this
  exact Af h _ _ ((H0 d (j+1) Yo).trans (by simpa[Ea.row]using l))
set_option maxHeartbeats 8000000 in
theorem MG{O F:Value}(w:World)(B g:Nat)(C:List Ea)(la:Oa)(lc:Nat)(h:CP w B g O F C la lc)(et:B<=g)(d8:C.length<=2000000)(co:C≠[])(n m:Int)(p q x:ByteArray)(hn: -9223372036854775808<=n/\n<9223372036854775808)(cn: -9223372036854775808<=m/\m<9223372036854775808):
  Calls prog 62 #[Pt g,agg #[int i64 4,int i64 n,int i64 m,string p,string q,string x]] w (Ef w B g O F (C.length+1)):=by
 have ev:=Ac h.box;have d5:0<C.length:=List.length_pos_iff.2 co;obtain⟨d,K⟩:=Ex (w.alloc (.cells #[int i64 4,int i64 n,int i64 m,string p,string q,string x] 78));have V:Ao w d:=by rw[K];exact Mxt
 have e0:d.heap.size=w.heap.size+1:=by rw[K];simp
 have bk:d.heap[w.heap.size]?=some (.cells #[int i64 4,int i64 n,int i64 m,string p,string q,string x] 78 (0,0)):=by rw[K];exact QL w _
 have cj:=(h.ext V).box;have S:=Aa cj 0 _ rfl;have dt:=Aa h.box 0 _ rfl;obtain⟨ei,cw,cx,ej,ek,el,em⟩:=Iw bk;obtain⟨L,bm⟩:=Ex C.length;have bn:YH (CP d.drew B g O F C la lc):=h.ext (V.trans ⟨rfl,rfl,rfl,Qe _,fun _ _=>rfl⟩);have dy:YH (Ao w d.drew):=V.trans ⟨rfl,rfl,rfl,Qe _,fun _ _=>rfl⟩;have dq:=Yh hn;have bz:=Yh bk;have az:=Yh bm;have dn:=Yh (LG m L d.drew cn ⟨Yo,Yo⟩);rw[<-bm]at S dt d5 d8;have eu:((L:Int)==0)=false:=by rw[Qu];omega
 have dp:=Yh K
 clear h V bk K bm cj co hn cn;go_enter func62,ntmps62;go_wp2_with fail;rw[<-dp.o];refine BW Yk 999 [.rd 0 1 (fun _=>pointer (some ⟨w.heap.size,2,none⟩)),.rd 0 1 (fun _=>int i64 m),.rd 0 1 (fun _=>Pt g),.rd 0 1 (fun _=>Pt g),.rd 0 1 (fun _=>Pt g),.rd 0 1 (fun _=>slice la L lc),.rd 0 1 (fun _=>int i64 L),.st 0,.rd 1 1 (fun vs=>vs.getD 0 undef)] 1 7 Yk (Jr d.drew (fun v=>∃r:Nat,r<L/\v=int i64 r) (fun _ y=>y=d.drew)) rfl ?_ ?_
 ·refine⟨⟨trivial,fun vs y _ hl c=> ?_⟩,⟨trivial,fun vs y _ hl c=> ?_⟩,⟨trivial,fun vs y _ hl c=> ?_⟩,⟨trivial,fun vs y _ hl c=> ?_⟩,⟨trivial,fun vs y _ hl c=> ?_⟩,⟨trivial,fun vs y _ hl c=> ?_⟩,⟨trivial,fun vs y _ hl c=> ?_⟩,⟨trivial,fun vs y hl c=> ?_⟩,⟨trivial,fun vs y M hl c=> ?_⟩,trivial⟩
  all_goals try(obtain rfl:y=d.drew:=TT c)
  ·simp[go_sem]
  ·simp[go_sem,cx]
  ·simp[go_sem]
  ·simp[go_sem]
  ·simp[go_sem]
  ·simp[go_sem,S]
  ·simp[go_sem]
  ·obtain rfl:=Q3.1 hl;refine .call 88 #[int i64 m,int i64 L] _ (by simp[go_sem]) (dn.o.mono ?_);rintro e u ⟨r,N,rfl,rfl⟩;exact⟨_,rfl,⟨r,Yo,rfl⟩,rfl⟩
  ·obtain⟨v,rfl⟩:=Q1.1 (show vs.length=1 by omega);simp[go_sem]
 rintro vs y hl c;obtain⟨v,rfl⟩:=Q1.1 hl;obtain⟨⟨r,N,rfl⟩,rfl⟩:=c;simp only[EB,IB,CD,pa,Ph.kd,Ph.val,Kd.val,Qx,QX,Ja,Act.put,JC,JD,JG,Q5,List.take_zero,List.getD_cons_zero];obtain⟨j,ab⟩:∃j,C[r]?=some j:=⟨_,Qb (by rw[<-az.o];exact N)⟩;obtain⟨lb,rfl,ex,d9,cy,d4⟩:=bn.o.cell ab;have J:=bn.o.all r j ab;obtain⟨H,err,E,bl⟩:=T6 J.inv J.prog n dq.o;have b0:=Yh bl;have P:=Yh ab;have ax:=Yh J;have bp:Ao d.drew d.drew.drew:=⟨rfl,rfl,rfl,Qe _,fun _ _=>rfl⟩;have b1:=Yh (bn.o.ext bp);have b3:=Yh (bl.2.1 d.drew.drew j.b j.x (J.code.ext bp))
 clear bl ab J d4 bp;go_wp2_with fail;refine BW Yk 999 [.rd 0 1 (fun _=>Pt g),.rd 0 1 (fun _=>Pt g),.rd 0 1 (fun _=>Pt g),.rd 0 0 (fun _=>slice (some ⟨lb,0,none⟩) L lc),.rd 0 1 (fun _=>int i64 r),.rd 0 1 (fun _=>pointer (some ⟨lb,r*12,none⟩)),.rd 0 1 (fun _=>pointer (some ⟨lb,r*12,none⟩)),.rd 0 0 (fun _=>Pt j.b),.rd 0 1 (fun _=>pointer (some ⟨w.heap.size,1,none⟩)),.rd 0 0 (fun _=>int i64 n),.st 0,.rd 1 1 (fun _=>tuple #[int i64 H,int i64 err]),.rd 1 1 (fun _=>int i64 H),.rd 1 1 (fun _=>int i64 err),.rd 1 1 (fun _=>int i64 H),.rd 1 1 (fun _=>int i64 err)] 1 7 Yk (Jr d.drew.drew (fun v=>v=tuple #[int i64 H,int i64 err]) (fun _ y=>∃bw,Ad (CF j.b j.x) d.drew.drew y/\Dj y j.b bw j.cs j.a E/\OG d.drew.drew j.x bw j.m E)) rfl ?_ ?_
 ·refine⟨⟨trivial,fun vs y _ hl c=> ?_⟩,⟨trivial,fun vs y _ hl c=> ?_⟩,⟨trivial,fun vs y _ hl c=> ?_⟩,⟨trivial,fun vs y _ hl c=> ?_⟩,⟨trivial,fun vs y _ hl c=> ?_⟩,⟨trivial,fun vs y _ hl c=> ?_⟩,⟨trivial,fun vs y _ hl c=> ?_⟩,⟨trivial,fun vs y _ hl c=> ?_⟩,⟨trivial,fun vs y _ hl c=> ?_⟩,⟨trivial,fun vs y _ hl c=> ?_⟩,⟨trivial,fun vs y hl c=> ?_⟩,⟨trivial,fun vs y M hl c=> ?_⟩,⟨trivial,fun vs y M hl c=> ?_⟩,⟨trivial,fun vs y M hl c=> ?_⟩,⟨trivial,fun vs y M hl c=> ?_⟩,⟨trivial,fun vs y M hl c=> ?_⟩,trivial⟩
  ·simp[go_sem]
  ·simp[go_sem]
  ·simp[go_sem]
  ·obtain rfl:=c.at hl;simp[go_sem,S]
  ·simp[go_sem]
  ·simp[go_sem,N]
  ·simp[go_sem]
  ·obtain rfl:=c.at hl;have eo:d.cell? ⟨lb,r*12,none⟩=some (Pt j.b):=cy;simp[go_sem,eo]
  ·simp[go_sem]
  ·obtain rfl:=c.at hl;simp[go_sem,cw]
  ·obtain rfl:=Q3.1 hl;obtain rfl:y=d.drew.drew:=c;refine .call 54 #[Pt j.b,int i64 n] _ (by simp[go_sem]) (b3.o.mono ?_);rintro e u ⟨rfl,eh⟩;exact⟨_,rfl,rfl,eh⟩
  ·obtain⟨v,rfl⟩:=Q1.1 (show vs.length=1 by omega);obtain⟨rfl,_⟩:=c;simp[go_sem]
  ·simp[go_sem]
  ·simp[go_sem]
  ·simp[go_sem]
  ·simp[go_sem]
 rintro vs w2 hl c;obtain⟨v,rfl⟩:=Q1.1 hl;obtain⟨_,bw,Y,b9,cc⟩:=c;have ct:B<=d.drew.drew.heap.size:=by show B<=d.heap.size;omega
 have cr:¬CF j.b j.x w.heap.size:=fun ed=>by
  obtain⟨cl,t,fr,dv,dx⟩:=ax.o.code.own_ty ed;have bj:d.heap[w.heap.size]?=some (.cells cl t fr):=dv;rw[bz.o]at bj;simp at bj;obtain⟨_,rfl,_⟩:=bj;simp at dx
 have b6:w2.heap[w.heap.size]?=some (.cells #[int i64 4,int i64 n,int i64 m,string p,string q,string x] 78 (0,0)):=(Y.block _ (by show w.heap.size<d.heap.size;omega) cr).trans bz.o;obtain⟨b7,Z⟩:=b1.o.mid P.o ct Y b9 cc;have cv:=Y.size;have e2:d.heap.size<=w2.heap.size:=cv;have a2:=Aa Z.box 0 _ rfl;rw[<-az.o]at a2;obtain⟨ey,ea,q0,z⟩:=Rc Z.row P.o;have b5:=Aa b6 1 _ rfl;have b2:=Yh Z;have dm:=Yh ((Fx dy.o Yo).trans ((Fx (⟨rfl,rfl,rfl,Qe _,fun _ _=>rfl⟩:Ao d.drew d.drew.drew) ct).trans b7));obtain⟨b,e5,ep,D,e3,e4,cs,a,I⟩:=j;simp only at*;obtain⟨ad,ae,Q,R,af,ag,T,U,f0a,f0l,f0c,f1a,f1l,f1c,f2a,f2l,f2c,f3a,f3l,f3c,f4⟩:=ep;simp only[SC.cells]at z;have ay:YH (∀X u,Ao w2.drew u->(∀k,X k->w2.heap.size<=k/\k<u.heap.size/\∃(i:Nat)(t:TypeId)(l:Av)(s:Nat)(du:Value->Av)(cl:Av),([.pur (Pt g),.pur (Pt g),.pur (Pt g),.pur (slice (some ⟨lb,0,none⟩) L lc),.pur (int i64 r),.pur (pointer (some ⟨lb,r*12,none⟩)),.pur (pointer (some ⟨lb,r*12+1,none⟩)),.pur (agg #[slice ad cs.length ae,slice Q a.1.length R,slice af a.2.length ag,slice T D.length U,int i64 I.status,int i64 I.tries,slice f0a f0l f0c,slice f1a f1l f1c,slice f2a f2l f2c,slice f3a f3l f3c,int i64 f4]),.pur (pointer (some ⟨w.heap.size,1,none⟩)),.pur (int i64 n),.cal,.post (fun v=>v),.post (A9 0),.post (A9 1),.post (A9 2),.alo 154 #[Nl,Nl,Nl,Nl,int i64 0,int i64 0,Nl,Nl,Nl,Nl,int i64 0] 16 (fun v=>cellsOf (A9 0 v)),.sto 15,.post (A9 1),.post (A9 2)]:List Kd)[i]?=some (.alo t l s du)/\u.heap[k]?=some (.cells cl t (0,0)))->Calls prog 89 #[agg #[slice ad cs.length ae,slice Q a.1.length R,slice af a.2.length ag,slice T D.length U,int i64 I.status,int i64 I.tries,slice f0a f0l f0c,slice f1a f1l f1c,slice f2a f2l f2c,slice f3a f3l f3c,int i64 f4],int i64 n] u fun e bv=>∃r,e=returned r/\Ao u bv/\Ni (Ak F) cs a E H err X r bv):=fun X u f d0=>by
  have eg:Ao w2 u:=f.undrew;apply(b0.o.2.2 _ u ⟨ad,ae,Q,R,af,ag,T,U,f0a,f0l,f0c,f1a,f1l,f1c,f2a,f2l,f2c,f3a,f3l,f3c,f4⟩ D (b2.o.ref.ext eg)).mono;rintro e bv ⟨ah,aw,rfl,ca,dz⟩;refine⟨_,rfl,ca,ah,aw,rfl,fun y ac ee=>dz.off_heap (X:=X) (fun k d7=> ?_) ac ee⟩;obtain⟨_,ec,i,t,l,eq,es,cl,hi,hb⟩:=d0 k d7;have ef:t=154:=by
   have d6:i=15:=by
    by_cases dw:i=15
    ·exact dw
    ·exfalso;have:i<19:=(Qa.1 hi).1;have d3:i=0\/i=1\/i=2\/i=3\/i=4\/i=5\/i=6\/i=7\/i=8\/i=9\/i=10\/i=11\/i=12\/i=13\/i=14\/i=16\/i=17\/i=18:=Yo
     rcases d3 with rfl|rfl|rfl|rfl|rfl|rfl|rfl|rfl|rfl|rfl|rfl|rfl|rfl|rfl|rfl|rfl|rfl|rfl<;>simp at hi
   subst d6;simp at hi;exact hi.1.symm
  subst ef;exact⟨_,_,_,(ca.block k ec).trans hb,by simp[HR]⟩
 obtain⟨st,cq⟩:∃l,l=I.status:=⟨_,rfl⟩;obtain⟨er,cu⟩:∃l,l=I.tries:=⟨_,rfl⟩;obtain⟨cl,ck⟩:∃l,l=cs.length:=⟨_,rfl⟩;obtain⟨al,cf⟩:∃l,l=a.1.length:=⟨_,rfl⟩;obtain⟨en,cp⟩:∃l,l=a.2.length:=⟨_,rfl⟩;obtain⟨dl,cm⟩:∃l,l=D.length:=⟨_,rfl⟩;rw[<-cq,<-cu,<-ck,<-cf,<-cp,<-cm]at ay z;have cz:=z 0 _ rfl;have c2:=z 1 _ rfl;have c3:=z 2 _ rfl;have c4:=z 3 _ rfl;have c5:=z 4 _ rfl;have c6:=z 5 _ rfl;have c7:=z 6 _ rfl;have c8:=z 7 _ rfl;have c9:=z 8 _ rfl;have c0:=z 9 _ rfl;have c1:=z 10 _ rfl;have ew:g<w2.heap.size:=Yo
 simp only[EB,IB,CD,pa,Ph.kd,Ph.val,Kd.val,Qx,QX,Ja,Act.put,JC,JD,JG];clear cq cu ck cf cp cm Y b9 cc cr b6 b7 Z z S cy ei cw cx ej ek el em d9 b3 b1 cv;go_wp2_with fail;refine IU Yk [.pur (Pt g),.pur (Pt g),.pur (Pt g),.pur (slice (some ⟨lb,0,none⟩) L lc),.pur (int i64 r),.pur (pointer (some ⟨lb,r*12,none⟩)),.pur (pointer (some ⟨lb,r*12+1,none⟩)),.pur (agg #[slice ad cl ae,slice Q al R,slice af en ag,slice T dl U,int i64 st,int i64 er,slice f0a f0l f0c,slice f1a f1l f1c,slice f2a f2l f2c,slice f3a f3l f3c,int i64 f4]),.pur (pointer (some ⟨w.heap.size,1,none⟩)),.pur (int i64 n),.cal,.post (fun v=>v),.post (A9 0),.post (A9 1),.post (A9 2),.alo 154 #[Nl,Nl,Nl,Nl,int i64 0,int i64 0,Nl,Nl,Nl,Nl,int i64 0] 16 (fun v=>cellsOf (A9 0 v)),.sto 15,.post (A9 1),.post (A9 2)] 10 Yk (Ni (Ak F) cs a E H err) 89 _ Ni.stable ay.o ?_ rfl Yd ?_
 ·refine⟨fun vc β u f=> ?_,fun vc β u f=> ?_,fun vc β u f=> ?_,fun vc β u f=> ?_,fun vc β u f=> ?_,fun vc β u f=> ?_,fun vc β u f=> ?_,fun vc β u f=> ?_,fun vc β u f=> ?_,fun vc β u f=> ?_,fun vc β u=> ?_,?_,?_,?_,?_,fun vc β u=> ?_,?_,?_,?_,trivial⟩
  all_goals try(simp[pa,Kd.val,go_sem,f.up a2,f.up b5,f.up cz,f.up c2,f.up c3,f.up c4,f.up c5,f.up c6,f.up c7,f.up c8,f.up c9,f.up c0,f.up c1,N];done)
  all_goals try(simp[pa,Kd.val,go_sem];done)
  all_goals try(rintro vc β ds u ⟨ah,aw,rfl,_⟩;simp[pa,Kd.val,go_sem,A9,SC.val];done)
  rintro vc β ds u t l eq cl bo ⟨ah,aw,rfl,_⟩ hb;obtain⟨bq,br,a0,a1,bs,bu,a3,a4,a6,a8,a7,a9,bb,ba,bc,be,bd,bf,bh,bg,bi⟩:=ah;simp only[SC.val]at bo⊢;simp at bo;obtain⟨rfl,rfl,rfl,rfl⟩:=bo;obtain⟨ai,aj,am,an,ao,ap,aq,ar,au,av,ak,bx⟩:=Dq hb;refine⟨_,?_,Kk hb _ _ _ _ _ _ _ _ _ _ _,((((((((((((Ad.refl (only (β 15)) u).put 0 _).put 1 _).put 2 _).put 3 _).put 4 _).put 5 _).put 6 _).put 7 _).put 8 _).put 9 _).put 10 _)⟩;simp[pa,Kd.val,go_sem,ai,aj,am,an,ao,ap,aq,ar,au,av,ak,bx,A9]
 rintro vc β w3 G ⟨s2,D2,rfl,ce⟩ cg _;have G:=G.undrew;have e1:=G.size;have cd:BH (Ak F) w3 s2 cs a D2 E:=ce w3 (fun _ _ _=>rfl) (Qe _);obtain⟨d1,ch⟩:=cg 15 _ _ _ _ rfl;have aa:=b2.o.ext G;have W:Ao w3 w3.drew:=⟨rfl,rfl,rfl,Qe _,fun _ _=>rfl⟩;obtain⟨b8,cb⟩:=(aa.ext W).fin (s2:=s2) (D2:=D2) P.o (by show B<=w3.heap.size;omega) ax.o.prog ax.o.ask b0.o.1 (cd.ext W) rfl;have b4:YH (Ef w B g O F (C.length+1) (returned (.bool true)) _):=⟨rfl,(dm.o.trans (Fx G Yo)).trans ((Fx W Yo).trans b8),_,_,_,Ys,cb⟩;have a5:=Aa aa.box 0 _ rfl;rw[<-az.o]at a5;obtain⟨ez,eb,_,A⟩:=Rc aa.row P.o;simp only[SC.cells]at A;have da:=A 0 _ rfl;have dd:=A 1 _ rfl;have de:=A 2 _ rfl;have df:=A 3 _ rfl;have dg:=A 4 _ rfl;have dh:=A 5 _ rfl;have di:=A 6 _ rfl;have dj:=A 7 _ rfl;have dk:=A 8 _ rfl;have db:=A 9 _ rfl;have dc:=A 10 _ rfl;obtain⟨bq,br,a0,a1,bs,bu,a3,a4,a6,a8,a7,a9,bb,ba,bc,be,bd,bf,bh,bg,bi⟩:=s2;have ci:w3.heap[β 15]?=some (.cells #[slice bq cs.length br,slice a0 a.1.length a1,slice bs a.2.length bu,slice a3 D2.length a4,int i64 E.status,int i64 E.tries,slice a6 a8 a7,slice a9 bb ba,slice bc be bd,slice bf bh bg,int i64 bi] 154 (0,0)):=ch;generalize d2:β 15=bt at*;obtain⟨ai,aj,am,an,ao,ap,aq,ar,au,av,ak,bx⟩:=Dq ci
 simp only[CD,pa,Kd.val,Ja,Act.put,A9,SC.val];rw[d2];clear G ce cg cd d1 ch aa W b8 cb ci A ay a2 b5 cz c2 c3 c4 c5 c6 c7 c8 c9 c0 c1 ea;simp only[SC.cells]at b4;go_wp2_with fail;refine BW Yk 999 [.rd 0 1 (fun _=>Pt g),.rd 0 1 (fun _=>Pt g),.rd 0 1 (fun _=>Pt g),.rd 0 0 (fun _=>slice (some ⟨lb,0,none⟩) L lc),.rd 0 1 (fun _=>int i64 r),.rd 0 0 (fun _=>agg #[slice bq cs.length br,slice a0 a.1.length a1,slice bs a.2.length bu,slice a3 D2.length a4,int i64 E.status,int i64 E.tries,slice a6 a8 a7,slice a9 bb ba,slice bc be bd,slice bf bh bg,int i64 bi]),.rd 0 1 (fun _=>pointer (some ⟨lb,r*12,none⟩)),.rd 0 1 (fun _=>pointer (some ⟨lb,r*12+1,none⟩)),.st 0] 1 7 Yk (Jr w3.drew (fun _=>True) (fun _ y=>Ef w B g O F (C.length+1) (returned (.bool true)) y)) rfl ?_ ?_
 ·refine⟨⟨trivial,fun vs y _ hl c=> ?_⟩,⟨trivial,fun vs y _ hl c=> ?_⟩,⟨trivial,fun vs y _ hl c=> ?_⟩,⟨trivial,fun vs y _ hl c=> ?_⟩,⟨trivial,fun vs y _ hl c=> ?_⟩,⟨trivial,fun vs y _ hl c=> ?_⟩,⟨trivial,fun vs y _ hl c=> ?_⟩,⟨trivial,fun vs y _ hl c=> ?_⟩,⟨trivial,fun vs y hl c=> ?_⟩,trivial⟩
  ·simp[go_sem]
  ·simp[go_sem]
  ·simp[go_sem]
  ·obtain rfl:=c.at hl;simp[go_sem,a5]
  ·simp[go_sem]
  ·obtain rfl:=c.at hl;simp[go_sem,ai,aj,am,an,ao,ap,aq,ar,au,av,ak]
  ·simp[go_sem,N]
  ·simp[go_sem]
  ·obtain rfl:=Q3.1 hl;obtain rfl:y=w3.drew:=c;exact .skip _ (by simp[go_sem,da,dd,de,df,dg,dh,di,dj,dk,db,dc,eb]) ⟨trivial,b4.o⟩
 rintro vs y hl c;obtain⟨v,rfl⟩:=Q1.1 hl;obtain⟨_,ac⟩:=c;have dr:=Yh ac;simp only[EB,IB,CD,pa,Ph.kd,Ph.val,Kd.val,Qx,QX,Ja,Act.put,JC,JD,JG];clear ac ai aj am an ao ap aq ar au av ak bx da dd de df dg dh di dj dk db dc a5;go_wp2;go_ret;exact dr.o
section
open Go.Shelf Go.Lib Go.Sort
def laysM171_ren:Go.Shelf.Ren:=⟨fun|171=>41|243=>66|246=>95|283=>122|284=>123|285=>124|286=>125|129=>153|317=>152|318=>154|319=>155|320=>156|337=>185|338=>186|n=>n,fun|3=>3|9=>9|2=>2|4=>4|171=>208|0=>0|53=>209|37=>212|5=>5|173=>213|212=>258|51=>259|20=>20|213=>260|46=>262|232=>304|233=>305|n=>n,fun|17=>0|18=>1|19=>2|n=>n⟩
theorem laysM171:Go.Proofs.LaysM.n171 prog laysM171_ren:={mixed:=by kernel_rfl,f129:=func153.trans (congrArg some Yk),f171:=func41.trans (congrArg some Yk),f243:=func66.trans (congrArg some Yk),f246:=func95.trans (congrArg some Yk),f283:=func122.trans (congrArg some Yk),f284:=func123.trans (congrArg some Yk),f285:=func124.trans (congrArg some Yk),f286:=func125.trans (congrArg some Yk),f317:=func152.trans (congrArg some Yk),f318:=func154.trans (congrArg some Yk),f319:=func155.trans (congrArg some Yk),f320:=func156.trans (congrArg some Yk),f337:=func185.trans (congrArg some Yk),f338:=func186.trans (congrArg some Yk),t0:=underlying0,a0:=isAgg0,z0:=sizeOf0,v0:=zeroValue0,t2:=underlying2,a2:=isAgg2,z2:=sizeOf2,v2:=zeroValue2,t3:=underlying3,a3:=isAgg3,z3:=sizeOf3,v3:=zeroValue3,t4:=underlying4,a4:=isAgg4,z4:=sizeOf4,v4:=zeroValue4,t5:=underlying5,a5:=isAgg5,z5:=sizeOf5,v5:=zeroValue5,t9:=underlying9,a9:=isAgg9,z9:=sizeOf9,v9:=zeroValue9,t20:=underlying20,a20:=isAgg20,z20:=sizeOf20,v20:=zeroValue20,t37:=underlying212,a37:=isAgg212,z37:=sizeOf212,v37:=zeroValue212,t46:=underlying262,a46:=isAgg262,z46:=sizeOf262,v46:=zeroValue262,t51:=underlying259,a51:=isAgg259,z51:=sizeOf259,v51:=zeroValue259,t53:=underlying209,a53:=isAgg209,z53:=sizeOf209,v53:=zeroValue209,t171:=underlying208,a171:=isAgg208,z171:=sizeOf208,v171:=zeroValue208,t173:=underlying213,a173:=isAgg213,z173:=sizeOf213,v173:=zeroValue213,t212:=underlying258,a212:=isAgg258,z212:=sizeOf258,v212:=zeroValue258,t213:=underlying260,a213:=isAgg260,z213:=sizeOf260,t232:=underlying304,a232:=isAgg304,z232:=sizeOf304,v232:=zeroValue304,t233:=underlying305,a233:=isAgg305,z233:=sizeOf305,v233:=zeroValue305,g17:=by kernel_rfl,g18:=by kernel_rfl,g19:=by kernel_rfl,i0:=by kernel_rfl,i2:=by kernel_rfl,i3:=by kernel_rfl,i4:=by kernel_rfl,i5:=by kernel_rfl,i9:=by kernel_rfl,i20:=by kernel_rfl,i37:=by kernel_rfl,i46:=by kernel_rfl,i51:=by kernel_rfl,i53:=by kernel_rfl,i171:=by kernel_rfl,i173:=by kernel_rfl,i212:=by kernel_rfl,i232:=by kernel_rfl,i233:=by kernel_rfl,m17:=by kernel_rfl,m18:=by kernel_rfl,m19:=by kernel_rfl}
theorem strconv_Itoa(n:Int)(h0: -9223372036854775808<=n)(a:n<=9223372036854775807)(w:World)(b:Lib.TabIs prog w "internal/strconv.uint64pow10" .u64 Lib.pow10Tab):
  Calls prog 41 #[int i64 n] w fun e w'=>e=returned (string ⟨(Lib.itoa n).toArray⟩)/\∃k os,w'=grow (w.drewN k) os:=Any.strconv_Itoa laysM171 n h0 a w b
end
theorem Lk(w:World)(base:Nat)(t ty e:TypeId)(i:TypeInfo)(D:Value)(B:P.underlying t=some (.slice e))(hi:P.info? e=some i)(hz:i.zero=some D)
  (v:Value) (n:Nat) (xs:Lv) (b:w.ownsRow base e i.size v n xs)
  (a:Addr) (m c:Nat) (d:Lv) (hl:d.length=m*i.size) (S:0<m) (z:∀j u,d[j]?=some u->w.cell? (a.add j)=some u) (F:∀u∈d,u.oneCell'=true)
  (G:n+m<=maxLen) (I:(n+m)*i.bytes<=140737488355328) (C:Value) (w':World)
  (k:(Builtin.append_ #[t,t] ty #[v,slice (some a) m c]).run P w= .ok C w') (H:w'.ownsRow base e i.size C (n+m) (xs++d)):w'.ownsRow base e i.size v n xs:=by
 have T:n+m<=9223372036854775807:=by simp only[maxLen]at G;omega
 rcases b.2 with⟨rfl,rfl⟩|⟨g,f,l,rfl,q,x,y,r,s,O⟩
 ·exact⟨b.1,QG ⟨rfl,rfl⟩⟩
 ·by_cases A:n+m<=f
  ·have K:n*i.size+d.length<=l.size:=by rw[hl,s,<-Nat.add_mul];exact Nat.mul_le_mul_right _ A
   have o:=run_append_room (P:=P) w t ty e i B hi g n f l x a m c d hl z F A K;rw[o]at k;injection k with h2 h3;subst h2;rcases H.2 with⟨h,_⟩|⟨R,Q,E,h,_,L,_,_,J,N⟩
   ·simp at h
   ·simp only[QH,Qo,Addr.mk.injEq]at h;obtain⟨⟨rfl,_⟩,_,rfl⟩:=h;refine⟨b.1,QO ⟨g,f,E,rfl,q,L,y,r,J,?_⟩⟩;have p:=congrArg (List.take (n*i.size)) N;rw[List.take_take,Nat.min_eq_left (Nat.mul_le_mul_right _ Yo),List.take_append_of_le_length (by rw[b.1];exact Qe _)]at p;rw[p];exact JS (by rw[b.1];exact Qe _)
  ·have M:∀j u,xs[j]?=some u->w.cell? ((⟨g,0,none⟩:Addr).add j)=some u:=b.cells (g:=g) rfl;have o:=run_append_grow (P:=P) w t ty e i D B hi hz ⟨g,0,none⟩ n f xs b.1 M a m c d hl z Yo Yo (growslice_fits Yo I);rw[o]at k;injection k with h2 h3;subst h3;exact⟨b.1,QO ⟨g,f,l,rfl,q,Ah (w:=w.drew) x _,y,r,s,O⟩⟩
theorem Fb{ops:Array Oper}{rest:List Oper}{o:Oper}{a:Act}{k:Exit->Act->World->Prop}(w:World)(H:o.guard=none)(s x:Operand)(t:TypeId)
  (I:o.op= .call {callee:= .builtin .append,args:=#[s,x],argTypes:=#[t,t]})
  (base:Nat) (e:TypeId) {g:Value} {size d:Nat}
  (p:(P.info? e).map (fun i=>(i.zero,i.size,i.bytes))=some (some g,size,d)) (y:P.underlying t=some (.slice e)) (Q:g.cells.size=size) (L:0<size)
  (v:Value) (n:Nat) (xs:Lv) (J:a.eval s=v) (q:w.ownsRow base e size v n xs)
  (b:Av) {N:Nat} (O:a.eval x=slice (some ⟨N,0,none⟩) 1 1) (C:N=w.heap.size) (hl:b.size=size) (l:∀u∈b.toList,u.oneCell'=true)
  (f:(n+1)*(d+1)<=140737488355328) (F:base<=w.heap.size)
  (h:∀c w',Ar w base e size v (n+1) (xs++b.toList) c w'->w'.ownsRow base e size v n xs->wpList P ops k rest (a.put o.dst c) w'):wpList P ops k (o::rest) a (w.alloc (.cells b e)):=by
 refine wpList_plain H fun _ B=> ?_;subst C;obtain⟨c,w',r,m⟩:=E2 (P:=P) w t o.type base e p y Q L v n xs q b hl l f F;have z:w'.ownsRow base e size v n xs:=by
  obtain⟨i,hi,hz,K,G⟩:=info_parts p;have R:n+1<=140737488355328:=Qq (Nat.le_mul_of_pos_right (n+1) (Nat.succ_pos d)) f;have E:(n+1)*d<=140737488355328:=Qq (Nat.mul_le_mul_left _ (Nat.le_succ _)) f;have A:n+1<=maxLen:=by simp only[maxLen];omega
  subst K G;refine Lk (P:=P) (w.alloc (.cells b e)) base t o.type e i g y hi hz v n xs (q.alloc _) ⟨w.heap.size,0,none⟩ 1 1 b.toList (by simp[hl]) Yo (fun j u M=> ?_) l A E c w' r m.owns;have D:(⟨w.heap.size,0,none⟩:Addr).add j=⟨w.heap.size,j,none⟩:=by unfold Addr.add;split<;>simp_all
  rw[D,cell_of_row _ w.heap.size j b e (0,0) (QL w _)];simpa using M
 unfold Oper.wp execOp;simp only[I,resolve,invoke,builtin,Sem.run_bind,Sem.run_pure,Result.andThen_ok,List.map_toArray,Qx,QX,J,O,r];exact B _ _ (h c w' m z)
def XN(k:Nat):Lu:=[109,97,114,107]++Lib.itoa (k:Int)
def DH(k:Nat):Value:= .string ⟨(XN k).toArray⟩
def G4(B:Nat)(w:World):Prop:=Lib.TabBelow prog B w "internal/strconv.uint64pow10" .u64 Lib.pow10Tab
theorem Vi(w:World)(k:Nat)(os:Array Obj):Ao w (Sort.grow (w.drewN k) os):=Lib.below_grow _ w (Qe _) k os
theorem Wc(k:Nat)(h:k<=100000000):(Lib.itoa (k:Int)).length<=21:=Lib.itoa_length_le _ Yo Yo
theorem Py(k:Nat)(w:World)(f:k<=100000000)(B:Nat)(c:G4 B w):Calls prog 65 #[int i64 k] w fun e w'=>e=returned (DH k)/\Ao w w':=by
 have b:=Yh (strconv_Itoa (k:Int) Yo Yo w c.here);have hl:=Wc k f;obtain⟨X,a⟩:=Ex (Lib.itoa (k:Int));have HM:YH (DH k=string (⟨#[109,97,114,107]⟩++⟨X.toArray⟩)):=by show _=_;rw[a];unfold DH XN;rw[<-AA]
 rw[<-a]at b hl;clear a c;go_enter func65,ntmps65;go_wp2_with fail;apply b.o.mono;rintro e w1 ⟨rfl,j,os,rfl⟩;have d:=Yh (Vi w j os);go_wp2;go_ret;exact⟨by rw[HM.o];rfl,d.o⟩
theorem Iy{u:Value}{n m:Nat}(a:w.ownsRow B e 1 u n xs)(D:w.ownsRow B e 1 v m ys)(z:Ad (Ak v) w w')(E:w'.ownsRow B e 1 v m ys)(F:ys.take n=xs)(hn:n<=m):w'.ownsRow B e 1 u n xs:=by
 rcases a.2 with⟨rfl,rfl⟩|⟨g,j,H,rfl,hb,x,A,q,r,K⟩
 ·exact⟨a.1,QG ⟨rfl,rfl⟩⟩
 ·by_cases c:v.ownBlock=some g
  ·rcases E.2 with⟨rfl,_⟩|⟨o,i,l,rfl,_,y,_,_,s,C⟩
   ·simp[Value.ownBlock]at c
   ·simp[Value.ownBlock]at c;subst c;have p:i=j:=by
     rcases D.2 with⟨b,_⟩|⟨J,G,I,b,_,d,_,_,t,_⟩
     ·simp at b
     ·simp only[QH,Qo,Addr.mk.injEq]at b;obtain⟨⟨rfl,_⟩,_,rfl⟩:=b;rw[x]at d;simp at d;subst d;rw[r]at t;omega
    subst p;refine⟨a.1,QO ⟨o,i,l,rfl,hb,y,A,q,s,?_⟩⟩;rw[<-F,<-C,List.take_take,Nat.min_eq_left Yo];simp
  ·exact Aj a (fun k f=>z.block k (a.lt k f).2 (fun h=>c (by simp[Value.ownBlock]at f;subst f;exact h)))
def EN(w:World)(v:Value)(k:Nat):Prop:=∃n,n<=30000/\w.ownsRow 0 9 1 v n (List.replicate n (DH k))
theorem EN.same(h:EN w v k)(hb:∀j,v.ownBlock=some j->w'.heap[j]?=w.heap[j]?):EN w' v k:=by
 obtain⟨n,hn,h⟩:=h;exact⟨n,hn,Aj h hb⟩
theorem EN.lt{j:Nat}(h:EN w v k)(a:v.ownBlock=some j):j<w.heap.size:=by
 obtain⟨n,hn,h⟩:=h;exact(h.lt j a).2
structure Cc(w:World)(B bW:Nat)(v0:Value)(ls:List (Value×Nat))(sa:Option Addr)(sc:Nat)(ka:Option Addr)(kc:Nat):Prop where
 box:w.heap[bW]?=some (.cells #[v0,.slice sa ls.length sc,.slice ka ls.length kc] 76 (0,0))
 lrow:w.ownsRow B 47 1 (.slice sa ls.length sc) ls.length (ls.map (·.1))
 krow:w.ownsRow B 3 1 (.slice ka ls.length kc) ls.length (ls.map fun x=> .int .i64 x.2)
 all:∀x∈ls,EN w x.1 x.2/\x.2<=ls.length
theorem Cc.ext{i:Value}{ls:List (Value×Nat)}{f:Oa}{g:Nat}{c:Oa}{d:Nat}(h:Cc w B bW i ls f g c d)(e:Ao w w'):Cc w' B bW i ls f g c d:=
 ⟨(e.block _ (Ac h.box)).trans h.box,Aj h.lrow (fun k a=>e.block k (h.lrow.lt k a).2),Aj h.krow (fun k a=>e.block k (h.krow.lt k a).2),fun x b=>⟨(h.all x b).1.same (fun j l=>e.block j ((h.all x b).1.lt l)),(h.all x b).2⟩⟩
theorem Cc.nil{a:Value}(h:w.heap[bW]?=some (.cells #[a,Nl,Nl] 76 (0,0))):Cc w B bW a [] none 0 none 0:=
 ⟨h,Q2 _ _ _ _,Q2 _ _ _ _,fun x b=>by simp at b⟩
def LO(bW:Nat)(sv kv lv:Value):Nat->Prop:=fun k=>k=bW\/Ak sv k\/Ak kv k\/Ak lv k
theorem infoStrs:(prog.info? 47).map (fun i=>(i.zero,i.size,i.bytes))=some (some Nl,1,24):=by kernel_rfl
def Lg(S:Np)(w:World)(t:TypeId):Prop:=∀k,S k->∃cl fr,w.heap[k]?=some (.cells cl t fr)
theorem Lg.block{b:TypeId}{cl:Av}{fr:Nat×Nat}(c:Lg S w t)(d:Ad S w w')(h:w.heap[k]?=some (.cells cl b fr))(f:b≠t):w'.heap[k]?=some (.cells cl b fr):=
 (d.block k (Ac h) (fun e=>by
  obtain⟨g,i,a⟩:=c k e;rw[h]at a;simp at a;exact f a.2.1)).trans h
theorem Lg.row{t e n:Nat}(b:Lg S w t)(d:Ad S w w')(h:w.ownsRow B e size v n xs)(f:e≠t):w'.ownsRow B e size v n xs:=
 Aj h (fun k c=>by
  obtain⟨cl,fr,a⟩:=own_ty h k c;rw[b.block d a f,a])
theorem Lg.list(a:Lg S w t)(b:Ad S w w')(h:EN w v k)(c:9≠t):EN w' v k:=by
 obtain⟨n,hn,h⟩:=h;exact⟨n,hn,a.row b h c⟩
theorem Xj(m:Value)(xs:Lv)(i:Nat)(hi:i<xs.length):(List.replicate i m++xs.drop i).set i m=List.replicate (i+1) m++xs.drop (i+1):=by
 rw[QC hi,List.set_append_right _ _ Ys,QE,Nat.sub_self,JG,List.replicate_succ',Qi];rfl
structure X2(w w4:World)(B k n:Nat)(lv gv hv jv:Value):Prop where
 kept:Ad (Ak lv) w w4
 l:w4.ownsRow B 9 1 lv n (List.replicate n (DH k))
 g:w4.ownsRow B 9 1 gv (n+1) (List.replicate (n+1) (DH k))
 h:w4.ownsRow B 9 1 hv (n+2) (List.replicate (n+2) (DH k))
 j:w4.ownsRow B 9 1 jv (n+3) (List.replicate (n+3) (DH k))
theorem WO{w4 w5 w7:World}{n:Nat}{z H I:Value}{ls:List (Value×Nat)}{c a sa' ka':Oa}{d b sc' kc':Nat}(h:Cc w B bW z ls c d a b)(hl:Lg (Ak lv) w 9)(ad:∀x∈ls,∀k,x.1.ownBlock=some k->lv.ownBlock≠some k)(hn:n<=20000)(o:X2 w w4 B ls.length n lv gv H I):
  let q:=w4.alloc (.cells #[lv,gv,H,I] 47)
  w4.heap[bW]?=some (.cells #[z,slice c ls.length d,slice a ls.length b] 76 (0,0))/\q.ownsRow B 47 1 (slice c ls.length d) ls.length (ls.map (·.1))/\
  (Ar q B 47 1 (slice c ls.length d) (ls.length+4) (ls.map (·.1)++[lv,gv,H,I]) (slice sa' (ls.length+4) sc') w5->
   let s:=w5.setCell ⟨bW,1,none⟩ (slice sa' (ls.length+4) sc')
   let r:=s.alloc (.cells #[int i64 ls.length,int i64 ls.length,int i64 ls.length,int i64 ls.length] 3)
   w5.heap[bW]?=some (.cells #[z,slice c ls.length d,slice a ls.length b] 76 (0,0))/\s.heap[bW]?=some (.cells #[z,slice sa' (ls.length+4) sc',slice a ls.length b] 76 (0,0))/\r.ownsRow B 3 1 (slice a ls.length b) ls.length (ls.map fun x=>int i64 x.2)/\
   (Ar r B 3 1 (slice a ls.length b) (ls.length+4) ((ls.map fun x=>int i64 x.2)++[int i64 ls.length,int i64 ls.length,int i64 ls.length,int i64 ls.length]) (slice ka' (ls.length+4) kc') w7->
    let u:=w7.setCell ⟨bW,2,none⟩ (slice ka' (ls.length+4) kc')
    w7.heap[bW]?=some (.cells #[z,slice sa' (ls.length+4) sc',slice a ls.length b] 76 (0,0))/\Ad (LO bW (slice c ls.length d) (slice a ls.length b) lv) w u/\
    Cc u B bW z (ls++[(lv,ls.length),(gv,ls.length),(H,ls.length),(I,ls.length)]) sa' sc' ka' kc')):=by
 intro q;have M:=hl.block o.kept h.box Yd;have X:=hl.row o.kept h.lrow Yd;have U:=hl.row o.kept h.krow Yd;have T:∀x∈ls,EN w4 x.1 x.2:=fun x f=>(h.all x f).1.same (fun j G=>o.kept.block j ((h.all x f).1.lt G) (fun e=>ad x f j G e));have A:Ao w4 q:=Mxt;have Y:q.ownsRow B 47 1 (slice c ls.length d) ls.length (ls.map (·.1)):=Aj X (fun k p=>A.block k (X.lt k p).2);refine⟨M,Y,fun y=> ?_⟩;intro s r;have E:Lg (Ak (slice c ls.length d)) q 47:=own_ty Y;have N:=E.block y.kept ((A.block _ (Ac M)).trans M) Yd;have ae:=E.row y.kept (Aj U (fun k p=>A.block k (U.lt k p).2)) Yd;have am:∀{v:Value}{m:Nat},w4.ownsRow B 9 1 v m (List.replicate m (DH ls.length))->w5.ownsRow B 9 1 v m (List.replicate m (DH ls.length)):=fun t=>E.row y.kept (Aj t (fun k p=>A.block k (t.lt k p).2)) Yd;have ac:∀x∈ls,EN w5 x.1 x.2:=fun x f=>E.list y.kept ((T x f).same (fun j G=>A.block j ((T x f).lt G))) Yd;have S:Lg (only bW) w5 76:=fun k e=>by
  have e:k=bW:=e;subst e;exact⟨_,_,N⟩
 have L:Ad (only bW) w5 s:=(Ad.refl _ _).put 1 _;have P:s.heap[bW]?=_:=Ae N 1 _;have K:Ao s r:=Mxt;have W:=S.row L ae Yd;have V:r.ownsRow B 3 1 (slice a ls.length b) ls.length (ls.map fun x=>int i64 x.2):=Aj W (fun k p=>K.block k (W.lt k p).2);refine⟨N,P,V,fun D=> ?_⟩;intro u;have R:Lg (Ak (slice a ls.length b)) r 3:=own_ty V;have O:=R.block D.kept ((K.block _ (Ac P)).trans P) Yd;have J:∀{B' e size n:Nat}{v:Value}{xs:Lv},w5.ownsRow B' e size v n xs->e≠76->e≠3->w7.ownsRow B' e size v n xs:=fun t aa ab=>by
  have Z:=S.row L t aa;exact R.row D.kept (Aj Z (fun k p=>K.block k (Z.lt k p).2)) ab
 have F:Lg (only bW) w7 76:=fun k e=>by
  have e:k=bW:=e;subst e;exact⟨_,_,O⟩
 have C:Ad (only bW) w7 u:=(Ad.refl _ _).put 2 _;have fin:∀{v:Value}{m:Nat},m<=30000->w4.ownsRow B 9 1 v m (List.replicate m (DH ls.length))->EN u v ls.length:=fun Q t=>⟨_,Q,AI (F.row C (J (am t) Yd Yd) Yd) (Qm _)⟩;refine⟨O,?_,?_,?_,?_,fun x f=> ?_⟩
 ·have af:Ad (LO bW (slice c ls.length d) (slice a ls.length b) lv) w w4:=o.kept.mono (fun i _ e=>QO (QO (QO e)));have ag:Ad (LO bW (slice c ls.length d) (slice a ls.length b) lv) w4 q:=(Ad.refl _ _).alloc _;have ah:Ad (LO bW (slice c ls.length d) (slice a ls.length b) lv) q w5:=y.kept.mono (fun i _ e=>QO (QG e));have ai:Ad (LO bW (slice c ls.length d) (slice a ls.length b) lv) w5 s:=L.mono (fun i _ e=>QG e);have aj:Ad (LO bW (slice c ls.length d) (slice a ls.length b) lv) s r:=(Ad.refl _ _).alloc _;have ak:Ad (LO bW (slice c ls.length d) (slice a ls.length b) lv) r w7:=D.kept.mono (fun i _ e=>QO (QO (QG e)));have al:Ad (LO bW (slice c ls.length d) (slice a ls.length b) lv) w7 u:=C.mono (fun i _ e=>QG e);exact(((((af.trans ag).trans ah).trans ai).trans aj).trans ak).trans al
 ·have:=Ae O 2 (slice ka' (ls.length+4) kc');simpa using this
 ·have:=F.row C (J y.owns Yd Yd) Yd;simpa using this
 ·have:=F.row C D.owns Yd;simpa using this
 ·rw[Qg];rcases Qk.1 f with f|f
  ·refine⟨?_,by have:=(h.all x f).2;omega⟩;obtain⟨m,Q,t⟩:=ac x f;exact⟨m,Q,F.row C (J t Yd Yd) Yd⟩
  ·simp at f;rcases f with rfl|rfl|rfl|rfl
   ·exact⟨fin Yo o.l,Nat.le_add_right _ _⟩
   ·exact⟨fin Yo o.g,Nat.le_add_right _ _⟩
   ·exact⟨fin Yo o.h,Nat.le_add_right _ _⟩
   ·exact⟨fin Yo o.j,Nat.le_add_right _ _⟩
end Go.Proofs.YtlmjilpjmgjjcaaGreatDoor
