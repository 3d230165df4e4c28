/-
  PROVED HERE: what the program's method 'enter' of a held tree's text does (the conditions stand in each statement).
-/
import Derived.Test.YtlmjilpjmgjjcaaGreatDoorT7
import Derived.Shelf.LaysM
import Derived.Shelf.Strconv.Itoa3
import Derived.Lib.AppendIntMem
import Derived.Lib.ItoaLen
set_option linter.unusedSimpArgs false
set_option linter.unusedVariables false
set_option maxRecDepth 10000
set_option maxHeartbeats 4000000
namespace Go.Proofs.YtlmjilpjmgjjcaaGreatDoor
open Go.RowKit
open Tryz
variable{w w' w1 w2 w0 wr:World}{n k B b i p size cap M rb bW x:Nat}{v cv gv vv lv:Value}{xs ys vs:Lv}{X Y S:Np}{s:ByteArray}{t e:TypeId}{fr:Nat×Nat}{P:Program}{l:Ly}{ls ts:Ll}{ρ:Nat->Nat}{σ:Nat->Ly}{cs:Lc}{c:Dt}{a:Ll×At}{m:SN}{ds r:Ln}{st:RS}{L:Bj}{G:Gr}{A:List Lu}
attribute [local simp] XQ El Hq pa Ph.kd Ph.val Kd.val
def XL(X:Np)(p q:ByteArray)(e:Ending)(w':World):Prop:=
 (BD p=none/\e= .returned (.tuple #[.agg #[.slice none 0 0,.slice none 0 0,.slice none 0 0,.slice none 0 0,.int .i64 0,.int .i64 0,.slice none 0 0,.slice none 0 0,.slice none 0 0,.slice none 0 0,.int .i64 0],.int .i64 4]))\/
 ((∃cs,BD p=some cs)/\Cr q=none/\e= .returned (.tuple #[.agg #[.slice none 0 0,.slice none 0 0,.slice none 0 0,.slice none 0 0,.int .i64 0,.int .i64 0,.slice none 0 0,.slice none 0 0,.slice none 0 0,.slice none 0 0,.int .i64 0],.int .i64 5]))\/
 (∃cs a,∃s:SC,BD p=some cs/\Cr q=some a/\e= .returned (.tuple #[s.val cs.length a.1.length a.2.length 1 0 0,.int .i64 0])/\BK X w' s cs a [(AN a,0)] (Kn cs a))
theorem D8.single{g:Nat}{a b c f h:Value}{n:ND}(hb:w.heap[g]?=some (.cells #[a,b,c,f,h,Vi 0] 250 (0,0)))(hn:Bx X w a b c f h n):D8 X w 0 (.slice (some ⟨g,0,none⟩) 1 1) [(n,0)] [a,b,c,f,h,Vi 0]:=by
 refine⟨⟨rfl,.inr ⟨g,1,_,rfl,Qm _,hb,Qe _,Yd,rfl,rfl⟩⟩,fun i d hd=> ?_⟩;have e:i=0:=by
  have:=(Qa.1 hd).1;simp at this;exact this
 subst e;simp at hd;subst hd;exact⟨a,b,c,f,h,rfl,rfl,rfl,rfl,rfl,rfl,hn⟩
theorem MN(ha:a.1≠[]):(Kn cs a).status=0/\(Kn cs a).tries=0/\(Kn cs a).way=CB cs.length [(AN a,0)]:=by
 unfold Kn B7;rw[if_neg (Hc ha)];simp[CJ,Df]
theorem ST(p q:ByteArray)(w:World)(az:L8 X w)(a3:p.size<=maxLen)(a4:q.size<=maxLen):Calls prog 111 #[.string p,.string q] w fun e w'=>Ao w w'/\XL X p q e w':=by
 have a9:=hd (fun u=>HS p q u a3 a4);have an:=hd az;clear a3 a4 az;go_enter func111,ntmps111;go_wp2_with fail;apply(a9.o _).mono;rintro e w1 ⟨J,bh⟩;have bp:=J.size;simp at bp;have ak:w1.heap[w.hz]?=some (.cells #[Nl,Nl,Nl,Nl,Vi 0,Vi 0,Nl,Nl,Nl,Nl,Vi 0] 154 (0,0)):=(J.block _ Ys).trans (QL w _);obtain⟨O,P,R,T,U,V,W,Z,ab,ac,Q,ad⟩:=Dz ak;have au:Ao w w1:=(Mxt:Ao w (w.alloc _)).trans (J.mono Ys);have B:=hd au;have bf:=hd ak;have ah:w.hz<w1.hz:=Yo
 clear J ak au;rcases bh with⟨H,rfl⟩|⟨⟨cs,I⟩,H,rfl⟩|⟨cs,a,bv,av,nv,xs,I,ag,rfl,aj,E⟩
 ·have ae:=hd H;clear H;go_wp2;refine bodyPost_ret (v:= .tuple #[.agg #[Nl,Nl,Nl,Nl,Vi 0,Vi 0,Nl,Nl,Nl,Nl,Vi 0],Vi 4]) (by simp[results,results111,go_sem,O,P,R,T,U,V,W,Z,ab,ac,Q,ad,ah]) rfl ?_;exact⟨B.o.trans (Ad.below (S:=fun i=>w.hz<=i) Mst Yo (fun i e=>e)),Or.inl ⟨ae.o,rfl⟩⟩
 ·have ae:=hd H;have af:=hd I;clear H I;go_wp2;refine bodyPost_ret (v:= .tuple #[.agg #[Nl,Nl,Nl,Nl,Vi 0,Vi 0,Nl,Nl,Nl,Nl,Vi 0],Vi 5]) (by simp[results,results111,go_sem,O,P,R,T,U,V,W,Z,ab,ac,Q,ad,ah]) rfl ?_;exact⟨B.o.trans (Ad.below (S:=fun i=>w.hz<=i) Mst Yo (fun i e=>e)),Or.inr (Or.inl ⟨⟨cs,af.o⟩,ae.o,rfl⟩)⟩
 ·obtain⟨ao,ar⟩:=E.atoms;obtain⟨la,am,rfl⟩:=Ac aj.owns;obtain⟨aa,D,rfl⟩:=Ac ar.1;obtain⟨na,C,rfl⟩:=Ac E.names;obtain⟨_,_,_,ay,ax,a0,a1,a2,_⟩:=Cs ag;have ba:=hd (fun u (a6:Ao w1 u)=>by
   obtain⟨ao,g⟩:=(E.ext a6).atoms;exact Jh u (an.o.ext (B.o.trans (a6.mono B.o.size))) _ (.slice na a.2.length C) a ao g ⟨_,_,rfl⟩ ay ax a0 a2)
  have be:=hd aj;have a8:=hd E;have bb:=hd a1;have af:=hd I;have bc:=hd ag;clear aj E ar ay ax I ag a1 a0 a2;go_wp2_with fail;apply(ba.o _ Mxt).mono;rintro e w2 ⟨bw,bx,bz,b0,b1,rfl,K,ai⟩;obtain⟨c,d,f,l,j,m,r,n,s,z,y,A,rfl,rfl,rfl,rfl,rfl⟩:=ai.len;have bq:=K.size;simp at bq;have F:Ao w1 w2:=(Mxt:Ao w1 (w1.alloc _)).trans (K.mono Ys);have a5:w2.heap[w1.hz]?=some (.cells #[.slice aa a.1.length D,.slice na a.2.length C] 148 (0,0)):=(K.block _ Ys).trans (QL w1 _);obtain⟨q0,b2,b3⟩:=Gu a5;have al:=(F.block _ ah).trans bf.o;obtain⟨O,P,R,T,U,V,W,Z,ab,ac,Q,ad⟩:=Dz al;have bk:w.hz<w2.hz:=Yo
  have bu:w1.hz<w2.hz:=Yo
  have M:=K7 al;have bd:Hd (∀b,Ad (only w.hz) w2 b->b.hz=w2.hz->Ao w ((b.alloc (.cells #[.slice c (AN a).goals.length d,.slice f l j,.slice m r n,.slice s z y,Vi A] 152)).alloc (.cells #[.slice c (AN a).goals.length d,.slice f l j,.slice m r n,.slice s z y,Vi A,Vi 0] 250))/\XL X p q (Rq #[.agg #[.slice la cs.length am,.slice aa a.1.length D,.slice na a.2.length C,.slice (some ⟨w2.hz+1,0,none⟩) 1 1,Vi 0,Vi 0,Nl,Nl,Nl,Nl,Vi 0],Vi 0]) ((b.alloc (.cells #[.slice c (AN a).goals.length d,.slice f l j,.slice m r n,.slice s z y,Vi A] 152)).alloc (.cells #[.slice c (AN a).goals.length d,.slice f l j,.slice m r n,.slice s z y,Vi A,Vi 0] 250))):=fun b N bi=>by
   have aw:Ao w w2:=B.o.trans (F.mono B.o.size);have L:Ao w b:=aw.trans (N.below aw.size (fun k e=>by have:k=w.hz:=e;omega));have G:Ao b ((b.alloc (.cells #[.slice c (AN a).goals.length d,.slice f l j,.slice m r n,.slice s z y,Vi A] 152)).alloc (.cells #[.slice c (AN a).goals.length d,.slice f l j,.slice m r n,.slice s z y,Vi A,Vi 0] 250)):=Mxt;refine⟨L.trans (G.mono L.size),Or.inr (Or.inr ⟨cs,a,⟨la,am,aa,D,na,C,some ⟨w2.hz+1,0,none⟩,1,none,0,0,none,0,0,none,0,0,none,0,0,0⟩,af.o,bc.o,rfl,?_⟩)⟩;obtain⟨br,bs,bt⟩:=MN (cs:=cs) bb.o;have bj:((b.alloc (.cells #[.slice c (AN a).goals.length d,.slice f l j,.slice m r n,.slice s z y,Vi A] 152)).alloc (.cells #[.slice c (AN a).goals.length d,.slice f l j,.slice m r n,.slice s z y,Vi A,Vi 0] 250)).heap[w2.hz+1]?=some (.cells #[.slice c (AN a).goals.length d,.slice f l j,.slice m r n,.slice s z y,Vi A,Vi 0] 250 (0,0)):=by rw[<-bi];exact heap_alloc2_new b _ _
   have bl:=(M.node N ai).ext (Y:=X) G (fun _ _ h=>h);have bn:=((be.o.ext (Y:=fun _=>False) F (fun _ _ h=>h)).keep N M).ext (Y:=fun _=>False) G (fun _ _ h=>h);have bm:Fi b (.slice aa a.1.length D) (.slice na a.2.length C) a:=(a8.o.ext F).keep N (fun k bo=>by
    obtain⟨cl,t,fr,bg,ap⟩:=M k bo;exact⟨cl,t,fr,bg,fun e=>ap (Or.inl e),fun e=>ap (Or.inr (Or.inr (Or.inr (Or.inr (Or.inr e)))))⟩)
   exact⟨⟨⟨xs,bn⟩,bm.ext G,⟨_,D8.single bj bl⟩,fun aq=>by rw[br]at aq;simp at aq,an.o.ext (L.trans (G.mono L.size))⟩,fun _=>bt.symm,by rw[bs];simp,fun x a7=>by simp at a7;subst a7;exact Qm _⟩
  clear K F a5 al ai M;go_wp2;refine bodyPost_ret (v:= .tuple #[.agg #[.slice la cs.length am,.slice aa a.1.length D,.slice na a.2.length C,.slice (some ⟨w2.hz+1,0,none⟩) 1 1,Vi 0,Vi 0,Nl,Nl,Nl,Nl,Vi 0],Vi 0]) (by simp[results,results111,go_sem,O,P,R,T,U,V,W,Z,ab,ac,Q,ad,bk]) rfl ?_;exact bd.o _ ((((((((((((Ad.refl (only w.hz) w2).put 0 _).put 1 _).put 2 _).put 3 _).put 4 _).put 5 _).put 6 _).put 7 _).put 8 _).put 9 _).put 10 _) Ys
theorem NM(w:World)(s:SC)(cl al a dl:Nat)(st:Nat)(b:Int)(n:Nat)(hn:n<=3000)(c:st=2\/st=3):
  Calls prog 89 #[s.val cl al a dl st b,Vi n] w fun e w'=>e=Rq #[s.val cl al a dl st b,Vi 0,Vi 0]/\Ao w w':=by
 obtain⟨la,lc,aa,ac,na,nc,da,dc,f0a,f0l,f0c,f1a,f1l,f1c,f2a,f2l,f2c,f3a,f3l,f3c,f4⟩:=s;simp only[SC.val];rcases c with rfl|rfl
 ·go_enter func89,ntmps89;go_wp2;refine bodyPost_ret (v:= .tuple #[.agg #[.slice la cl lc,.slice aa al ac,.slice na a nc,.slice da dl dc,Vi 2,Vi b,.slice f0a f0l f0c,.slice f1a f1l f1c,.slice f2a f2l f2c,.slice f3a f3l f3c,Vi f4],Vi 0,Vi 0]) (by simp[results,results89,go_sem]) rfl ?_;exact⟨rfl,Mxt⟩
 ·go_enter func89,ntmps89;go_wp2;refine bodyPost_ret (v:= .tuple #[.agg #[.slice la cl lc,.slice aa al ac,.slice na a nc,.slice da dl dc,Vi 3,Vi b,.slice f0a f0l f0c,.slice f1a f1l f1c,.slice f2a f2l f2c,.slice f3a f3l f3c,Vi f4],Vi 0,Vi 0]) (by simp[results,results89,go_sem]) rfl ?_;exact⟨rfl,Mxt⟩
theorem Pq(w:World)(s:SC)(cl al a dl:Nat)(st:Nat)(b n:Int)(hn:n<0\/3000<n)(hi: -9223372036854775808<=n/\n<9223372036854775808):
  Calls prog 89 #[s.val cl al a dl st b,Vi n] w fun e w'=>e=Rq #[s.val cl al a dl st b,Vi 0,Vi 8]/\Ao w w':=by
 obtain⟨la,lc,aa,ac,na,nc,da,dc,f0a,f0l,f0c,f1a,f1l,f1c,f2a,f2l,f2c,f3a,f3l,f3c,f4⟩:=s;simp only[SC.val]
 by_cases h0:n<0
 ·clear hn;go_enter func89,ntmps89;go_wp2;refine bodyPost_ret (v:= .tuple #[.agg #[.slice la cl lc,.slice aa al ac,.slice na a nc,.slice da dl dc,Vi st,Vi b,.slice f0a f0l f0c,.slice f1a f1l f1c,.slice f2a f2l f2c,.slice f3a f3l f3c,Vi f4],Vi 0,Vi 8]) (by simp[results,results89,go_sem]) rfl ?_;exact⟨rfl,Mxt⟩
 ·have c:3000<n:=Yo
  clear hn;go_enter func89,ntmps89;go_wp2;refine bodyPost_ret (v:= .tuple #[.agg #[.slice la cl lc,.slice aa al ac,.slice na a nc,.slice da dl dc,Vi st,Vi b,.slice f0a f0l f0c,.slice f1a f1l f1c,.slice f2a f2l f2c,.slice f3a f3l f3c,Vi f4],Vi 0,Vi 8]) (by simp[results,results89,go_sem]) rfl ?_;exact⟨rfl,Mxt⟩
structure Ee where
 b:Nat
 x:CX
 s:SC
 D:List (ND×Nat)
 p:ByteArray
 q:ByteArray
 cs:List Dt
 a:List (List BL)×At
 m:SN
def Ee.row(e:Ee):Lv:= .pointer (some ⟨e.b,0,none⟩)::(e.s.cells e.cs.length e.a.1.length e.a.2.length e.D.length e.m.status e.m.tries).toList
theorem Ee.row_len(e:Ee):e.row.length=12:=rfl
def CZ:List Ee->Lv
 |[]=>[]
 |e::es=>e.row++CZ es
theorem Rh(a b:List Ee):CZ (a++b)=CZ a++CZ b:=by
 induction a with
 |nil=>rfl
 |cons e a c=>simp[CZ,c]
theorem Ij:∀{a:List Ee}{i:Nat}{e:Ee},a[i]?=some e->∀j,j<12->(CZ a)[i*12+j]?=e.row[j]?:=by
 intro a
 induction a with
 |nil=>intro i e h;simp at h
 |cons f a c=>
  intro i e h j b
  cases i with
  |zero=>
   simp at h;subst h;unfold CZ;rw[Qc (by rw[Ee.row_len];omega)];simp
  |succ i=>
   unfold CZ;rw[Qd (by rw[Ee.row_len];omega),Ee.row_len,show(i+1)*12+j-12=i*12+j by omega];exact c (by simpa using h) j b
def JM(l:Lv)(i:Nat):Lv->Lv
 |[]=>l
 |v::vs=>JM (l.set i v) (i+1) vs
theorem SO:∀(vs r l:Lv)(i:Nat),JM (r++l) (r.length+i) vs=r++JM l i vs:=by
 intro vs
 induction vs with
 |nil=>intro r l i;rfl
 |cons v vs a=>
  intro r l i;simp only[JM];rw[List.set_append_right _ _ Yo,show r.length+i-r.length=i by omega,show r.length+i+1=r.length+(i+1) by omega];exact a r _ _
theorem SK:∀{a:List Ee}{i:Nat}{e e':Ee},a[i]?=some e->e'.b=e.b->CZ (a.set i e')=JM (CZ a) (i*12+1) (e'.row.drop 1):=by
 intro a
 induction a with
 |nil=>intro i e e' h;simp at h
 |cons f a c=>
  intro i e e' h hb
  cases i with
  |zero=>
   simp at h;subst h;simp only[List.set_cons_zero,CZ,Ee.row,SC.cells,hb];rfl
  |succ i=>
   simp only[List.set_cons_succ,CZ];rw[c (by simpa using h) hb,show(i+1)*12+1=f.row.length+(i*12+1) by rw[Ee.row_len];omega,SO]
structure FY(X:Nat->Prop)(w:World)(B:Nat)(e:Ee):Prop where
 code:Dj w e.b e.x e.cs e.a e.m
 ref:BK X w e.s e.cs e.a e.D e.m
 inv:DG e.cs e.a e.m
 prog:BD e.p=some e.cs
 ask:Cr e.q=some e.a
 low:∀k,CK e.b e.x k->B<=k
 fx:e.m.status=1->∀k,(∃p,e.x.fa=some p/\p.block=k)->¬X k
theorem Dj.own_lt{x:CX}(h:Dj w b x cs a m)(c:CK b x k):k<w.hz:=by
 rcases c with rfl|c
 ·exact Ab h.box
 ·obtain⟨e,d⟩:=h.way;exact(d.owns.lt k (Fv.2 c)).2
theorem Dj.own_ty{x:CX}(h:Dj w b x cs a m)(d:CK b x k):∃cl t fr,w.heap[k]?=some (.cells cl t fr)/\(t=112\/t=135):=by
 rcases d with rfl|d
 ·exact⟨_,_,_,h.box,Or.inl rfl⟩
 ·obtain⟨n,f⟩:=h.way;have c:(Value.slice x.wa m.way.length x.wc).ownBlock=some k:=Fv.2 d;rcases f.owns.2 with⟨e,_⟩|⟨g,j,l,e,_,i,_⟩
  ·rw[e]at c;simp[Value.ownBlock]at c
  ·rw[e]at c;simp[Value.ownBlock]at c;subst c;exact⟨_,_,_,i,Or.inr rfl⟩
theorem FY.ext{e:Ee}(h:FY X w B e)(a:Ao w w'):FY X w' B e:=⟨h.code.ext a,h.ref.ext a,h.inv,h.prog,h.ask,h.low,h.fx⟩
theorem FY.keep{e:Ee}(h:FY X w B e)(a:Ad S w w')(c:DC S w)(d:DF S w)(f:∀k,CK e.b e.x k->¬S k):FY X w' B e:=⟨h.code.keep a d f,h.ref.keep a c,h.inv,h.prog,h.ask,h.low,h.fx⟩
structure CQ(w:World)(B bW:Nat)(v1 v2:Value)(es:List Ee)(la:Option Addr)(lc:Nat):Prop where
 box:w.heap[bW]?=some (.cells #[.slice la es.length lc,v1,v2] 76 (0,0))
 row:w.ownsRow B 156 12 (.slice la es.length lc) es.length (CZ es)
 all:∀(i:Nat)(e:Ee),es[i]?=some e->FY (Ak v2) w B e
 apart:∀(i j:Nat)(e f:Ee),i≠j->es[i]?=some e->es[j]?=some f->∀k,CK e.b e.x k->¬CK f.b f.x k
 xok:L8 (Ak v2) w
theorem CQ.ext{b c:Value}{a:List Ee}{la:Oa}{lc:Nat}(h:CQ w B bW b c a la lc)(e:Ao w w'):CQ w' B bW b c a la lc:=
 ⟨(e.block _ (Ab h.box)).trans h.box,Aj h.row (fun k g=>e.block k (h.row.lt k g).2),fun i f d=>(h.all i f d).ext e,h.apart,h.xok.ext e⟩
theorem CQ.nil(h:w.heap[bW]?=some (.cells #[Nl,Nl,Nl] 76 (0,0))):CQ w B bW Nl Nl [] none 0:=
 ⟨h,Q2 _ _ _ _,fun i e h=>by simp at h,fun i j e f _ h=>by simp at h,fun k a=>by simp[Ak,Value.ownBlock]at a⟩
structure BF(B:Nat)(w w':World):Prop where
 bel:Below B w w'
 frm:∀(k:Nat)(cl:Array Value)(t:TypeId)(fr:Nat×Nat),w.heap[k]?=some (.cells cl t fr)->t=9\/t=3\/t=47->w'.heap[k]?=some (.cells cl t fr)
theorem BF.trans(h:BF B w w1)(c:BF B w1 w2):BF B w w2:=⟨h.bel.trans c.bel,fun k cl t fr a b=>c.frm k cl t fr (h.frm k cl t fr a b) b⟩
theorem FF(h:Ao w w')(b:B<=w.hz):BF B w w':=⟨h.mono b,fun k cl t fr a _=>(h.block k (Ab a)).trans a⟩
theorem Ku(h:Ad S w w')(g:B<=w.hz)(i:∀k,S k->B<=k)(j:∀k,S k->∃cl t fr,w.heap[k]?=some (.cells cl t fr)/\t≠9/\t≠3/\t≠47):BF B w w':=
 ⟨h.below g i,fun k cl t fr a b=>(h.block k (Ab a) (fun l=>by
  obtain⟨m,o,n,c,d,e,f⟩:=j k l;rw[a]at c;simp at c;obtain⟨_,rfl,_⟩:=c;rcases b with rfl|rfl|rfl
  ·exact d rfl
  ·exact e rfl
  ·exact f rfl)).trans a⟩
def Ht(t:TypeId):Prop:=t=76\/t=156
theorem Ht.ne(h:∀k,S k->∃cl t fr,w.heap[k]?=some (.cells cl t fr)/\Ht t):∀k,S k->∃cl t fr,w.heap[k]?=some (.cells cl t fr)/\t≠9/\t≠3/\t≠47:=fun k c=>by
 obtain⟨cl,t,fr,a,b⟩:=h k c;exact⟨cl,t,fr,a,by rcases b with rfl|rfl<;>decide⟩
theorem No(h:∀k,S k->∃cl t fr,w.heap[k]?=some (.cells cl t fr)/\Ht t):DC S w/\DF S w/\∀{b x cs a m},Dj w b x cs a m->∀k,CK b x k->¬S k:=by
 refine⟨fun k e=> ?_,fun k e=> ?_,fun{b x cs a m} i k j e=> ?_⟩
 ·obtain⟨cl,t,fr,c,d⟩:=h k e;exact⟨cl,t,fr,c,by rcases d with rfl|rfl<;>simp[HZ]⟩
 ·obtain⟨cl,t,fr,c,d⟩:=h k e;exact⟨cl,t,fr,c,by rcases d with rfl|rfl<;>simp[BR]⟩
 ·obtain⟨cl,t,fr,c,d⟩:=h k e;obtain⟨l,o,n,f,g⟩:=i.own_ty j;rw[c]at f;simp at f;obtain⟨_,rfl,_⟩:=f;rcases d with rfl|rfl<;>simp at g
theorem infoLs:(prog.info? 156).map (fun i=>(i.zero,i.size,i.bytes))=some (some (.agg #[.pointer none,Nl,Nl,Nl,Nl,Vi 0,Vi 0,Nl,Nl,Nl,Nl,Vi 0]),12,224):=by kernel_rfl
theorem XC(p:Oa)(s:SC)(cl al b d:Nat)(st c:Int):∀u∈(#[Value.pointer p,.slice s.la cl s.lc,.slice s.aa al s.ac,.slice s.na b s.nc,.slice s.da d s.dc,Vi st,Vi c,.slice s.f0a s.f0l s.f0c,.slice s.f1a s.f1l s.f1c,.slice s.f2a s.f2l s.f2c,.slice s.f3a s.f3l s.f3c,Vi s.f4]:Av).toList,u.oneCell'=true:=by
 intro u a;simp at a;rcases a with rfl|rfl|rfl|rfl|rfl|rfl|rfl|rfl|rfl|rfl|rfl|rfl<;>rfl
def Ei(w:World)(B bW:Nat)(v1 v2:Value)(N:Nat)(e:Ending)(w':World):Prop:=e= .returned (.bool true)/\BF B w w'/\∃(es:List Ee)(la:Oa)(lc:Nat),es.length<=N/\CQ w' B bW v1 v2 es la lc
theorem CQ.more{O p:Value}{a:List Ee}{la n:Oa}{lc o:Nat}{e:Ee}(h:CQ w B bW O p a la lc)(ag:B<=bW)(U:FY (Ak p) w B e)(hn:∀(i:Nat)(f:Ee),a[i]?=some f->∀k,CK f.b f.x k->¬CK e.b e.x k)
  (ha:Ar w B 156 12 (.slice la a.length lc) (a.length+1) (CZ a++e.row) (.slice n (a.length+1) o) w'):BF B w (w'.setCell ⟨bW,0,none⟩ (.slice n (a.length+1) o))/\CQ (w'.setCell ⟨bW,0,none⟩ (.slice n (a.length+1) o)) B bW O p (a++[e]) n o:=by
 have J:=Ab h.box;have T:¬Ak (.slice la a.length lc) bW:=fun c=>by
  rcases h.row.2 with⟨e,_⟩|⟨g,G,H,e,_,m,_⟩
  ·rw[Ak,e]at c;simp[Value.ownBlock]at c
  ·rw[Ak,e]at c;simp[Value.ownBlock]at c;subst c;rw[h.box]at m;simp at m
 have D:=(ha.kept.block bW J T).trans h.box;have A:∀k,Ak (.slice la a.length lc) k->∃cl t fr,w.heap[k]?=some (.cells cl t fr)/\Ht t:=fun k c=>by
  rcases h.row.2 with⟨e,_⟩|⟨g,G,H,e,_,m,_⟩
  ·rw[Ak,e]at c;simp[Value.ownBlock]at c
  ·rw[Ak,e]at c;simp[Value.ownBlock]at c;subst c;exact⟨_,_,_,m,Or.inr rfl⟩
 obtain⟨Y,Z,aa⟩:=No A;have C:∀k,only bW k->∃cl t fr,w'.heap[k]?=some (.cells cl t fr)/\Ht t:=fun k c=>by
  have c:k=bW:=c;subst c;exact⟨_,_,_,D,Or.inl rfl⟩
 obtain⟨ab,ac,ad⟩:=No C;have s:Ad (only bW) w' (w'.setCell ⟨bW,0,none⟩ (.slice n (a.length+1) o)):=(Ad.refl _ _).put 0 _;have M:∀f,FY (Ak p) w B f->FY (Ak p) (w'.setCell ⟨bW,0,none⟩ (.slice n (a.length+1) o)) B f:=fun f d=>by
  have q:=d.keep ha.kept Y Z (aa d.code);exact q.keep s ab ac (ad q.code)
 have L:(a++[e]).length=a.length+1:=Ys
 have F:w'.ownsRow B 156 12 (.slice n (a.length+1) o) (a.length+1) (CZ (a++[e])):=by
  rw[Rh];simpa[CZ]using ha.owns
 refine⟨(Ku ha.kept (by have:=J;omega) (fun k l=>(h.row.lt k l).1) (Ht.ne A)).trans (Ku s (by have:=ha.kept.size;omega) (fun k l=>by have:k=bW:=l;omega) (Ht.ne C)),?_,?_,?_,?_,?_⟩
 ·rw[L];exact Af D 0 _
 ·rw[L];refine Aj F (fun k c=>s.block k (F.lt k c).2 (fun l=> ?_));have l:k=bW:=l;subst l;rcases F.2 with⟨e,_⟩|⟨g,G,H,e,_,m,_⟩
  ·rw[e]at c;simp[Value.ownBlock]at c
  ·rw[e]at c;simp[Value.ownBlock]at c;subst c;rw[D]at m;simp at m
 ·intro i f d;rcases QB i a.length with hi|hi
  ·rw[Qc hi]at d;exact M f (h.all i f d)
  ·rw[Qd hi]at d;have:i-a.length=0:=by
    have:=(Qa.1 d).1;simp at this;omega
   rw[this]at d;simp at d;subst d;exact M e U
 ·intro i j f g V d m k l;have z:∀(i:Nat)(f:Ee),(a++[e])[i]?=some f->(i<a.length/\a[i]?=some f)\/(i=a.length/\f=e):=fun i f d=>by
   rcases QB i a.length with hi|hi
   ·rw[Qc hi]at d;exact Or.inl ⟨hi,d⟩
   ·rw[Qd hi]at d;have hl:=(Qa.1 d).1;simp at hl;have:i-a.length=0:=Yo
    rw[this]at d;simp at d;exact Or.inr ⟨Yo,d.symm⟩
  rcases z i f d with⟨hi,K⟩|⟨hi,P⟩
  ·rcases z j g m with⟨c,E⟩|⟨c,I⟩
   ·exact h.apart i j f g V K E k l
   ·rw[I];exact hn i f K k l
  ·rw[P]at l;rcases z j g m with⟨c,E⟩|⟨c,I⟩
   ·exact fun W=>hn j g E k W l
   ·omega
 ·have v:∀{S:Np}{u N:World},L8 (Ak p) u->Ad S u N->(∀k,S k->∃cl t fr,u.heap[k]?=some (.cells cl t fr)/\Ht t)->L8 (Ak p) N:=fun v l R k Q=>by
   obtain⟨cl,fr,q⟩:=v k Q;exact⟨cl,fr,(l.block k (Ab q) (fun X=>by
    obtain⟨ae,t,af,y,r⟩:=R k X;rw[q]at y;simp at y;obtain⟨_,rfl,_⟩:=y;rcases r with r|r<;>simp at r)).trans q⟩
  exact v (v h.xok ha.kept A) s C
theorem RP{ae Z:Value}(w:World)(B A:Nat)(j:List Ee)(la:Oa)(lc:Nat)(h:CQ w B A ae Z j la lc)(bo:B<=A)(br:j.length<=2000000)(kd n m:Int)(p q x:ByteArray)(ao:p.size<=maxLen)(ap:q.size<=maxLen):
  Calls prog 87 #[Pt A,.agg #[Vi kd,Vi n,Vi m,.string p,.string q,.string x]] w (Ei w B A ae Z (j.length+1)):=by
 have ca:=Ab h.box;obtain⟨ac,T⟩:=Ex (w.alloc (.cells #[Vi kd,Vi n,Vi m,.string p,.string q,.string x] 78));have ay:Ao w ac:=by rw[T];exact Mxt
 have cb:ac.hz=w.hz+1:=by rw[T];simp
 have av:ac.heap[w.hz]?=some (.cells #[Vi kd,Vi n,Vi m,.string p,.string q,.string x] 78 (0,0)):=by rw[T];exact QL w _
 have bd:=hd (UJ p q ac ao ap);have af:=hd (fun u (bt:Ao w u)=>ST p q u (h.xok.ext bt) ao ap);have bf:=hd ay;have bc:=hd av;have bi:=hd T;have O:=hd h;clear h ay av T ao ap;go_enter func87,ntmps87;go_wp2_with fail;rw[<-bi.o];apply bd.o.mono;rintro e w1 ⟨ad,a4⟩;have cc:=ad.size;obtain⟨bv,bw,bx,bz,b0,b1,b2⟩:=IE ((ad.block _ Yo).trans bc.o);have a0:Ao w w1:=bf.o.trans (ad.mono Yo);have t:=hd a0;have ag:=hd a4;clear ad a0;rcases a4 with⟨W,rfl⟩|⟨⟨cs,Y⟩,W,rfl⟩|⟨cs,a,b,aq,Y,a3,rfl,a7,ax⟩
 ·clear ag;have ab:=hd W;clear W;go_wp2_with fail;apply(af.o _ t.o).mono;rintro e w2 ⟨E,X⟩;have P:=hd E;clear E;rcases X with⟨l,rfl⟩|⟨⟨d,r⟩,l,rfl⟩|⟨d,c,s2,r,_,rfl,_⟩
  ·clear l;go_wp2;go_ret;have R:Ao w (w2.alloc (.cells #[Nl,Nl,Nl,Nl,Vi 0,Vi 0,Nl,Nl,Nl,Nl,Vi 0] 154)):=(t.o.trans (P.o.mono t.o.size)).trans ((Mxt:Ao w2 (w2.alloc _)).mono (by have:=t.o.size;have:=P.o.size;omega));exact⟨rfl,FF R Yo,j,la,lc,Yo,O.o.ext R⟩
  ·have:=ab.o;rw[this]at r;simp at r
  ·have:=ab.o;rw[this]at r;simp at r
 ·clear ag;have ab:=hd W;have Q:=hd Y;clear W Y;go_wp2_with fail;apply(af.o _ t.o).mono;rintro e w2 ⟨E,X⟩;have P:=hd E;clear E;rcases X with⟨l,rfl⟩|⟨⟨d,r⟩,l,rfl⟩|⟨d,c,s2,r,K,rfl,_⟩
  ·have:=Q.o;rw[this]at l;simp at l
  ·clear l r;go_wp2;go_ret;have R:Ao w (w2.alloc (.cells #[Nl,Nl,Nl,Nl,Vi 0,Vi 0,Nl,Nl,Nl,Nl,Vi 0] 154)):=(t.o.trans (P.o.mono t.o.size)).trans ((Mxt:Ao w2 (w2.alloc _)).mono (by have:=t.o.size;have:=P.o.size;omega));exact⟨rfl,FF R Yo,j,la,lc,Yo,O.o.ext R⟩
  ·have:=ab.o;rw[this]at K;simp at K
 ·clear ag;have Q:=hd Y;have aa:=hd a3;have ah:=hd a7;have be:=hd ax;clear Y a3 a7 ax;go_wp2_with fail;apply(af.o _ t.o).mono;rintro e w2 ⟨E,X⟩;have bs:=E.size;rcases X with⟨l,rfl⟩|⟨⟨d,r⟩,l,rfl⟩|⟨d,c,s2,r,K,rfl,a1⟩
  ·have:=Q.o;rw[this]at l;simp at l
  ·have:=aa.o;rw[this]at l;simp at l
  ·obtain rfl:d=cs:=by have:=Q.o;rw[this]at r;simpa using r.symm
   obtain rfl:c=a:=by have:=aa.o;rw[this]at K;simpa using K.symm
   obtain⟨G,H,y,z,I,J,C,D,f0a,f0l,f0c,f1a,f1l,f1c,f2a,f2l,f2c,f3a,f3l,f3c,f4⟩:=s2;obtain⟨_,_,_,_,_,_,am,_,_⟩:=Cs aa.o;obtain⟨a9,ba,b3⟩:=MN (cs:=d) am;obtain⟨s,S⟩:=Ex (w2.alloc (.cells #[.slice G d.length H,.slice y c.1.length z,.slice I c.2.length J,.slice C 1 D,Vi 0,Vi 0,.slice f0a f0l f0c,.slice f1a f1l f1c,.slice f2a f2l f2c,.slice f3a f3l f3c,Vi f4] 154));have aj:Ao w2 s:=by rw[S];exact Mxt
   have cd:s.hz=w2.hz+1:=by rw[S];simp
   have aw:s.heap[w2.hz]?=some (.cells #[.slice G d.length H,.slice y c.1.length z,.slice I c.2.length J,.slice C 1 D,Vi 0,Vi 0,.slice f0a f0l f0c,.slice f1a f1l f1c,.slice f2a f2l f2c,.slice f3a f3l f3c,Vi f4] 154 (0,0)):=by rw[S];exact QL w2 _
   have ai:Ao w1 s:=E.trans (aj.mono bs);have ak:Ao w s:=t.o.trans (ai.mono t.o.size);have F:=O.o.ext ak;have az:FY (Ak Z) s B ⟨b,aq,⟨G,H,y,z,I,J,C,D,f0a,f0l,f0c,f1a,f1l,f1c,f2a,f2l,f2c,f3a,f3l,f3c,f4⟩,[(AN c,0)],p,q,d,c,Kn d c⟩:=⟨be.o.ext ai,a1.ext aj,DG.new d am,Q.o,aa.o,fun k V=>by have:=ah.o k (Or.inl V);omega,fun _ k V bu=>by have bm:=ah.o k (Or.inr V);have bn:=O.o.xok.lt bu;omega⟩;have a8:(⟨b,aq,⟨G,H,y,z,I,J,C,D,f0a,f0l,f0c,f1a,f1l,f1c,f2a,f2l,f2c,f3a,f3l,f3c,f4⟩,[(AN c,0)],p,q,d,c,Kn d c⟩:Ee).row=[Pt b,.slice G d.length H,.slice y c.1.length z,.slice I c.2.length J,.slice C 1 D,Vi 0,Vi 0,.slice f0a f0l f0c,.slice f1a f1l f1c,.slice f2a f2l f2c,.slice f3a f3l f3c,Vi f4]:=by simp[Ee.row,SC.cells,a9,ba]
   have ar:Hd (∀w3 M N,Ar (s.drewN 1) B 156 12 (.slice la j.length lc) (j.length+1) (CZ j++[Pt b,.slice G d.length H,.slice y c.1.length z,.slice I c.2.length J,.slice C 1 D,Vi 0,Vi 0,.slice f0a f0l f0c,.slice f1a f1l f1c,.slice f2a f2l f2c,.slice f3a f3l f3c,Vi f4]) (.slice M (j.length+1) N) w3->(w3.heap[A]?=some (.cells #[.slice la j.length lc,ae,Z] 76 (0,0)))/\Ei w B A ae Z (j.length+1) (.returned (.bool true)) (w3.setCell ⟨A,0,none⟩ (.slice M (j.length+1) N))):=fun w3 M N v=>by
    have a2:Ar s B 156 12 (.slice la j.length lc) (j.length+1) (CZ j++(⟨b,aq,⟨G,H,y,z,I,J,C,D,f0a,f0l,f0c,f1a,f1l,f1c,f2a,f2l,f2c,f3a,f3l,f3c,f4⟩,[(AN c,0)],p,q,d,c,Kn d c⟩:Ee).row) (.slice M (j.length+1) N) w3:=⟨by rw[a8];exact v.owns,⟨v.kept.os,v.kept.tape,v.kept.output,v.kept.size,v.kept.block⟩,v.where_⟩;obtain⟨bk,bl⟩:=F.more bo az (fun i f bp k V bq=>by
     have bm:=(O.o.all i f bp).code.own_lt V;have bn:=ah.o k (Or.inl bq);omega) a2
    refine⟨?_,rfl,(FF ak Yo).trans bk,_,M,N,Ys,bl⟩;refine(a2.kept.block A (Ab F.box) (fun U=> ?_)).trans F.box;rcases F.row.2 with⟨e,_⟩|⟨g,b4,b5,e,_,a6,_⟩
    ·rw[Ak,e]at U;simp[Value.ownBlock]at U
    ·rw[Ak,e]at U;simp[Value.ownBlock]at U;subst U;rw[F.box]at a6;simp at a6
   have au:=hd F.row;have bj:=Aa F.box 0 _ rfl;have cf:=fun i=>Ae F.box i;obtain⟨cg,ch,cj,ck,cl,cm,cn,co,cp,cq,ci,cr⟩:=Dz aw;have bh:=hd S;obtain⟨L,al⟩:=Ex j.length;rw[<-al]at ar au bj br;have bg:=hd al;have b8:B<=s.hz:=Yo
   have b9:A<w2.hz:=Yo
   clear E a1 aj aw ai ak F az a8 S a9 ba b3 am r K al bv bw bx bz b0 b1 b2;simp only[SC.val];go_wp2_with fail;rw[<-bh.o]
   go_region_law (refine BC (s.drewN 1) rfl (.tmp 41) (.tmp 45) 73 rfl B 156 infoLs underlying73 rfl Yd (.slice la L lc) L (CZ j) rfl au.o #[Pt b,.slice G d.length H,.slice y c.1.length z,.slice I c.2.length J,.slice C 1 D,Vi 0,Vi 0,.slice f0a f0l f0c,.slice f1a f1l f1c,.slice f2a f2l f2c,.slice f3a f3l f3c,Vi f4] rfl (by show _=s.hz;omega) rfl (XC _ ⟨G,H,y,z,I,J,C,D,f0a,f0l,f0c,f1a,f1l,f1c,f2a,f2l,f2c,f3a,f3l,f3c,f4⟩ _ _ _ _ _ _) Yo (by show B<=s.hz;omega) rfl ?_;intro ce w3 v;obtain⟨M,N,rfl⟩:=Ac v.owns;obtain⟨an,a5⟩:=ar.o _ _ _ v;have b6:=Aa an 0 _ rfl;have b7:=fun i=>Ae an i;have bb:=hd a5;clear v an a5)
   all_goals
    go_wp2;go_ret;rw[<-bg.o];exact bb.o
theorem KW(c n:Int)(w:World)(g: -9223372036854775808<=c/\c<9223372036854775808)(hn:0<n/\n<9223372036854775808):
  Calls prog 88 #[Vi c,Vi n] w fun e w'=>∃r:Nat,(r:Int)<n/\e= .returned (Vi r)/\w'=w:=by
 have b:¬n=0:=Yo
 obtain⟨h,i⟩:=g;obtain⟨d,j⟩:=hn
 by_cases h0:c<0
 ·go_enter func88,ntmps88;go_wp2;go_ret;have e: -((c+1).tmod n)=(-(c+1))%n:=by rw[<-Int.neg_tmod,Int.tmod_eq_emod_of_nonneg Yo]
  have a:=Int.emod_nonneg (-(c+1)) b;have f:=Int.emod_lt_of_pos (-(c+1)) d;refine⟨((-(c+1))%n).toNat,Yo,?_,rfl⟩;rw[Int.toNat_of_nonneg a,<-e];rfl
 ·go_enter func88,ntmps88;go_wp2;go_ret;have a:=Int.emod_nonneg c b;have f:=Int.emod_lt_of_pos c d;refine⟨(c%n).toNat,Yo,?_,rfl⟩;rw[Int.toNat_of_nonneg a];rfl
theorem CQ.cell{n o:Value}{d:List Ee}{la:Oa}{lc:Nat}(h:CQ w B bW n o d la lc){e:Ee}(c:d[k]?=some e):∃lb,la=some ⟨lb,0,none⟩/\lb<w.hz/\(∀i,w.frozen? ⟨lb,i,none⟩=false)/\w.cell? ⟨lb,k*12,none⟩=some (Pt e.b)/\
  ∀j v,(e.s.cells e.cs.length e.a.1.length e.a.2.length e.D.length e.m.status e.m.tries).toList[j]?=some v->w.cell? ⟨lb,k*12+(j+1),none⟩=some v:=by
 have q:=(Qa.1 c).1;obtain⟨lb,r,t,g,_,f,_⟩:=An h.row Yo;simp only[QH]at g;obtain⟨rfl,_,rfl⟩:=g;refine⟨lb,rfl,Ab f,fun i=>Ae f i,?_,fun j v l=> ?_⟩
 ·have:=Ag h.row (k*12+0) _ ((Ij c 0 Yo).trans rfl);simpa using this
 ·have p:j<11:=by
   have:=(Qa.1 l).1;simpa[SC.cells]using this
  exact Ag h.row _ _ ((Ij c (j+1) Yo).trans (by simpa[Ee.row]using l))
theorem FY.inv1{e:Ee}(h:FY X w B e):(e.m.status=1->e.m.found.vals.length=e.a.2.length/\∀k∈e.m.found.used,k<24)/\(e.m.status=2->HY e.cs (AN e.a) e.m.tree/\e.m.tree.length<=1000000):=by
 obtain⟨_,_,_,_,g⟩:=CA h.prog;refine⟨fun b=>⟨(h.inv.found b).2.1,fun k f=>by have:=(h.inv.found b).2.2 k f;omega⟩,fun d=>⟨?_,?_⟩⟩
 ·have c:=h.inv.tree Yo;rw[h.inv.no d]at c;exact c
 ·have:=h.inv.len;have:=h.inv.tries;omega
theorem PJ{bd be:Value}(w:World)(B G:Nat)(l:List Ee)(la:Oa)(lc:Nat)(h:CQ w B G bd be l la lc)(bj:B<=G)(k:Nat)(ad:k<l.length)(n:Int)(hn: -9223372036854775808<=n/\n<9223372036854775808)(a3:l.length<=2000000):
  Calls prog 90 #[Pt G,Vi k,Vi n] w fun e w'=>e= .returned (.bool true)/\Ao w w':=by
 obtain⟨y,Q⟩:∃y,l[k]?=some y:=⟨_,Qb ad⟩;obtain⟨lb,rfl,bm,bn,an,c⟩:=h.cell Q;have i:=h.all k y Q;obtain⟨_,_,_,Z,P⟩:=CA i.prog;obtain⟨ab,ac⟩:=i.inv1;have O:=h.box;have ah:=Aa O 0 _ rfl;have bk:=Ab O;have s:=i.code;have N:=i.inv;have V:=i.ref.ref;have K:=i.ask;clear i;obtain⟨b,A,ag,D,p,q,cs,a,m⟩:=y;simp only at*;obtain⟨F,W⟩:=Ex (Dx a m.status m.found m.tree);have j:=hd (fun u (g:Ao w u)=>V4 u ag cs q a D m.status m.tries m.found m.tree (V.ext g) Z P K ab ac);have E:=hd (fun u (g:Ao w u)=>Pl u b A cs a m (s.ext g));have t:=hd (fun u (g:Ao w u)=>Pd u b A cs q a m (s.ext g) N K);have x:=hd (fun u (g:Ao w u)=>NZ u b A cs a m (s.ext g) N P);have v:=hd (fun u (g:Ao w u)=>TF u b A cs a m (s.ext g));rw[<-W]at j t x v;obtain⟨bf,H⟩:=Ex F.1;obtain⟨bg,I⟩:=Ex F.2.1;obtain⟨bh,J⟩:=Ex F.2.2;rw[<-H,<-I,<-J]at j;rw[<-H]at t;rw[<-I]at x;rw[<-J]at v;obtain⟨a7,a8,ak,am,a9,ba,a1,a2,f0a,f0l,f0c,f1a,f1l,f1c,f2a,f2l,f2c,f3a,f3l,f3c,f4⟩:=ag;simp only[SC.val]at j;simp only[SC.cells]at c;obtain⟨st,R⟩:∃f,f=m.status:=⟨_,rfl⟩;obtain⟨bc,af⟩:∃f,f=m.tries:=⟨_,rfl⟩;obtain⟨cl,Y⟩:∃f,f=cs.length:=⟨_,rfl⟩;obtain⟨al,X⟩:∃f,f=a.1.length:=⟨_,rfl⟩;obtain⟨bb,ae⟩:∃f,f=a.2.length:=⟨_,rfl⟩;obtain⟨dl,aa⟩:∃f,f=D.length:=⟨_,rfl⟩;rw[<-R,<-af,<-Y,<-X,<-ae,<-aa]at j c;rw[<-R]at E;have ao:=c 0 _ rfl;have ar:=c 1 _ rfl;have au:=c 2 _ rfl;have av:=c 3 _ rfl;have aw:=c 4 _ rfl;have ax:=c 5 _ rfl;have ay:=c 6 _ rfl;have az:=c 7 _ rfl;have a0:=c 8 _ rfl;have ap:=c 9 _ rfl;have aq:=c 10 _ rfl;have aj:=hd (fun u=>KW n 5 u hn ⟨Yd,Yd⟩);obtain⟨L,U⟩:=Ex l.length;rw[<-U]at ah ad a3;have bl:(k:Int)<(L:Int):=Yo
 clear h Q c O s N V K Z ab ac W H I J R af Y X ae aa U P;go_enter func90,ntmps90;go_wp2_with fail;apply(j.o _ Mxt).mono;rintro e w1 ⟨rfl,z⟩;have a6:=z.size;simp at a6;have M:w1.heap[w.hz]?=some (.cells #[.slice a7 cl a8,.slice ak al am,.slice a9 bb ba,.slice a1 dl a2,Vi st,Vi bc,.slice f0a f0l f0c,.slice f1a f1l f1c,.slice f2a f2l f2c,.slice f3a f3l f3c,Vi f4] 154 (0,0)):=(z.block _ Ys).trans (QL w _);obtain⟨bq,br,bt,bu,bv,bw,bx,bz,b0,b1,bs,b2⟩:=Dz M;have d:Hd (Ao w w1):=(Mxt:Ao w (w.alloc _)).trans (z.mono Ys);have bo:w.hz<w1.hz:=Yo
 have bi:=hd M;clear z M an ao ar au av aw ax ay az a0 ap aq ah;go_wp2_with fail;apply(aj.o _).mono;rintro e w2 ⟨r,a4,rfl,rfl⟩;have a5:r=0\/r=1\/r=2\/r=3\/r=4:=Yo
 clear a4;rcases a5 with rfl|rfl|rfl|rfl|rfl
 ·go_wp2_with fail;apply(E.o _ d.o).mono;rintro e w3 ⟨rfl,rfl⟩;go_wp2;go_ret;exact⟨rfl,d.o⟩
 ·go_wp2_with fail;apply(t.o _ d.o).mono;rintro e w3 ⟨rfl,S⟩;have ai:=hd S;clear S;go_wp2;go_ret;exact⟨rfl,d.o.trans (ai.o.mono d.o.size)⟩
 ·go_wp2_with fail;apply(x.o _ d.o).mono;rintro e w3 ⟨rfl,rfl⟩;go_wp2;go_ret;exact⟨rfl,d.o⟩
 ·go_wp2_with fail;apply(v.o _ d.o).mono;rintro e w3 ⟨rfl,rfl⟩;go_wp2;go_ret;exact⟨rfl,d.o⟩
 ·go_wp2_with fail;apply(E.o _ d.o).mono;rintro e w3 ⟨rfl,rfl⟩;go_wp2_with fail;apply(t.o _ d.o).mono;rintro e w4 ⟨rfl,T⟩;have C:=hd (d.o.trans (T.mono d.o.size));clear T;go_wp2_with fail;apply(x.o _ C.o).mono;rintro e w5 ⟨rfl,rfl⟩;go_wp2_with fail;apply(v.o _ C.o).mono;rintro e bp ⟨rfl,rfl⟩;go_wp2;go_ret;exact⟨rfl,C.o⟩
def VS(cs:Lc)(a:Ll×At)(m:SN)(n:Int)(made err:Nat)(m':SN):Prop:=DG cs a m'/\
 (∀(u:World)(b:Nat)(x:CX),Dj u b x cs a m->Calls prog 54 #[.pointer (some ⟨b,0,none⟩),.int .i64 n] u fun e u'=>e= .returned (.tuple #[.int .i64 made,.int .i64 err])/\∃x',Ad (CK b x) u u'/\Dj u' b x' cs a m'/\NE u x x' m m')/\
 (∀(Z:Np)(u:World)(s:SC)(D:Ln),BK Z u s cs a D m->Calls prog 89 #[s.val cs.length a.1.length a.2.length D.length m.status m.tries,.int .i64 n] u fun e u'=>∃(s':SC)(D':Ln),e= .returned (.tuple #[s'.val cs.length a.1.length a.2.length D'.length m'.status m'.tries,.int .i64 made,.int .i64 err])/\Ao u u'/\BK Z u' s' cs a D' m')
theorem TB{p:ByteArray}(d:DG cs a m)(q:BD p=some cs)(n:Int)(hn: -9223372036854775808<=n/\n<9223372036854775808):∃y err w,VS cs a m n y err w:=by
 obtain⟨_,_,_,o,i⟩:=CA q;have t:=LX q
 by_cases hb:n<0\/3000<n
 ·refine⟨0,8,m,d,fun u b x h=> ?_,fun l u s D h=> ?_⟩
  ·apply(Uh u b n hb hn).mono;rintro e j ⟨rfl,rfl⟩;exact⟨rfl,x,Ad.refl _ _,h,NE.refl _ _ _⟩
  ·apply(Pq u s _ _ _ _ _ _ n hb hn).mono;rintro e j ⟨rfl,c⟩;exact⟨s,D,rfl,c,h.ext c⟩
 ·obtain⟨k,v⟩:∃k:Nat,n=(k:Int):=⟨n.toNat,Yo⟩;subst v;have f:k<=3000:=Yo
  by_cases g:m.status=2\/m.status=3
  ·refine⟨0,0,m,d,fun u b x h=> ?_,fun l u s D h=> ?_⟩
   ·apply(Sf u b x cs a m k h f g).mono;rintro e j ⟨rfl,rfl⟩;exact⟨rfl,x,Ad.refl _ _,h,NE.refl _ _ _⟩
   ·apply(NM u s _ _ _ _ _ _ k f g).mono;rintro e j ⟨rfl,c⟩;exact⟨s,D,rfl,c,h.ext c⟩
  ·have r:m.status≠2/\m.status≠3:=⟨fun h=>g (Or.inl h),fun h=>g (Or.inr h)⟩;exact⟨(Fl cs k m).2,0,(Fl cs k m).1,d.step i,fun u b x h=>Vb u b x cs a m k h d o t i f r,fun l u s D h=>Rf u s cs a D m k h d o i f r⟩
theorem BK.on_heap{p:Np}{s:SC}{D:Ln}(h:BK p w s cs a D m)(o:∀k,k<w.hz->¬p k->w'.heap[k]?=w.heap[k]?)(F:∀k,k<w.hz->Y k->p k)(K:L8 Y w'):BK Y w' s cs a D m:=by
 obtain⟨xs,j⟩:=h.ref.cls;obtain⟨C,l⟩:=h.ref.dues;obtain⟨zs,J⟩:=h.ref.ask.atoms;have E:=h.ref.xok;have r:∀k,k<w.hz->¬(fun _:Nat=>False) k->CG w k->w'.heap[k]?=w.heap[k]?/\¬(fun _:Nat=>False) k:=fun k f j l=>⟨o k f (E.terms k f j l).2,fun h=>h⟩;have q:∀{B e size n:Nat}{v:Value}{xs:Lv},w.ownsRow B e size v n xs->e≠3->w'.ownsRow B e size v n xs:=fun t N=>Aj t (fun k f=>o k (t.lt k f).2 (E.own t N k f));refine⟨⟨⟨xs,q j.owns Yd,fun i c L=> ?_⟩,⟨⟨zs,J.on r⟩,q h.ref.ask.names Yd⟩,⟨C,q l.owns Yd,fun i d hd=> ?_⟩,fun M=>(h.ref.found M).on o F,K⟩,h.trim,h.len,h.next⟩
 ·obtain⟨a,b,d,G,C,u,x,y,z,A,H,I⟩:=j.all i c L;exact⟨a,b,d,G,C,u,x,y,z,A,H.on r,I.on r⟩
 ·obtain⟨O,P,Q,R,S,u,x,y,z,A,T,g⟩:=l.all i d hd;exact⟨O,P,Q,R,S,u,x,y,z,A,T,g.on o F⟩
theorem BK.off_heap{b:Np}{u y:World}{s:SC}{D:Ln}(h:BK b u s cs a D m)(d:DC X u)(e:∀k,k<u.hz->¬X k->y.heap[k]?=u.heap[k]?)(g:u.hz<=y.hz):BK b y s cs a D m:=by
 have f:Ad X u {y with os:=u.os,tape:=u.tape,output:=u.output}:=⟨rfl,rfl,rfl,g,e⟩;have c:=h.keep f d;exact c.on_heap (fun _ _ _=>rfl) (fun _ _ h=>h) c.ref.xok
def MS(Z:Np)(cs:Lc)(a:Ll×At)(m':SN)(made err:Nat)(X:Np)(v:Value)(u:World):Prop:=∃(s':SC)(D':Ln),v= .tuple #[s'.val cs.length a.1.length a.2.length D'.length m'.status m'.tries,.int .i64 made,.int .i64 err]/\∀y:World,(∀k,k<u.heap.size->¬X k->y.heap[k]?=u.heap[k]?)->u.heap.size<=y.heap.size->BK Z y s' cs a D' m'
theorem MS.stable{d:Np}{f:SN}{g err:Nat}:∀X c v u b,MS d cs a f g err X v u->(∀k,k<u.hz->¬X k->b.heap[k]?=u.heap[k]?)->u.hz<=b.hz->(∀k,k<u.hz->c k->X k)->MS d cs a f g err c v b:=by
 rintro X c v u b ⟨p,i,rfl,h⟩ hb l n;refine⟨p,i,rfl,fun y o m=>h y (fun k e hn=> ?_) (Qq l m)⟩;exact(o k Yo (fun j=>hn (n k e j))).trans (hb k e hn)
def SX(W:World)(V:Value->Prop)(Q:Value->World->Prop):Lv->World->Prop
 |[],y=>y=W
 |[v],y=>V v/\Q v y
 |_,_=>False
theorem SX.at{a:World}{V:Value->Prop}{b:Value->World->Prop}{y:World}(h:SX a V b vs y):vs.length<=0->y=a:=by
 match vs,h with
 |[],h=>exact fun _=>h
 |[v],h=>exact fun h=>by simp at h
structure JC(w:World)(B bW:Nat)(v1 v2:Value)(es:List Ee)(la:Option Addr)(lc k:Nat)(e:Ee)(x1:CX)(m1:SN):Prop where
 box:w.heap[bW]?=some (.cells #[.slice la es.length lc,v1,v2] 76 (0,0))
 row:w.ownsRow B 156 12 (.slice la es.length lc) es.length (CZ es)
 rest:∀(i:Nat)(f:Ee),i≠k->es[i]?=some f->FY (Ak v2) w B f
 apart0:∀(i j:Nat)(f g:Ee),i≠j->es[i]?=some f->es[j]?=some g->∀l,CK f.b f.x l->¬CK g.b g.x l
 code:Dj w e.b x1 e.cs e.a m1
 ref:BK (Ak v2) w e.s e.cs e.a e.D e.m
 low:∀l,CK e.b x1 l->B<=l
 apart:∀(i:Nat)(f:Ee),i≠k->es[i]?=some f->∀l,CK f.b f.x l->¬CK e.b x1 l
 fx:m1.status=1->∀k,(∃p,x1.fa=some p/\p.block=k)->¬Ak v2 k
 xok:L8 (Ak v2) w
theorem JC.ext{d g:Value}{b:List Ee}{la:Oa}{lc:Nat}{e:Ee}{l:CX}{c:SN}(h:JC w B bW d g b la lc k e l c)(a:Ao w w'):JC w' B bW d g b la lc k e l c:=
 ⟨(a.block _ (Ab h.box)).trans h.box,Aj h.row (fun j n=>a.block j (h.row.lt j n).2),fun i f hi m=>(h.rest i f hi m).ext a,h.apart0,h.code.ext a,h.ref.ext a,h.low,h.apart,h.fx,h.xok.ext a⟩
theorem CQ.mid{F G:Value}{u:List Ee}{la:Oa}{lc:Nat}{e:Ee}{C:CX}{A:SN}(h:CQ w B bW F G u la lc)(n:u[k]?=some e)(I:B<=w.hz)(o:Ad (CK e.b e.x) w w')(J:Dj w' e.b C e.cs e.a A)(y:NE w e.x C e.m A):BF B w w'/\JC w' B bW F G u la lc k e C A:=by
 have d:=h.all k e n;have z:DC (CK e.b e.x) w:=fun l hl=>by
  obtain⟨cl,t,fr,c,r⟩:=d.code.own_ty hl;exact⟨cl,t,fr,c,by rcases r with rfl|rfl<;>simp[HZ]⟩
 have K:=d.code.offS;have D:∀{l:Nat}{cl:Av}{t:TypeId}{fr:Nat×Nat},w.heap[l]?=some (.cells cl t fr)->Ht t->¬CK e.b e.x l:=fun{l cl t fr} c r M=>by
  obtain⟨P,T,R,v,H⟩:=d.code.own_ty M;rw[c]at v;simp at v;obtain⟨_,rfl,_⟩:=v;rcases r with rfl|rfl<;>simp at H
 refine⟨Ku o I (fun l hl=>d.low l hl) (fun l hl=>by
  obtain⟨cl,t,fr,c,r⟩:=d.code.own_ty hl;exact⟨cl,t,fr,c,by rcases r with rfl|rfl<;>decide⟩),(o.block _ (Ab h.box) (D h.box (Or.inl rfl))).trans h.box,Aj h.row (fun j q=>o.block j (h.row.lt j q).2 ?_),fun i f hi p=> ?_,h.apart,J,d.ref.keep o z,fun l hl=> ?_,fun i f hi p l hl s=> ?_,fun N k n E=>y.2.elim (fun c=>d.fx (c.2▸N) k (c.1▸n) E) (fun c=>by have:=c k n;have:=h.xok.lt E;omega),(d.ref.keep o z).ref.xok⟩
 ·rcases h.row.2 with⟨e,_⟩|⟨g,O,Q,e,_,L,_⟩
  ·rw[e]at q;simp[Value.ownBlock]at q
  ·rw[e]at q;simp[Value.ownBlock]at q;subst q;exact D L (Or.inr rfl)
 ·exact(h.all i f p).keep o z K (fun l hl s=>h.apart i k f e hi p n l hl s)
 ·rcases hl with rfl|hl
  ·exact d.low _ (Or.inl rfl)
  ·rcases y.1.1 l hl with c|c
   ·exact d.low l (Or.inr c)
   ·omega
 ·have S:=(h.all i f p).code.own_lt hl;rcases s with rfl|s
  ·exact h.apart i k f e hi p n _ hl (Or.inl rfl)
  ·rcases y.1.1 l s with c|c
   ·exact h.apart i k f e hi p n l hl (Or.inr c)
   ·omega
theorem RQ{lb:Nat}(h:w.ownsRow B e size (.slice (some ⟨lb,0,none⟩) n cap) n xs)(a b d f g i j l m o c:Value):(((((((((((w.setCell ⟨lb,k*12+1,none⟩ (a)).setCell ⟨lb,k*12+2,none⟩ (b)).setCell ⟨lb,k*12+3,none⟩ (d)).setCell ⟨lb,k*12+4,none⟩ (f)).setCell ⟨lb,k*12+5,none⟩ (g)).setCell ⟨lb,k*12+6,none⟩ (i)).setCell ⟨lb,k*12+7,none⟩ (j)).setCell ⟨lb,k*12+8,none⟩ (l)).setCell ⟨lb,k*12+9,none⟩ (m)).setCell ⟨lb,k*12+10,none⟩ (o)).setCell ⟨lb,k*12+11,none⟩ (c)).ownsRow B e size (.slice (some ⟨lb,0,none⟩) n cap) n (JM xs (k*12+1) [a,b,d,f,g,i,j,l,m,o,c])/\Ad (Ak (.slice (some ⟨lb,0,none⟩) n cap)) w (((((((((((w.setCell ⟨lb,k*12+1,none⟩ (a)).setCell ⟨lb,k*12+2,none⟩ (b)).setCell ⟨lb,k*12+3,none⟩ (d)).setCell ⟨lb,k*12+4,none⟩ (f)).setCell ⟨lb,k*12+5,none⟩ (g)).setCell ⟨lb,k*12+6,none⟩ (i)).setCell ⟨lb,k*12+7,none⟩ (j)).setCell ⟨lb,k*12+8,none⟩ (l)).setCell ⟨lb,k*12+9,none⟩ (m)).setCell ⟨lb,k*12+10,none⟩ (o)).setCell ⟨lb,k*12+11,none⟩ (c)):=by
 have h0:=BY h (k*12+1) a;have q:=BY h0 (k*12+2) b;have s:=BY q (k*12+3) d;have t:=BY s (k*12+4) f;have u:=BY t (k*12+5) g;have v:=BY u (k*12+6) i;have x:=BY v (k*12+7) j;have y:=BY x (k*12+8) l;have z:=BY y (k*12+9) m;have A:=BY z (k*12+10) o;have r:=BY A (k*12+11) c;refine⟨r,?_⟩;exact((((((((((((Ad.refl _ w).setCell (p:=⟨lb,k*12+1,none⟩) (fun _=>(rfl:some lb=some lb)) a).setCell (p:=⟨lb,k*12+2,none⟩) (fun _=>(rfl:some lb=some lb)) b).setCell (p:=⟨lb,k*12+3,none⟩) (fun _=>(rfl:some lb=some lb)) d).setCell (p:=⟨lb,k*12+4,none⟩) (fun _=>(rfl:some lb=some lb)) f).setCell (p:=⟨lb,k*12+5,none⟩) (fun _=>(rfl:some lb=some lb)) g).setCell (p:=⟨lb,k*12+6,none⟩) (fun _=>(rfl:some lb=some lb)) i).setCell (p:=⟨lb,k*12+7,none⟩) (fun _=>(rfl:some lb=some lb)) j).setCell (p:=⟨lb,k*12+8,none⟩) (fun _=>(rfl:some lb=some lb)) l).setCell (p:=⟨lb,k*12+9,none⟩) (fun _=>(rfl:some lb=some lb)) m).setCell (p:=⟨lb,k*12+10,none⟩) (fun _=>(rfl:some lb=some lb)) o).setCell (p:=⟨lb,k*12+11,none⟩) (fun _=>(rfl:some lb=some lb)) c)
theorem JC.fin{U M:Value}{lb:Nat}{o:List Ee}{lc:Nat}{e:Ee}{r:CX}{n:SN}{s2:SC}{D2:Ln}(h:JC w B bW U M o (some ⟨lb,0,none⟩) lc k e r n)(Q:o[k]?=some e)(X:B<=w.hz)(ad:BD e.p=some e.cs)(ae:Cr e.q=some e.a)(Y:DG e.cs e.a n)(O:BK (Ak M) w s2 e.cs e.a D2 n){v y A C E F G H I J z:Value}(ag:(s2.cells e.cs.length e.a.1.length e.a.2.length D2.length n.status n.tries).toList=[v,y,A,C,E,F,G,H,I,J,z]):
  BF B w (((((((((((w.setCell ⟨lb,k*12+1,none⟩ (v)).setCell ⟨lb,k*12+2,none⟩ (y)).setCell ⟨lb,k*12+3,none⟩ (A)).setCell ⟨lb,k*12+4,none⟩ (C)).setCell ⟨lb,k*12+5,none⟩ (E)).setCell ⟨lb,k*12+6,none⟩ (F)).setCell ⟨lb,k*12+7,none⟩ (G)).setCell ⟨lb,k*12+8,none⟩ (H)).setCell ⟨lb,k*12+9,none⟩ (I)).setCell ⟨lb,k*12+10,none⟩ (J)).setCell ⟨lb,k*12+11,none⟩ (z))/\CQ (((((((((((w.setCell ⟨lb,k*12+1,none⟩ (v)).setCell ⟨lb,k*12+2,none⟩ (y)).setCell ⟨lb,k*12+3,none⟩ (A)).setCell ⟨lb,k*12+4,none⟩ (C)).setCell ⟨lb,k*12+5,none⟩ (E)).setCell ⟨lb,k*12+6,none⟩ (F)).setCell ⟨lb,k*12+7,none⟩ (G)).setCell ⟨lb,k*12+8,none⟩ (H)).setCell ⟨lb,k*12+9,none⟩ (I)).setCell ⟨lb,k*12+10,none⟩ (J)).setCell ⟨lb,k*12+11,none⟩ (z)) B bW U M (o.set k {e with x:=r,s:=s2,D:=D2,m:=n}) (some ⟨lb,0,none⟩) lc:=by
 obtain⟨af,u⟩:=RQ (k:=k) h.row v y A C E F G H I J z;have P:∀l,Ak (.slice (some ⟨lb,0,none⟩) o.length lc) l->∃cl t fr,w.heap[l]?=some (.cells cl t fr)/\Ht t:=fun l c=>by
  rcases h.row.2 with⟨e,_⟩|⟨g,V,W,e,_,d,_⟩
  ·simp at e
  ·rw[Ak,e]at c;simp[Value.ownBlock]at c;subst c;exact⟨_,_,_,d,Or.inr rfl⟩
 obtain⟨L,S,T⟩:=No P;have Z:¬Ak (.slice (some ⟨lb,0,none⟩) o.length lc) bW:=fun c=>by
  rcases h.row.2 with⟨e,_⟩|⟨g,V,W,e,_,d,_⟩
  ·simp at e
  ·rw[Ak,e]at c;simp[Value.ownBlock]at c;subst c;rw[h.box]at d;simp at d
 have R:(o.set k {e with x:=r,s:=s2,D:=D2,m:=n}).length=o.length:=Ys
 have ab:=(Qa.1 Q).1;have K:∀(i:Nat)(f:Ee),(o.set k {e with x:=r,s:=s2,D:=D2,m:=n})[i]?=some f->(i=k/\f={e with x:=r,s:=s2,D:=D2,m:=n})\/(i≠k/\o[i]?=some f):=fun i f b=>by
  by_cases hi:i=k
  ·subst hi;rw[List.getElem?_set_self ab]at b;simp at b;exact Or.inl ⟨rfl,b.symm⟩
  ·rw[QF (fun h=>hi h.symm)]at b;exact Or.inr ⟨hi,b⟩
 refine⟨Ku u X (fun l hl=>(h.row.lt l hl).1) (Ht.ne P),?_,?_,?_,?_,(O.keep u L).ref.xok⟩
 ·rw[R];exact(u.block bW (Ab h.box) Z).trans h.box
 ·rw[R,SK (e':={e with x:=r,s:=s2,D:=D2,m:=n}) Q rfl];have:(({e with x:=r,s:=s2,D:=D2,m:=n}:Ee).row.drop 1)=[v,y,A,C,E,F,G,H,I,J,z]:=by rw[<-ag];rfl
  rw[this];exact af
 ·intro i f b;rcases K i f b with⟨_,rfl⟩|⟨hi,b⟩
  ·exact⟨h.code.keep u S (T h.code),O.keep u L,Y,ad,ae,h.low,h.fx⟩
  ·have N:=h.rest i f hi b;exact N.keep u L S (T N.code)
 ·intro i j f g aa b d l hl;rcases K i f b with⟨hi,rfl⟩|⟨hi,b⟩
  ·rcases K j g d with⟨c,rfl⟩|⟨c,d⟩
   ·omega
   ·exact fun ac=>h.apart j g c d l ac hl
  ·rcases K j g d with⟨c,rfl⟩|⟨c,d⟩
   ·exact h.apart i f hi b l hl
   ·exact h.apart0 i j f g aa b d l hl
theorem Ei.up{b c:Value}{N a:Nat}{e:Ending}(h:Ei w0 B bW b c N e w')(j:BF B w w0)(l:N<=a):Ei w B bW b c a e w':=by
 obtain⟨f,g,d,la,lc,k,i⟩:=h;exact⟨f,j.trans g,d,la,lc,Yo,i⟩
theorem S9{a:World}{V:Value->Prop}{y:World}(h:SX a V (fun _ y=>y=a) vs y):y=a:=by
 match vs,h with
 |[],h=>exact h
 |[v],h=>exact h.2
theorem Oi{g i:Value}(w:World)(B a:Nat)(b:List Ee)(la:Oa)(lc:Nat)(h:CQ w B a g i b la lc)(r:B<=a)(s:b.length<=2000000)(n m:Int)(p q x:ByteArray)(d:p.size<=maxLen)(f:q.size<=maxLen):
  Calls prog 62 #[Pt a,.agg #[Vi 3,Vi n,Vi m,.string p,.string q,.string x]] w (Ei w B a g i (b.length+1)):=by
 have t:=Ab h.box;have k:=hd (RP (w.alloc (.cells #[Vi 3,Vi n,Vi m,.string p,.string q,.string x] 78)) B a b la lc (h.ext Mxt) r s 3 n m p q x d f);have l:Hd (BF B w (w.alloc (.cells #[Vi 3,Vi n,Vi m,.string p,.string q,.string x] 78))):=FF Mxt Yo;clear h d f;go_enter func62,ntmps62;go_wp2_with fail;apply k.o.mono;rintro e w1 c;have j:=hd c;obtain⟨rfl,_⟩:=c;go_wp2;go_ret;exact j.o.up l.o (Qe _)
theorem Oq{b c:Value}(w:World)(B a:Nat)(la:Oa)(lc:Nat)(h:CQ w B a b c [] la lc)(g:B<=a)(kd n m:Int)(p q x:ByteArray)(d:kd≠3):
  Calls prog 62 #[Pt a,.agg #[Vi kd,Vi n,Vi m,.string p,.string q,.string x]] w (Ei w B a b c 1):=by
 have i:=Ab h.box;have f:=Aa h.box 0 _ rfl;have j:(kd==3)=false:=by rw[Qu];exact d
 have e:Hd (Ei w B a b c 1 (.returned (.bool true)) (w.alloc (.cells #[Vi kd,Vi n,Vi m,.string p,.string q,.string x] 78))):=⟨rfl,FF Mxt Yo,[],la,lc,Ys,h.ext Mxt⟩;simp only[Qt]at f;clear h d;go_enter func62,ntmps62;go_wp2;go_ret;exact e.o
theorem Me{l s:Value}(w:World)(B d:Nat)(b:List Ee)(la:Oa)(lc:Nat)(h:CQ w B d l s b la lc)(R:B<=d)(E:b.length<=2000000)(G:b≠[])(n m:Int)(p q x:ByteArray)(hn: -9223372036854775808<=n/\n<9223372036854775808)(F: -9223372036854775808<=m/\m<9223372036854775808):
  Calls prog 62 #[Pt d,.agg #[Vi 5,Vi n,Vi m,.string p,.string q,.string x]] w (Ei w B d l s (b.length+1)):=by
 have X:=Ab h.box;have T:0<b.length:=List.length_pos_iff.2 G;obtain⟨a,f⟩:=Ex (w.alloc (.cells #[Vi 5,Vi n,Vi m,.string p,.string q,.string x] 78));have g:Ao w a:=by rw[f];exact Mxt
 have aa:a.hz=w.hz+1:=by rw[f];simp
 have z:a.heap[w.hz]?=some (.cells #[Vi 5,Vi n,Vi m,.string p,.string q,.string x] 78 (0,0)):=by rw[f];exact QL w _
 have D:=(h.ext g).box;have t:=Aa D 0 _ rfl;have Q:=Aa h.box 0 _ rfl;obtain⟨ab,ac,V,ad,ae,af,ag⟩:=IE z;obtain⟨L,i⟩:=Ex b.length;have M:=hd (fun k (U:k<b.length)=>PJ a.drew B d b la lc (h.ext (g.trans ⟨rfl,rfl,rfl,Qe _,fun _ _=>rfl⟩)) R k U n hn E);have P:Hd (∀w',Ao a.drew w'->Ei w B d l s (b.length+1) (.returned (.bool true)) w'):=fun w' S=>by
  have A:Ao w w':=(g.trans ⟨rfl,rfl,rfl,Qe _,fun _ _=>rfl⟩:Ao w a.drew).trans (S.mono (by show w.hz<=a.hz;omega));exact⟨rfl,FF A Yo,b,la,lc,Yo,h.ext A⟩
 have J:=hd i;have K:=hd (KW m L a.drew F ⟨Yo,Yo⟩);rw[<-i]at t Q T E;have W:((L:Int)==0)=false:=by rw[Qu];omega
 have O:=hd f;have Y:d<a.hz:=Yo
 clear h g z f i D G hn F;go_enter func62,ah;go_wp2_with fail;rw[<-O.o];refine FB Yk [.rd 0 1 (fun _=> .pointer (some ⟨w.hz,2,none⟩)),.rd 0 1 (fun _=>Vi m),.rd 0 1 (fun _=>Pt d),.rd 0 1 (fun _=>Pt d),.rd 0 1 (fun _=>Pt d),.rd 0 1 (fun _=> .slice la L lc),.rd 0 1 (fun _=>Vi L),.st 0,.rd 1 1 (fun vs=>vs.getD 0 undef)] 1 7 Yk (SX a.drew (fun v=>∃r:Nat,r<L/\v=Vi r) (fun _ y=>y=a.drew)) rfl ?_ ?_
 ·refine⟨⟨trivial,fun vs y _ hl c=> ?_⟩,⟨trivial,fun vs y _ hl c=> ?_⟩,⟨trivial,fun vs y _ hl c=> ?_⟩,⟨trivial,fun vs y _ hl c=> ?_⟩,⟨trivial,fun vs y _ hl c=> ?_⟩,⟨trivial,fun vs y _ hl c=> ?_⟩,⟨trivial,fun vs y _ hl c=> ?_⟩,⟨trivial,fun vs y hl c=> ?_⟩,⟨trivial,fun vs y Z hl c=> ?_⟩,trivial⟩
  all_goals try(obtain rfl:y=a.drew:=S9 c)
  ·simp[go_sem]
  ·simp[go_sem,V]
  ·simp[go_sem]
  ·simp[go_sem]
  ·simp[go_sem]
  ·simp[go_sem,t]
  ·simp[go_sem]
  ·obtain rfl:=Q3.1 hl;refine .call 88 #[Vi m,Vi L] _ (by simp[go_sem]) (K.o.mono ?_);rintro e u ⟨r,j,rfl,rfl⟩;exact⟨_,rfl,⟨r,Yo,rfl⟩,rfl⟩
  ·obtain⟨v,rfl⟩:=Q1.1 (show vs.length=1 by omega);simp[go_sem]
 rintro vs y hl c;obtain⟨v,rfl⟩:=Q1.1 hl;obtain⟨⟨r,j,rfl⟩,rfl⟩:=c;simp only[El,Hq,B4,pa,Ph.kd,Ph.val,Kd.val,Qx,List.map_nil,if_true,Act.put,List.setIfInBounds_toArray,List.set_cons_succ,List.set_cons_zero,Q5,List.take_zero,List.getD_cons_zero];have H:r<b.length:=by rw[<-J.o];exact j
 have N:=hd (M.o r H);clear H j;go_wp2_with fail;apply N.o.mono;rintro e w2 ⟨rfl,C⟩;have I:=hd C;clear C;go_wp2;go_ret;exact P.o _ I.o
theorem PG{lb:Nat}{c:List Ee}{lc:Nat}(h:w.ownsRow B 156 12 (.slice (some ⟨lb,0,none⟩) c.length lc) c.length (CZ c)){e:Ee}(d:c[k]?=some e):lb<w.hz/\(∀i,w.frozen? ⟨lb,i,none⟩=false)/\w.cell? ⟨lb,k*12,none⟩=some (Pt e.b)/\
  ∀j v,(e.s.cells e.cs.length e.a.1.length e.a.2.length e.D.length e.m.status e.m.tries).toList[j]?=some v->w.cell? ⟨lb,k*12+(j+1),none⟩=some v:=by
 have o:=(Qa.1 d).1;obtain⟨p,q,r,g,_,f,_⟩:=An h Yo;simp only[QH,Qo,Addr.mk.injEq,and_true]at g;obtain⟨rfl,_,rfl⟩:=g;refine⟨Ab f,fun i=>Ae f i,?_,fun j v l=> ?_⟩
 ·have:=Ag h (k*12+0) _ ((Ij d 0 Yo).trans rfl);simpa using this
 ·have n:j<11:=by
   have:=(Qa.1 l).1;simpa[SC.cells]using this
  exact Ag h _ _ ((Ij d (j+1) Yo).trans (by simpa[Ee.row]using l))
set_option maxHeartbeats 8000000 in
theorem Mm{O G:Value}(w:World)(B f:Nat)(C:List Ee)(la:Oa)(lc:Nat)(h:CQ w B f O G C la lc)(eu:B<=f)(ea:C.length<=2000000)(cr:C≠[])(n m:Int)(p q x:ByteArray)(hn: -9223372036854775808<=n/\n<9223372036854775808)(cq: -9223372036854775808<=m/\m<9223372036854775808):
  Calls prog 62 #[Pt f,.agg #[Vi 4,Vi n,Vi m,.string p,.string q,.string x]] w (Ei w B f O G (C.length+1)):=by
 have ew:=Ab h.box;have d7:0<C.length:=List.length_pos_iff.2 cr;obtain⟨d,K⟩:=Ex (w.alloc (.cells #[Vi 4,Vi n,Vi m,.string p,.string q,.string x] 78));have V:Ao w d:=by rw[K];exact Mxt
 have e5:d.hz=w.hz+1:=by rw[K];simp
 have bk:d.heap[w.hz]?=some (.cells #[Vi 4,Vi n,Vi m,.string p,.string q,.string x] 78 (0,0)):=by rw[K];exact QL w _
 have cp:=(h.ext V).box;have S:=Aa cp 0 _ rfl;have dv:=Aa h.box 0 _ rfl;obtain⟨ek,cw,cx,el,em,en,eo⟩:=IE bk;obtain⟨L,bn⟩:=Ex C.length;have bo:Hd (CQ d.drew B f O G C la lc):=h.ext (V.trans ⟨rfl,rfl,rfl,Qe _,fun _ _=>rfl⟩);have d0:Hd (Ao w d.drew):=V.trans ⟨rfl,rfl,rfl,Qe _,fun _ _=>rfl⟩;have ds:=hd hn;have b7:=hd bk;have az:=hd bn;have dq:=hd (KW m L d.drew cq ⟨Yo,Yo⟩);rw[<-bn]at S dv d7 ea;have ev:((L:Int)==0)=false:=by rw[Qu];omega
 have dr:=hd K;have ex:f<d.hz:=Yo
 clear h V bk K bn cp cr hn cq;go_enter func62,e9;go_wp2_with fail;rw[<-dr.o];refine FB Yk [.rd 0 1 (fun _=> .pointer (some ⟨w.hz,2,none⟩)),.rd 0 1 (fun _=>Vi m),.rd 0 1 (fun _=>Pt f),.rd 0 1 (fun _=>Pt f),.rd 0 1 (fun _=>Pt f),.rd 0 1 (fun _=> .slice la L lc),.rd 0 1 (fun _=>Vi L),.st 0,.rd 1 1 (fun vs=>vs.getD 0 undef)] 1 7 Yk (SX d.drew (fun v=>∃r:Nat,r<L/\v=Vi r) (fun _ y=>y=d.drew)) rfl ?_ ?_
 ·refine⟨⟨trivial,fun vs y _ hl c=> ?_⟩,⟨trivial,fun vs y _ hl c=> ?_⟩,⟨trivial,fun vs y _ hl c=> ?_⟩,⟨trivial,fun vs y _ hl c=> ?_⟩,⟨trivial,fun vs y _ hl c=> ?_⟩,⟨trivial,fun vs y _ hl c=> ?_⟩,⟨trivial,fun vs y _ hl c=> ?_⟩,⟨trivial,fun vs y hl c=> ?_⟩,⟨trivial,fun vs y M hl c=> ?_⟩,trivial⟩
  all_goals try(obtain rfl:y=d.drew:=S9 c)
  ·simp[go_sem]
  ·simp[go_sem,cx]
  ·simp[go_sem]
  ·simp[go_sem]
  ·simp[go_sem]
  ·simp[go_sem,S]
  ·simp[go_sem]
  ·obtain rfl:=Q3.1 hl;refine .call 88 #[Vi m,Vi L] _ (by simp[go_sem]) (dq.o.mono ?_);rintro e u ⟨r,N,rfl,rfl⟩;exact⟨_,rfl,⟨r,Yo,rfl⟩,rfl⟩
  ·obtain⟨v,rfl⟩:=Q1.1 (show vs.length=1 by omega);simp[go_sem]
 rintro vs y hl c;obtain⟨v,rfl⟩:=Q1.1 hl;obtain⟨⟨r,N,rfl⟩,rfl⟩:=c;simp only[El,Hq,B4,pa,Ph.kd,Ph.val,Kd.val,Qx,List.map_nil,if_true,Act.put,List.setIfInBounds_toArray,List.set_cons_succ,List.set_cons_zero,Q5,List.take_zero,List.getD_cons_zero];obtain⟨j,ab⟩:∃j,C[r]?=some j:=⟨_,Qb (by rw[<-az.o];exact N)⟩;obtain⟨lb,rfl,e1,eb,cz,d6⟩:=bo.o.cell ab;have J:=bo.o.all r j ab;obtain⟨I,err,E,bm⟩:=TB J.inv J.prog n ds.o;have b8:=hd bm;have P:=hd ab;have ax:=hd J;have bw:Ao d.drew d.drew.drew:=⟨rfl,rfl,rfl,Qe _,fun _ _=>rfl⟩;have b9:=hd (bo.o.ext bw);have cb:=hd (bm.2.1 d.drew.drew j.b j.x (J.code.ext bw));have e4:(r:Int)<(L:Int):=Yo
 clear bm ab J d6 bw;go_wp2_with fail;refine FB Yk [.rd 0 1 (fun _=>Pt f),.rd 0 1 (fun _=>Pt f),.rd 0 1 (fun _=>Pt f),.rd 0 0 (fun _=> .slice (some ⟨lb,0,none⟩) L lc),.rd 0 1 (fun _=>Vi r),.rd 0 1 (fun _=> .pointer (some ⟨lb,r*12,none⟩)),.rd 0 1 (fun _=> .pointer (some ⟨lb,r*12,none⟩)),.rd 0 0 (fun _=>Pt j.b),.rd 0 1 (fun _=> .pointer (some ⟨w.hz,1,none⟩)),.rd 0 0 (fun _=>Vi n),.st 0,.rd 1 1 (fun _=> .tuple #[Vi I,Vi err]),.rd 1 1 (fun _=>Vi I),.rd 1 1 (fun _=>Vi err),.rd 1 1 (fun _=>Vi I),.rd 1 1 (fun _=>Vi err)] 1 7 Yk (SX d.drew.drew (fun v=>v= .tuple #[Vi I,Vi err]) (fun _ y=>∃b5,Ad (CK j.b j.x) d.drew.drew y/\Dj y j.b b5 j.cs j.a E/\NE d.drew.drew j.x b5 j.m E)) rfl ?_ ?_
 ·refine⟨⟨trivial,fun vs y _ hl c=> ?_⟩,⟨trivial,fun vs y _ hl c=> ?_⟩,⟨trivial,fun vs y _ hl c=> ?_⟩,⟨trivial,fun vs y _ hl c=> ?_⟩,⟨trivial,fun vs y _ hl c=> ?_⟩,⟨trivial,fun vs y _ hl c=> ?_⟩,⟨trivial,fun vs y _ hl c=> ?_⟩,⟨trivial,fun vs y _ hl c=> ?_⟩,⟨trivial,fun vs y _ hl c=> ?_⟩,⟨trivial,fun vs y _ hl c=> ?_⟩,⟨trivial,fun vs y hl c=> ?_⟩,⟨trivial,fun vs y M hl c=> ?_⟩,⟨trivial,fun vs y M hl c=> ?_⟩,⟨trivial,fun vs y M hl c=> ?_⟩,⟨trivial,fun vs y M hl c=> ?_⟩,⟨trivial,fun vs y M hl c=> ?_⟩,trivial⟩
  ·simp[go_sem]
  ·simp[go_sem]
  ·simp[go_sem]
  ·obtain rfl:=c.at hl;simp[go_sem,S]
  ·simp[go_sem]
  ·simp[go_sem,N]
  ·simp[go_sem]
  ·obtain rfl:=c.at hl;have ep:d.cell? ⟨lb,r*12,none⟩=some (Pt j.b):=cz;simp[go_sem,ep]
  ·simp[go_sem]
  ·obtain rfl:=c.at hl;simp[go_sem,cw]
  ·obtain rfl:=Q3.1 hl;obtain rfl:y=d.drew.drew:=c;refine .call 54 #[Pt j.b,Vi n] _ (by simp[go_sem]) (cb.o.mono ?_);rintro e u ⟨rfl,ej⟩;exact⟨_,rfl,rfl,ej⟩
  ·obtain⟨v,rfl⟩:=Q1.1 (show vs.length=1 by omega);obtain⟨rfl,_⟩:=c;simp[go_sem]
  ·simp[go_sem]
  ·simp[go_sem]
  ·simp[go_sem]
  ·simp[go_sem]
 rintro vs w2 hl c;obtain⟨v,rfl⟩:=Q1.1 hl;obtain⟨_,b5,Y,cg,cj⟩:=c;have cu:B<=d.drew.drew.hz:=by show B<=d.hz;omega
 have ct:¬CK j.b j.x w.hz:=fun ef=>by
  obtain⟨cl,t,fr,dx,dz⟩:=ax.o.code.own_ty ef;have bj:d.heap[w.hz]?=some (.cells cl t fr):=dx;rw[b7.o]at bj;simp at bj;obtain⟨_,rfl,_⟩:=bj;simp at dz
 have bl:w2.heap[w.hz]?=some (.cells #[Vi 4,Vi n,Vi m,.string p,.string q,.string x] 78 (0,0)):=(Y.block _ (by show w.hz<d.hz;omega) ct).trans b7.o;obtain⟨ce,Z⟩:=b9.o.mid P.o cu Y cg cj;have cv:=Y.size;have e7:d.hz<=w2.hz:=cv;have a2:=Aa Z.box 0 _ rfl;rw[<-az.o]at a2;obtain⟨e2,ec,q0,z⟩:=PG Z.row P.o;have cd:=Aa bl 1 _ rfl;have es:=hd bl;have ca:=hd Z;have dp:=hd ((FF d0.o Yo).trans ((FF (⟨rfl,rfl,rfl,Qe _,fun _ _=>rfl⟩:Ao d.drew d.drew.drew) cu).trans ce));obtain⟨b,fc,eq,D,fa,fb,cs,a,F⟩:=j;simp only at*;obtain⟨ad,ae,Q,R,af,ag,T,U,f0a,f0l,f0c,f1a,f1l,f1c,f2a,f2l,f2c,f3a,f3l,f3c,f4⟩:=eq;simp only[SC.cells]at z;have ay:Hd (∀X u,Ao w2.drew u->(∀k,X k->w2.hz<=k/\k<u.hz/\∃(i:Nat)(t:TypeId)(l:Av)(s:Nat)(dw:Value->Av)(cl:Av),([.pur (Pt f),.pur (Pt f),.pur (Pt f),.pur (.slice (some ⟨lb,0,none⟩) L lc),.pur (Vi r),.pur (.pointer (some ⟨lb,r*12,none⟩)),.pur (.pointer (some ⟨lb,r*12+1,none⟩)),.pur (.agg #[.slice ad cs.length ae,.slice Q a.1.length R,.slice af a.2.length ag,.slice T D.length U,Vi F.status,Vi F.tries,.slice f0a f0l f0c,.slice f1a f1l f1c,.slice f2a f2l f2c,.slice f3a f3l f3c,Vi f4]),.pur (.pointer (some ⟨w.hz,1,none⟩)),.pur (Vi n),.cal,.post (fun v=>v),.post (A7 0),.post (A7 1),.post (A7 2),.alo 154 #[Nl,Nl,Nl,Nl,Vi 0,Vi 0,Nl,Nl,Nl,Nl,Vi 0] 16 (fun v=>cellsOf (A7 0 v)),.sto 15,.post (A7 1),.post (A7 2)]:List Kd)[i]?=some (.alo t l s dw)/\u.heap[k]?=some (.cells cl t (0,0)))->Calls prog 89 #[.agg #[.slice ad cs.length ae,.slice Q a.1.length R,.slice af a.2.length ag,.slice T D.length U,Vi F.status,Vi F.tries,.slice f0a f0l f0c,.slice f1a f1l f1c,.slice f2a f2l f2c,.slice f3a f3l f3c,Vi f4],Vi n] u fun e b4=>∃r,e= .returned r/\Ao u b4/\MS (Ak G) cs a E I err X r b4):=fun X u g d2=>by
  have ei:Ao w2 u:=g.undrew;apply(b8.o.2.2 _ u ⟨ad,ae,Q,R,af,ag,T,U,f0a,f0l,f0c,f1a,f1l,f1c,f2a,f2l,f2c,f3a,f3l,f3c,f4⟩ D (ca.o.ref.ext ei)).mono;rintro e b4 ⟨ah,aw,rfl,ch,d1⟩;refine⟨_,rfl,ch,ah,aw,rfl,fun y ac eg=>d1.off_heap (X:=X) (fun k d9=> ?_) ac eg⟩;obtain⟨_,ee,i,t,l,er,et,cl,hi,hb⟩:=d2 k d9;have eh:t=154:=by
   have d8:i=15:=by
    by_cases dy:i=15
    ·exact dy
    ·exfalso;have:i<19:=(Qa.1 hi).1;have d5:i=0\/i=1\/i=2\/i=3\/i=4\/i=5\/i=6\/i=7\/i=8\/i=9\/i=10\/i=11\/i=12\/i=13\/i=14\/i=16\/i=17\/i=18:=Yo
     rcases d5 with rfl|rfl|rfl|rfl|rfl|rfl|rfl|rfl|rfl|rfl|rfl|rfl|rfl|rfl|rfl|rfl|rfl|rfl<;>simp at hi
   subst d8;simp at hi;exact hi.1.symm
  subst eh;exact⟨_,_,_,(ch.block k ee).trans hb,by simp[HZ]⟩
 obtain⟨st,bx⟩:∃l,l=F.status:=⟨_,rfl⟩;obtain⟨c0,bz⟩:∃l,l=F.tries:=⟨_,rfl⟩;obtain⟨cl,br⟩:∃l,l=cs.length:=⟨_,rfl⟩;obtain⟨al,bp⟩:∃l,l=a.1.length:=⟨_,rfl⟩;obtain⟨cy,bv⟩:∃l,l=a.2.length:=⟨_,rfl⟩;obtain⟨dl,bs⟩:∃l,l=D.length:=⟨_,rfl⟩;have HN:Hd (st=F.status/\c0=F.tries/\cl=cs.length/\al=a.1.length/\cy=a.2.length/\dl=D.length):=⟨bx,bz,br,bp,bv,bs⟩;rw[<-bx,<-bz,<-br,<-bp,<-bv,<-bs]at ay z;have c1:=z 0 _ rfl;have c4:=z 1 _ rfl;have c5:=z 2 _ rfl;have c6:=z 3 _ rfl;have c7:=z 4 _ rfl;have c8:=z 5 _ rfl;have c9:=z 6 _ rfl;have da:=z 7 _ rfl;have db:=z 8 _ rfl;have c2:=z 9 _ rfl;have c3:=z 10 _ rfl;have ey:f<w2.hz:=Yo
 have e8:w.hz<w2.hz:=Yo
 simp only[El,Hq,B4,pa,Ph.kd,Ph.val,Kd.val,Qx,List.map_nil,if_true,Act.put,List.setIfInBounds_toArray,List.set_cons_succ,List.set_cons_zero];clear bx bz br bp bv bs Y cg cj ct bl ce Z z S cz ek cw cx el em en eo eb cb b9 cv;go_wp2_with fail;refine I0 Yk [.pur (Pt f),.pur (Pt f),.pur (Pt f),.pur (.slice (some ⟨lb,0,none⟩) L lc),.pur (Vi r),.pur (.pointer (some ⟨lb,r*12,none⟩)),.pur (.pointer (some ⟨lb,r*12+1,none⟩)),.pur (.agg #[.slice ad cl ae,.slice Q al R,.slice af cy ag,.slice T dl U,Vi st,Vi c0,.slice f0a f0l f0c,.slice f1a f1l f1c,.slice f2a f2l f2c,.slice f3a f3l f3c,Vi f4]),.pur (.pointer (some ⟨w.hz,1,none⟩)),.pur (Vi n),.cal,.post (fun v=>v),.post (A7 0),.post (A7 1),.post (A7 2),.alo 154 #[Nl,Nl,Nl,Nl,Vi 0,Vi 0,Nl,Nl,Nl,Nl,Vi 0] 16 (fun v=>cellsOf (A7 0 v)),.sto 15,.post (A7 1),.post (A7 2)] 10 Yk (MS (Ak G) cs a E I err) 89 _ MS.stable ay.o ?_ rfl Yd ?_
 ·refine⟨fun vc β u g=> ?_,fun vc β u g=> ?_,fun vc β u g=> ?_,fun vc β u g=> ?_,fun vc β u g=> ?_,fun vc β u g=> ?_,fun vc β u g=> ?_,fun vc β u g=> ?_,fun vc β u g=> ?_,fun vc β u g=> ?_,fun vc β u=> ?_,?_,?_,?_,?_,fun vc β u=> ?_,?_,?_,?_,trivial⟩
  all_goals try(simp[pa,Kd.val,go_sem,g.up a2,g.up cd,g.up c1,g.up c4,g.up c5,g.up c6,g.up c7,g.up c8,g.up c9,g.up da,g.up db,g.up c2,g.up c3,N];done)
  all_goals try(simp[pa,Kd.val,go_sem];done)
  all_goals try(rintro vc β du u ⟨ah,aw,rfl,_⟩;simp[pa,Kd.val,go_sem,A7,SC.val];done)
  rintro vc β du u t l er cl bu ⟨ah,aw,rfl,_⟩ hb;obtain⟨b0,b1,a0,a1,b2,b3,a3,a4,a6,a8,a7,a9,bb,ba,bc,be,bd,bf,bh,bg,bi⟩:=ah;simp only[SC.val]at bu⊢;simp at bu;obtain⟨rfl,rfl,rfl,rfl⟩:=bu;obtain⟨ai,aj,am,an,ao,ap,aq,ar,au,av,ak,b6⟩:=Dz hb;refine⟨_,?_,Kk hb _ _ _ _ _ _ _ _ _ _ _,((((((((((((Ad.refl (only (β 15)) u).put 0 _).put 1 _).put 2 _).put 3 _).put 4 _).put 5 _).put 6 _).put 7 _).put 8 _).put 9 _).put 10 _)⟩;simp[pa,Kd.val,go_sem,ai,aj,am,an,ao,ap,aq,ar,au,av,ak,b6,A7]
 rintro vc β w3 H ⟨s2,D2,rfl,cm⟩ cn _;have H:=H.undrew;have e6:=H.size;have ck:BK (Ak G) w3 s2 cs a D2 E:=cm w3 (fun _ _ _=>rfl) (Qe _);obtain⟨d3,co⟩:=cn 15 _ _ _ _ rfl;have aa:=ca.o.ext H;have W:Ao w3 w3.drew:=⟨rfl,rfl,rfl,Qe _,fun _ _=>rfl⟩;obtain⟨cf,ci⟩:=(aa.ext W).fin (s2:=s2) (D2:=D2) P.o (by show B<=w3.hz;omega) ax.o.prog ax.o.ask b8.o.1 (ck.ext W) rfl;have cc:Hd (Ei w B f O G (C.length+1) (.returned (.bool true)) _):=⟨rfl,(dp.o.trans (FF H Yo)).trans ((FF W Yo).trans cf),_,_,_,Ys,ci⟩;have a5:=Aa aa.box 0 _ rfl;rw[<-az.o]at a5;obtain⟨e3,ed,_,A⟩:=PG aa.row P.o;simp only[SC.cells]at A;have dc:=A 0 _ rfl;have df:=A 1 _ rfl;have dg:=A 2 _ rfl;have dh:=A 3 _ rfl;have di:=A 4 _ rfl;have dj:=A 5 _ rfl;have dk:=A 6 _ rfl;have dm:=A 7 _ rfl;have dn:=A 8 _ rfl;have dd:=A 9 _ rfl;have de:=A 10 _ rfl;obtain⟨b0,b1,a0,a1,b2,b3,a3,a4,a6,a8,a7,a9,bb,ba,bc,be,bd,bf,bh,bg,bi⟩:=s2;have bq:w3.heap[β 15]?=some (.cells #[.slice b0 cs.length b1,.slice a0 a.1.length a1,.slice b2 a.2.length b3,.slice a3 D2.length a4,Vi E.status,Vi E.tries,.slice a6 a8 a7,.slice a9 bb ba,.slice bc be bd,.slice bf bh bg,Vi bi] 154 (0,0)):=co;generalize d4:β 15=bt at*;obtain⟨ai,aj,am,an,ao,ap,aq,ar,au,av,ak,b6⟩:=Dz bq;have e0:=Ab bq;have ez:f<w3.hz:=Yo
 simp only[B4,pa,Kd.val,if_true,Act.put,A7,SC.val];rw[d4];clear H cm cn ck d3 co aa W cf ci bq A ay a2 cd c1 c4 c5 c6 c7 c8 c9 da db c2 c3 ec;simp only[SC.cells]at cc;go_wp2_with fail;refine FB Yk [.rd 0 1 (fun _=>Pt f),.rd 0 1 (fun _=>Pt f),.rd 0 1 (fun _=>Pt f),.rd 0 0 (fun _=> .slice (some ⟨lb,0,none⟩) L lc),.rd 0 1 (fun _=>Vi r),.rd 0 0 (fun _=> .agg #[.slice b0 cs.length b1,.slice a0 a.1.length a1,.slice b2 a.2.length b3,.slice a3 D2.length a4,Vi E.status,Vi E.tries,.slice a6 a8 a7,.slice a9 bb ba,.slice bc be bd,.slice bf bh bg,Vi bi]),.rd 0 1 (fun _=> .pointer (some ⟨lb,r*12,none⟩)),.rd 0 1 (fun _=> .pointer (some ⟨lb,r*12+1,none⟩)),.st 0] 1 7 Yk (SX w3.drew (fun _=>True) (fun _ y=>Ei w B f O G (C.length+1) (.returned (.bool true)) y)) rfl ?_ ?_
 ·refine⟨⟨trivial,fun vs y _ hl c=> ?_⟩,⟨trivial,fun vs y _ hl c=> ?_⟩,⟨trivial,fun vs y _ hl c=> ?_⟩,⟨trivial,fun vs y _ hl c=> ?_⟩,⟨trivial,fun vs y _ hl c=> ?_⟩,⟨trivial,fun vs y _ hl c=> ?_⟩,⟨trivial,fun vs y _ hl c=> ?_⟩,⟨trivial,fun vs y _ hl c=> ?_⟩,⟨trivial,fun vs y hl c=> ?_⟩,trivial⟩
  ·simp[go_sem]
  ·simp[go_sem]
  ·simp[go_sem]
  ·obtain rfl:=c.at hl;simp[go_sem,a5]
  ·simp[go_sem]
  ·obtain rfl:=c.at hl;simp[go_sem,ai,aj,am,an,ao,ap,aq,ar,au,av,ak]
  ·simp[go_sem,N]
  ·simp[go_sem]
  ·obtain rfl:=Q3.1 hl;obtain rfl:y=w3.drew:=c;exact .skip _ (by simp[go_sem,dc,df,dg,dh,di,dj,dk,dm,dn,dd,de,ed]) ⟨trivial,cc.o⟩
 rintro vs y hl c;obtain⟨v,rfl⟩:=Q1.1 hl;obtain⟨_,ac⟩:=c;have dt:=hd ac;simp only[El,Hq,B4,pa,Ph.kd,Ph.val,Kd.val,Qx,List.map_nil,if_true,Act.put,List.setIfInBounds_toArray,List.set_cons_succ,List.set_cons_zero];clear ac ai aj am an ao ap aq ar au av ak b6 dc df dg dh di dj dk dm dn dd de a5;go_wp2;go_ret;exact dt.o
section
open Go.Shelf Go.Lib Go.Sort
def laysM171_ren:Go.Shelf.Ren:=⟨fun|171=>41|243=>66|246=>95|283=>122|284=>123|285=>124|286=>125|129=>153|317=>152|318=>154|319=>155|320=>156|337=>185|338=>186|n=>n,fun|3=>3|9=>9|2=>2|4=>4|171=>208|0=>0|53=>209|37=>212|5=>5|173=>213|212=>258|51=>259|20=>20|213=>260|46=>262|232=>304|233=>305|n=>n,fun|17=>0|18=>1|19=>2|n=>n⟩
theorem laysM171:Go.Proofs.LaysM.n171 prog laysM171_ren:={mixed:=by kernel_rfl,f129:=func153.trans (congrArg some Yk),f171:=func41.trans (congrArg some Yk),f243:=func66.trans (congrArg some Yk),f246:=func95.trans (congrArg some Yk),f283:=func122.trans (congrArg some Yk),f284:=func123.trans (congrArg some Yk),f285:=func124.trans (congrArg some Yk),f286:=func125.trans (congrArg some Yk),f317:=func152.trans (congrArg some Yk),f318:=func154.trans (congrArg some Yk),f319:=func155.trans (congrArg some Yk),f320:=func156.trans (congrArg some Yk),f337:=func185.trans (congrArg some Yk),f338:=func186.trans (congrArg some Yk),t0:=underlying0,a0:=isAgg0,z0:=sizeOf0,v0:=zeroValue0,t2:=underlying2,a2:=isAgg2,z2:=sizeOf2,v2:=zeroValue2,t3:=underlying3,a3:=isAgg3,z3:=sizeOf3,v3:=zeroValue3,t4:=underlying4,a4:=isAgg4,z4:=sizeOf4,v4:=zeroValue4,t5:=underlying5,a5:=isAgg5,z5:=sizeOf5,v5:=zeroValue5,t9:=underlying9,a9:=isAgg9,z9:=sizeOf9,v9:=zeroValue9,t20:=underlying20,a20:=isAgg20,z20:=sizeOf20,v20:=zeroValue20,t37:=underlying212,a37:=isAgg212,z37:=sizeOf212,v37:=zeroValue212,t46:=underlying262,a46:=isAgg262,z46:=sizeOf262,v46:=zeroValue262,t51:=underlying259,a51:=isAgg259,z51:=sizeOf259,v51:=zeroValue259,t53:=underlying209,a53:=isAgg209,z53:=sizeOf209,v53:=zeroValue209,t171:=underlying208,a171:=isAgg208,z171:=sizeOf208,v171:=zeroValue208,t173:=underlying213,a173:=isAgg213,z173:=sizeOf213,v173:=zeroValue213,t212:=underlying258,a212:=isAgg258,z212:=sizeOf258,v212:=zeroValue258,t213:=underlying260,a213:=isAgg260,z213:=sizeOf260,t232:=underlying304,a232:=isAgg304,z232:=sizeOf304,v232:=zeroValue304,t233:=underlying305,a233:=isAgg305,z233:=sizeOf305,v233:=zeroValue305,g17:=by kernel_rfl,g18:=by kernel_rfl,g19:=by kernel_rfl,i0:=by kernel_rfl,i2:=by kernel_rfl,i3:=by kernel_rfl,i4:=by kernel_rfl,i5:=by kernel_rfl,i9:=by kernel_rfl,i20:=by kernel_rfl,i37:=by kernel_rfl,i46:=by kernel_rfl,i51:=by kernel_rfl,i53:=by kernel_rfl,i171:=by kernel_rfl,i173:=by kernel_rfl,i212:=by kernel_rfl,i232:=by kernel_rfl,i233:=by kernel_rfl,m17:=by kernel_rfl,m18:=by kernel_rfl,m19:=by kernel_rfl}
theorem strconv_Itoa(n:Int)(h0: -9223372036854775808<=n)(a:n<=9223372036854775807)(w:World)(b:Lib.TabIs prog w "internal/strconv.uint64pow10" .u64 Lib.pow10Tab):
  Calls prog 41 #[Vi n] w fun e w'=>e= .returned (.string ⟨(Lib.itoa n).toArray⟩)/\∃k os,w'=grow (w.drewN k) os:=Any.strconv_Itoa laysM171 n h0 a w b
end
theorem LE(w:World)(base:Nat)(t ty e:TypeId)(i:TypeInfo)(D:Value)(B:P.underlying t=some (.slice e))(hi:P.info? e=some i)(hz:i.zero=some D)
  (v:Value) (n:Nat) (xs:Lv) (b:w.ownsRow base e i.size v n xs)
  (a:Addr) (m c:Nat) (d:Lv) (hl:d.length=m*i.size) (S:0<m) (z:∀j u,d[j]?=some u->w.cell? (a.add j)=some u) (F:∀u∈d,u.oneCell'=true)
  (G:n+m<=maxLen) (I:(n+m)*i.bytes<=140737488355328) (C:Value) (w':World)
  (k:(Builtin.append_ #[t,t] ty #[v,.slice (some a) m c]).run P w= .ok C w') (H:w'.ownsRow base e i.size C (n+m) (xs++d)):w'.ownsRow base e i.size v n xs:=by
 have T:n+m<=9223372036854775807:=by simp only[maxLen]at G;omega
 rcases b.2 with⟨rfl,rfl⟩|⟨g,f,l,rfl,q,x,y,r,s,O⟩
 ·exact⟨b.1,Or.inl ⟨rfl,rfl⟩⟩
 ·by_cases A:n+m<=f
  ·have K:n*i.size+d.length<=l.size:=by rw[hl,s,<-Nat.add_mul];exact Nat.mul_le_mul_right _ A
   have o:=run_append_room (P:=P) w t ty e i B hi g n f l x a m c d hl z F A K;rw[o]at k;injection k with h2 h3;subst h2;rcases H.2 with⟨h,_⟩|⟨R,Q,E,h,_,L,_,_,J,N⟩
   ·simp at h
   ·simp only[QH,Qo,Addr.mk.injEq]at h;obtain⟨⟨rfl,_⟩,_,rfl⟩:=h;refine⟨b.1,Or.inr ⟨g,f,E,rfl,q,L,y,r,J,?_⟩⟩;have p:=congrArg (List.take (n*i.size)) N;rw[List.take_take,Nat.min_eq_left (Nat.mul_le_mul_right _ Yo),List.take_append_of_le_length (by rw[b.1];exact Qe _)]at p;rw[p];exact List.take_of_length_le (by rw[b.1];exact Qe _)
  ·have M:∀j u,xs[j]?=some u->w.cell? ((⟨g,0,none⟩:Addr).add j)=some u:=b.cells (g:=g) rfl;have o:=run_append_grow (P:=P) w t ty e i D B hi hz ⟨g,0,none⟩ n f xs b.1 M a m c d hl z Yo Yo (growslice_fits Yo I);rw[o]at k;injection k with h2 h3;subst h3;exact⟨b.1,Or.inr ⟨g,f,l,rfl,q,Ah (w:=w.drew) x _,y,r,s,O⟩⟩
theorem Fd{ops:Array Oper}{rest:List Oper}{o:Oper}{a:Act}{k:Exit->Act->World->Prop}(w:World)(H:o.guard=none)(s x:Operand)(t:TypeId)
  (I:o.op= .call {callee:= .builtin .append,args:=#[s,x],argTypes:=#[t,t]})
  (base:Nat) (e:TypeId) {g:Value} {d:Nat}
  (p:(P.info? e).map (fun i=>(i.zero,i.size,i.bytes))=some (some g,size,d)) (y:P.underlying t=some (.slice e)) (Q:g.cells.size=size) (L:0<size)
  (v:Value) (n:Nat) (xs:Lv) (J:a.eval s=v) (q:w.ownsRow base e size v n xs)
  (b:Av) {N:Nat} (O:a.eval x= .slice (some ⟨N,0,none⟩) 1 1) (C:N=w.hz) (hl:b.size=size) (l:∀u∈b.toList,u.oneCell'=true)
  (f:(n+1)*(d+1)<=140737488355328) (F:base<=w.hz)
  (h:∀c w',Ar w base e size v (n+1) (xs++b.toList) c w'->w'.ownsRow base e size v n xs->wpList P ops k rest (a.put o.dst c) w'):wpList P ops k (o::rest) a (w.alloc (.cells b e)):=by
 refine wpList_plain H fun _ B=> ?_;subst C;obtain⟨c,w',r,m⟩:=E2 (P:=P) w t o.type base e p y Q L v n xs q b hl l f F;have z:w'.ownsRow base e size v n xs:=by
  obtain⟨i,hi,hz,K,G⟩:=info_parts p;have R:n+1<=140737488355328:=Qq (Nat.le_mul_of_pos_right (n+1) (Nat.succ_pos d)) f;have E:(n+1)*d<=140737488355328:=Qq (Nat.mul_le_mul_left _ (Nat.le_succ _)) f;have A:n+1<=maxLen:=by simp only[maxLen];omega
  subst K G;refine LE (P:=P) (w.alloc (.cells b e)) base t o.type e i g y hi hz v n xs (q.alloc _) ⟨w.hz,0,none⟩ 1 1 b.toList (by simp[hl]) Yo (fun j u M=> ?_) l A E c w' r m.owns;have D:(⟨w.hz,0,none⟩:Addr).add j=⟨w.hz,j,none⟩:=by unfold Addr.add;split<;>simp_all
  rw[D,cell_of_row _ w.hz j b e (0,0) (QL w _)];simpa using M
 unfold Oper.wp execOp;simp only[I,resolve,invoke,builtin,Sem.run_bind,Sem.run_pure,Result.andThen_ok,List.map_toArray,Qx,List.map_nil,J,O,r];exact B _ _ (h c w' m z)
def Xk(k:Nat):Lu:=[109,97,114,107]++Lib.itoa (k:Int)
def DN(k:Nat):Value:= .string ⟨(Xk k).toArray⟩
def Hi(B:Nat)(w:World):Prop:=Lib.TabBelow prog B w "internal/strconv.uint64pow10" .u64 Lib.pow10Tab
theorem Vl(w:World)(k:Nat)(os:Array Obj):Ao w (Sort.grow (w.drewN k) os):=Lib.below_grow _ w (Qe _) k os
theorem UY(k:Nat)(h:k<=100000000):(Lib.itoa (k:Int)).length<=21:=Lib.itoa_length_le _ Yo Yo
theorem Pw(k:Nat)(w:World)(f:k<=100000000)(B:Nat)(c:Hi B w):Calls prog 65 #[Vi k] w fun e w'=>e= .returned (DN k)/\Ao w w':=by
 have b:=hd (strconv_Itoa (k:Int) Yo Yo w c.here);have hl:=UY k f;obtain⟨X,a⟩:=Ex (Lib.itoa (k:Int));have HM:Hd (DN k= .string (⟨#[109,97,114,107]⟩++⟨X.toArray⟩)):=by show _=_;rw[a];unfold DN Xk;rw[<-Az]
 rw[<-a]at b hl;clear a c;go_enter func65,ntmps65;go_wp2_with fail;apply b.o.mono;rintro e w1 ⟨rfl,j,os,rfl⟩;have d:=hd (Vl w j os);go_wp2;go_ret;exact⟨by rw[HM.o];rfl,d.o⟩
theorem IF{u:Value}{m:Nat}(a:w.ownsRow B e 1 u n xs)(D:w.ownsRow B e 1 v m ys)(z:Ad (Ak v) w w')(E:w'.ownsRow B e 1 v m ys)(F:ys.take n=xs)(hn:n<=m):w'.ownsRow B e 1 u n xs:=by
 rcases a.2 with⟨rfl,rfl⟩|⟨g,j,H,rfl,hb,x,A,q,r,K⟩
 ·exact⟨a.1,Or.inl ⟨rfl,rfl⟩⟩
 ·by_cases c:v.ownBlock=some g
  ·rcases E.2 with⟨rfl,_⟩|⟨o,i,l,rfl,_,y,_,_,s,C⟩
   ·simp[Value.ownBlock]at c
   ·simp[Value.ownBlock]at c;subst c;have p:i=j:=by
     rcases D.2 with⟨b,_⟩|⟨J,G,I,b,_,d,_,_,t,_⟩
     ·simp at b
     ·simp only[QH,Qo,Addr.mk.injEq]at b;obtain⟨⟨rfl,_⟩,_,rfl⟩:=b;rw[x]at d;simp at d;subst d;rw[r]at t;omega
    subst p;refine⟨a.1,Or.inr ⟨o,i,l,rfl,hb,y,A,q,s,?_⟩⟩;rw[<-F,<-C,List.take_take,Nat.min_eq_left Yo];simp
  ·exact Aj a (fun k f=>z.block k (a.lt k f).2 (fun h=>c (by simp[Value.ownBlock]at f;subst f;exact h)))
def EV(w:World)(v:Value)(k:Nat):Prop:=∃n,n<=30000/\w.ownsRow 0 9 1 v n (List.replicate n (DN k))
theorem EV.same(h:EV w v k)(hb:∀j,v.ownBlock=some j->w'.heap[j]?=w.heap[j]?):EV w' v k:=by
 obtain⟨n,hn,h⟩:=h;exact⟨n,hn,Aj h hb⟩
theorem EV.lt{j:Nat}(h:EV w v k)(a:v.ownBlock=some j):j<w.hz:=by
 obtain⟨n,hn,h⟩:=h;exact(h.lt j a).2
structure Cf(w:World)(B bW:Nat)(v0:Value)(ls:List (Value×Nat))(sa:Option Addr)(sc:Nat)(ka:Option Addr)(kc:Nat):Prop where
 box:w.heap[bW]?=some (.cells #[v0,.slice sa ls.length sc,.slice ka ls.length kc] 76 (0,0))
 lrow:w.ownsRow B 47 1 (.slice sa ls.length sc) ls.length (ls.map (·.1))
 krow:w.ownsRow B 3 1 (.slice ka ls.length kc) ls.length (ls.map fun x=> .int .i64 x.2)
 all:∀x∈ls,EV w x.1 x.2/\x.2<=ls.length
theorem Cf.ext{i:Value}{ls:List (Value×Nat)}{f:Oa}{g:Nat}{c:Oa}{d:Nat}(h:Cf w B bW i ls f g c d)(e:Ao w w'):Cf w' B bW i ls f g c d:=
 ⟨(e.block _ (Ab h.box)).trans h.box,Aj h.lrow (fun k a=>e.block k (h.lrow.lt k a).2),Aj h.krow (fun k a=>e.block k (h.krow.lt k a).2),fun x b=>⟨(h.all x b).1.same (fun j l=>e.block j ((h.all x b).1.lt l)),(h.all x b).2⟩⟩
theorem Cf.nil{a:Value}(h:w.heap[bW]?=some (.cells #[a,Nl,Nl] 76 (0,0))):Cf w B bW a [] none 0 none 0:=
 ⟨h,Q2 _ _ _ _,Q2 _ _ _ _,fun x b=>by simp at b⟩
def Lw(bW:Nat)(sv kv lv:Value):Nat->Prop:=fun k=>k=bW\/Ak sv k\/Ak kv k\/Ak lv k
theorem infoStrs:(prog.info? 47).map (fun i=>(i.zero,i.size,i.bytes))=some (some Nl,1,24):=by kernel_rfl
def K5(S:Np)(w:World)(t:TypeId):Prop:=∀k,S k->∃cl fr,w.heap[k]?=some (.cells cl t fr)
theorem K5.block{b:TypeId}{cl:Av}(c:K5 S w t)(d:Ad S w w')(h:w.heap[k]?=some (.cells cl b fr))(f:b≠t):w'.heap[k]?=some (.cells cl b fr):=
 (d.block k (Ab h) (fun e=>by
  obtain⟨g,i,a⟩:=c k e;rw[h]at a;simp at a;exact f a.2.1)).trans h
theorem K5.row{t e:Nat}(b:K5 S w t)(d:Ad S w w')(h:w.ownsRow B e size v n xs)(f:e≠t):w'.ownsRow B e size v n xs:=
 Aj h (fun k c=>by
  obtain⟨cl,fr,a⟩:=own_ty h k c;rw[b.block d a f,a])
theorem K5.list(a:K5 S w t)(b:Ad S w w')(h:EV w v k)(c:9≠t):EV w' v k:=by
 obtain⟨n,hn,h⟩:=h;exact⟨n,hn,a.row b h c⟩
theorem WA(m:Value)(xs:Lv)(i:Nat)(hi:i<xs.length):(List.replicate i m++xs.drop i).set i m=List.replicate (i+1) m++xs.drop (i+1):=by
 rw[QC hi,List.set_append_right _ _ Ys,QE,Nat.sub_self,List.set_cons_zero,List.replicate_succ',Qi];rfl
structure Xv(w w4:World)(B k n:Nat)(lv gv hv jv:Value):Prop where
 kept:Ad (Ak lv) w w4
 l:w4.ownsRow B 9 1 lv n (List.replicate n (DN k))
 g:w4.ownsRow B 9 1 gv (n+1) (List.replicate (n+1) (DN k))
 h:w4.ownsRow B 9 1 hv (n+2) (List.replicate (n+2) (DN k))
 j:w4.ownsRow B 9 1 jv (n+3) (List.replicate (n+3) (DN k))
theorem UU{w4 w5 w7:World}{z H I:Value}{ls:List (Value×Nat)}{c a sa' ka':Oa}{d b sc' kc':Nat}(h:Cf w B bW z ls c d a b)(hl:K5 (Ak lv) w 9)(ad:∀x∈ls,∀k,x.1.ownBlock=some k->lv.ownBlock≠some k)(hn:n<=20000)(o:Xv w w4 B ls.length n lv gv H I):
  let q:=w4.alloc (.cells #[lv,gv,H,I] 47)
  w4.heap[bW]?=some (.cells #[z,.slice c ls.length d,.slice a ls.length b] 76 (0,0))/\q.ownsRow B 47 1 (.slice c ls.length d) ls.length (ls.map (·.1))/\
  (Ar q B 47 1 (.slice c ls.length d) (ls.length+4) (ls.map (·.1)++[lv,gv,H,I]) (.slice sa' (ls.length+4) sc') w5->
   let s:=w5.setCell ⟨bW,1,none⟩ (.slice sa' (ls.length+4) sc')
   let r:=s.alloc (.cells #[Vi ls.length,Vi ls.length,Vi ls.length,Vi ls.length] 3)
   w5.heap[bW]?=some (.cells #[z,.slice c ls.length d,.slice a ls.length b] 76 (0,0))/\s.heap[bW]?=some (.cells #[z,.slice sa' (ls.length+4) sc',.slice a ls.length b] 76 (0,0))/\r.ownsRow B 3 1 (.slice a ls.length b) ls.length (ls.map fun x=>Vi x.2)/\
   (Ar r B 3 1 (.slice a ls.length b) (ls.length+4) ((ls.map fun x=>Vi x.2)++[Vi ls.length,Vi ls.length,Vi ls.length,Vi ls.length]) (.slice ka' (ls.length+4) kc') w7->
    let u:=w7.setCell ⟨bW,2,none⟩ (.slice ka' (ls.length+4) kc')
    w7.heap[bW]?=some (.cells #[z,.slice sa' (ls.length+4) sc',.slice a ls.length b] 76 (0,0))/\Ad (Lw bW (.slice c ls.length d) (.slice a ls.length b) lv) w u/\
    Cf u B bW z (ls++[(lv,ls.length),(gv,ls.length),(H,ls.length),(I,ls.length)]) sa' sc' ka' kc')):=by
 intro q;have M:=hl.block o.kept h.box Yd;have X:=hl.row o.kept h.lrow Yd;have U:=hl.row o.kept h.krow Yd;have T:∀x∈ls,EV w4 x.1 x.2:=fun x f=>(h.all x f).1.same (fun j G=>o.kept.block j ((h.all x f).1.lt G) (fun e=>ad x f j G e));have A:Ao w4 q:=Mxt;have Y:q.ownsRow B 47 1 (.slice c ls.length d) ls.length (ls.map (·.1)):=Aj X (fun k p=>A.block k (X.lt k p).2);refine⟨M,Y,fun y=> ?_⟩;intro s r;have E:K5 (Ak (.slice c ls.length d)) q 47:=own_ty Y;have N:=E.block y.kept ((A.block _ (Ab M)).trans M) Yd;have ae:=E.row y.kept (Aj U (fun k p=>A.block k (U.lt k p).2)) Yd;have am:∀{v:Value}{m:Nat},w4.ownsRow B 9 1 v m (List.replicate m (DN ls.length))->w5.ownsRow B 9 1 v m (List.replicate m (DN ls.length)):=fun t=>E.row y.kept (Aj t (fun k p=>A.block k (t.lt k p).2)) Yd;have ac:∀x∈ls,EV w5 x.1 x.2:=fun x f=>E.list y.kept ((T x f).same (fun j G=>A.block j ((T x f).lt G))) Yd;have S:K5 (only bW) w5 76:=fun k e=>by
  have e:k=bW:=e;subst e;exact⟨_,_,N⟩
 have L:Ad (only bW) w5 s:=(Ad.refl _ _).put 1 _;have P:s.heap[bW]?=_:=Af N 1 _;have K:Ao s r:=Mxt;have W:=S.row L ae Yd;have V:r.ownsRow B 3 1 (.slice a ls.length b) ls.length (ls.map fun x=>Vi x.2):=Aj W (fun k p=>K.block k (W.lt k p).2);refine⟨N,P,V,fun D=> ?_⟩;intro u;have R:K5 (Ak (.slice a ls.length b)) r 3:=own_ty V;have O:=R.block D.kept ((K.block _ (Ab P)).trans P) Yd;have J:∀{B' e size n:Nat}{v:Value}{xs:Lv},w5.ownsRow B' e size v n xs->e≠76->e≠3->w7.ownsRow B' e size v n xs:=fun t aa ab=>by
  have Z:=S.row L t aa;exact R.row D.kept (Aj Z (fun k p=>K.block k (Z.lt k p).2)) ab
 have F:K5 (only bW) w7 76:=fun k e=>by
  have e:k=bW:=e;subst e;exact⟨_,_,O⟩
 have C:Ad (only bW) w7 u:=(Ad.refl _ _).put 2 _;have fin:∀{v:Value}{m:Nat},m<=30000->w4.ownsRow B 9 1 v m (List.replicate m (DN ls.length))->EV u v ls.length:=fun Q t=>⟨_,Q,AI (F.row C (J (am t) Yd Yd) Yd) (Qm _)⟩;refine⟨O,?_,?_,?_,?_,fun x f=> ?_⟩
 ·have af:Ad (Lw bW (.slice c ls.length d) (.slice a ls.length b) lv) w w4:=o.kept.mono (fun i _ e=>Or.inr (Or.inr (Or.inr e)));have ag:Ad (Lw bW (.slice c ls.length d) (.slice a ls.length b) lv) w4 q:=(Ad.refl _ _).alloc _;have ah:Ad (Lw bW (.slice c ls.length d) (.slice a ls.length b) lv) q w5:=y.kept.mono (fun i _ e=>Or.inr (Or.inl e));have ai:Ad (Lw bW (.slice c ls.length d) (.slice a ls.length b) lv) w5 s:=L.mono (fun i _ e=>Or.inl e);have aj:Ad (Lw bW (.slice c ls.length d) (.slice a ls.length b) lv) s r:=(Ad.refl _ _).alloc _;have ak:Ad (Lw bW (.slice c ls.length d) (.slice a ls.length b) lv) r w7:=D.kept.mono (fun i _ e=>Or.inr (Or.inr (Or.inl e)));have al:Ad (Lw bW (.slice c ls.length d) (.slice a ls.length b) lv) w7 u:=C.mono (fun i _ e=>Or.inl e);exact(((((af.trans ag).trans ah).trans ai).trans aj).trans ak).trans al
 ·have:=Af O 2 (.slice ka' (ls.length+4) kc');simpa using this
 ·have:=F.row C (J y.owns Yd Yd) Yd;simpa using this
 ·have:=F.row C D.owns Yd;simpa using this
 ·rw[Qg];rcases Qk.1 f with f|f
  ·refine⟨?_,by have:=(h.all x f).2;omega⟩;obtain⟨m,Q,t⟩:=ac x f;exact⟨m,Q,F.row C (J t Yd Yd) Yd⟩
  ·simp at f;rcases f with rfl|rfl|rfl|rfl
   ·exact⟨fin Yo o.l,Nat.le_add_right _ _⟩
   ·exact⟨fin Yo o.g,Nat.le_add_right _ _⟩
   ·exact⟨fin Yo o.h,Nat.le_add_right _ _⟩
   ·exact⟨fin Yo o.j,Nat.le_add_right _ _⟩
def XW(bW:Nat)(sv kv:Value):Nat->Prop:=fun k=>k=bW\/Ak sv k\/Ak kv k
structure UQ(w w':World)(bW:Nat)(sv kv sv' kv':Value):Prop where
 kept:Ad (XW bW sv kv) w w'
 so:∀k,k<w.heap.size->Ak sv' k->Ak sv k
 ko:∀k,k<w.heap.size->Ak kv' k->Ak kv k
def VA(w:World)(B bW:Nat)(v0:Value)(N:Nat)(sv kv lv:Value)(e:Ending)(w':World):Prop:=
 e= .returned (.tuple #[])/\Ad (Lw bW sv kv lv) w w'/\∃ls' sa sc ka kc,ls'.length=N/\Cf w' B bW v0 ls' sa sc ka kc/\(∀k,k<w.heap.size->Ak (.slice sa ls'.length sc) k->Ak sv k)/\∀k,k<w.heap.size->Ak (.slice ka ls'.length kc) k->Ak kv k
theorem MF{N:Nat}{a:Oa}{m c:Nat}(h:(Value.slice a n c).ownBlock=v.ownBlock\/∃g,(Value.slice a n c).ownBlock=some g/\M<=g)(f:N<=M):∀k,k<N->Ak (.slice a m c) k->Ak v k:=fun k i b=>by
 have b:(Value.slice a n c).ownBlock=some k:=by cases a<;>simp[Ak,Value.ownBlock]at b⊢;exact b
 rcases h with h|⟨g,d,e⟩
 ·rw[h]at b;exact b
 ·rw[d]at b;simp at b;omega
structure Xc(w wr:World)(B:Nat)(m:Value)(i n:Nat)(lv:Value)(xs:List Value):Prop where
 kept:Ad (Ak lv) w wr
 row:wr.ownsRow B 9 1 lv n (List.replicate i m++xs.drop i)
theorem Xc.step{g c:Nat}{m:Value}(h:Xc w wr B m i n (.slice (some ⟨g,0,none⟩) n c) xs)(hi:i<xs.length):Xc w (wr.setCell ⟨g,i,none⟩ m) B m (i+1) n (.slice (some ⟨g,0,none⟩) n c) xs:=by
 refine⟨h.kept.setCell (p:=⟨g,i,none⟩) (fun _=>by simp[Ak,Value.ownBlock]) _,?_⟩;rw[<-WA m xs i hi];exact BY h.row i m
structure Wc(w0 w:World)(lv gv:Value):Prop where
 kept:Ad (Ak lv) w0 w
 own:∀k,k<w0.heap.size->Ak gv k->Ak lv k
theorem Wc.step{d:Value}{e:Nat}(h:Wc w0 w lv gv)(c:Ar w B e size gv n xs d w'):Wc w0 w' lv d:=
 ⟨h.kept.then c.kept h.own,fun k f a=>by
  rcases c.where_ with b|⟨g,b,i⟩
  ·exact h.own k f (by unfold Ak at a⊢;rw[<-b];exact a)
  ·unfold Ak at a;rw[b]at a;simp at a;have:=h.kept.size;omega⟩
theorem H4(h:Ao w w'):Ad S w w':=⟨h.os,h.tape,h.output,h.size,fun k a _=>h.block k a⟩
theorem Ie{e c j:Nat}{a:Oa}(h:w.ownsRow B e 1 (.slice a n c) n xs)(m:j<n):∃g u,a=some ⟨g,0,none⟩/\g<w.hz/\xs[j]?=some u/\w.cell? ⟨g,j,none⟩=some u/\∃b,w.heap[g]?=some (.cells b e (0,0)):=by
 rcases h.2 with⟨d,l⟩|⟨g,k,b,d,_,i,_⟩
 ·omega
 ·simp only[QH]at d;obtain⟨rfl,_,rfl⟩:=d;have hl:=h.1;obtain⟨u,f⟩:∃u,xs[j]?=some u:=⟨_,Qb Yo⟩;exact⟨g,u,rfl,(h.lt g rfl).2,f,Ag h j u f,b,i⟩
theorem NQ(n:Nat)(m:Value):List.replicate n m++[m]=List.replicate (n+1) m:=List.replicate_succ'.symm
theorem WE{w3 w4:World}{b f:Value}(h0:Ad (Ak lv) w wr)
  (j:Ar wr B 9 1 lv (n+1) (List.replicate n (DN k)++[DN k]) gv w2) (p:w2.ownsRow B 9 1 lv n (List.replicate n (DN k)))
  (d:Ar w2 B 9 1 gv (n+1+1) (List.replicate (n+1) (DN k)++[DN k]) b w3) (l:w3.ownsRow B 9 1 gv (n+1) (List.replicate (n+1) (DN k)))
  (a:Ar w3 B 9 1 b (n+2+1) (List.replicate (n+2) (DN k)++[DN k]) f w4) (e:w4.ownsRow B 9 1 b (n+2) (List.replicate (n+2) (DN k))):Xv w w4 B k n lv gv b f:=by
 have m:Wc w w4 lv f:=(((⟨h0,fun _ _ h=>h⟩:Wc w wr lv lv).step j).step d).step a;have g:=j.owns;have c:=d.owns;have i:=a.owns;rw[NQ]at g c i;have q:=IF p g d.kept l Ys Yo;have r:=IF q c a.kept e Yp Yo;have o:=IF l c a.kept e Ys Yo;exact⟨m.kept,r,o,e,i⟩
theorem M4(w:World)(e:TypeId)(a b c d:Value)(h:∀u∈[a,b,c,d],u.oneCell'=true):Jn (w.alloc (.cells #[a,b,c,d] e)) 1 (.slice (some ⟨w.hz,0,none⟩) 4 4) 4 [a,b,c,d]:=
 ⟨rfl,h,Or.inr ⟨_,_,rfl,fun j u g=>by
  have f:(⟨w.hz,0,none⟩:Addr).add j=⟨w.hz,j,none⟩:=by unfold Addr.add;split<;>simp_all
  rw[f,cell_of_row _ w.hz j #[a,b,c,d] e (0,0) (QL w _)];simpa using g⟩⟩
theorem Xe(w:World)(B a:Nat)(am:Value)(ls:List (Value×Nat))(c:Oa)(d:Nat)(l:Oa)(p:Nat)(h:Cf w B a am ls c d l p)(bj:B<=a)(bo:ls.length<=10000000)
  (la:Oa) (n lc:Nat) (xs:Lv) (I:w.ownsRow B 9 1 (.slice la n lc) n xs) (hn:n<=20000) (ac:∀x∈ls,∀k,x.1.ownBlock=some k->(Value.slice la n lc).ownBlock≠some k) (T:Nat) (ab:Hi T w):
  Calls prog 94 #[Pt a,.slice la n lc] w (VA w B a am (ls.length+4) (.slice c ls.length d) (.slice l ls.length p) (.slice la n lc)):=by
 have az:w.cell? ⟨a,1,none⟩=some (.slice c ls.length d):=Aa h.box 1 _ rfl;have HM:=hd (Pw ls.length w Yo T ab);obtain⟨m,H⟩:∃m,DN ls.length= .string m:=⟨_,rfl⟩;obtain⟨L,bk⟩:=Ex ls.length;have bl:=Ab h.box;have ay:=hd H;rw[H]at HM;have av:=hd h;have s:=hd I;have bu:xs.length=n:=by have:=I.1;omega
 have U:=hd ac;clear h I ac ab H;go_enter func94,ntmps94;go_wp2_with fail;apply HM.o.mono;rintro e w1 ⟨rfl,F⟩;have O:=hd F;have bp:=F.size;clear F az;go_wp2
 go_loopw [6] (fun i wr=>∃j:Nat,j<=n/\i=Vi j/\Xc w1 wr B (.string m) j n (.slice la n lc) xs) (fun i _=>n-(intOf i).toNat)
 case atStart=>exact⟨0,Qm _,rfl,Ad.refl _ _,by simpa using Aj s.o (fun k a8=>O.o.block k (s.o.lt k a8).2)⟩
 case round=>
  obtain⟨j,bn,rfl,b⟩:=hrel;have P:=hd b
  by_cases a9:j<n
  ·obtain⟨g,u,rfl,bm,_,cg,bf,ae⟩:=Ie b.row a9;have bi:=Ae ae j;clear b ae;go_wp2
   go_roundw
   case rel=>exact⟨j+1,Yo,Yg,P.o.step Yo⟩
   case measure=>simp[intOf];omega
  ·obtain rfl:j=n:=Yo
   have V:Hd (Ad (Ak (.slice la j lc)) w wr):=(H4 O.o).trans b.kept;have Y:Hd (wr.ownsRow B 9 1 (.slice la j lc) j (List.replicate j (.string m))):=by
    have:=b.row;rw[List.drop_of_length_le Yo,Qs]at this;exact this
   have bt:=b.kept.size;clear b P
   go_wp2_with (at_builtin;go_loud (refine Fd wr rfl (.tmp 27) (.tmp 29) 47 rfl B 9 infoStr underlying47 rfl Yd (.slice la j lc) j (List.replicate j (.string m)) rfl Y.o #[.string m] (N:=wr.hz) rfl rfl rfl (by simp[Value.oneCell']) ?_ ?_ ?_))
   ·omega
   ·omega
   intro D w2 t ah;have K:=hd t;have W:=hd ah;have bq:=t.kept.size;have Q:Hd (w2.ownsRow B 9 1 D (j+1) (List.replicate (j+1) (.string m))):=by have:=t.owns;rw[NQ]at this;exact this
   clear t ah
   go_wp2_with (at_builtin;go_loud (refine Fd w2 rfl (.tmp 31) (.tmp 33) 47 rfl B 9 infoStr underlying47 rfl Yd D (j+1) (List.replicate (j+1) (.string m)) rfl Q.o #[.string m] (N:=w2.hz) rfl rfl rfl (by simp[Value.oneCell']) ?_ ?_ ?_))
   ·omega
   ·omega
   intro J w3 v ai;have M:=hd v;have X:=hd ai;have br:=v.kept.size;have R:Hd (w3.ownsRow B 9 1 J (j+2) (List.replicate (j+2) (.string m))):=by have:=v.owns;rw[NQ]at this;exact this
   clear v ai
   go_wp2_with (at_builtin;go_loud (refine Fd w3 rfl (.tmp 35) (.tmp 37) 47 rfl B 9 infoStr underlying47 rfl Yd J (j+2) (List.replicate (j+2) (.string m)) rfl R.o #[.string m] (N:=w3.hz) rfl rfl rfl (by simp[Value.oneCell']) ?_ ?_ ?_))
   ·omega
   ·omega
   intro be w4 E aj;have r:Xv w w4 B ls.length j (.slice la j lc) D J be:=by
    have e:=ay.o;refine WE (wr:=wr) (w2:=w2) (w3:=w3) V.o ?_ ?_ ?_ ?_ ?_ ?_<;>rw[e]
    ·exact K.o
    ·exact W.o
    ·exact M.o
    ·exact X.o
    ·exact E
    ·exact aj
   obtain⟨a4,a5,rfl⟩:=Ac r.g;obtain⟨ha,a7,rfl⟩:=Ac r.h;obtain⟨bc,bd,rfl⟩:=Ac r.j;have bs:=E.kept.size;have C:=hd (fun(w5 w7:World)(sa' ka':Oa)(sc' kc':Nat)=>UU (w5:=w5) (w7:=w7) (sa':=sa') (ka':=ka') (sc':=sc') (kc':=kc') av.o (own_ty s.o) U.o hn r);clear r E aj K M W X Q R Y V U s;obtain⟨ad,ag,_⟩:=C.o w4 w4 none none 0 0;have a0:w4.cell? ⟨a,1,none⟩=some (.slice c ls.length d):=Aa ad 1 _ rfl;have ax:=hd ag;have aq:=hd (M4 w4 47 (.slice la j lc) (.slice a4 (j+1) a5) (.slice ha (j+2) a7) (.slice bc (j+3) bd) (by simp[Value.oneCell']));clear ag ad
   go_wp2_with (at_builtin;go_loud (refine BT _ rfl (.tmp 43) (.tmp 48) 74 rfl B 47 infoStrs underlying74 rfl Yd (.slice c ls.length d) ls.length (ls.map (·.1)) rfl ax.o (.slice (some ⟨w4.hz,0,none⟩) 4 4) 4 _ rfl aq.o ?_ ?_ ?_))
   ·omega
   ·first|omega|(simp;omega)
   intro bw w5 f;obtain⟨z,A,rfl⟩:=Ac f.owns;obtain⟨y,a6,af,_⟩:=(C.o w5 w4 z none A 0).2.2 f;have an:=hd f;have ar:Hd (∀m k,k<w.hz->Ak (.slice z m A) k->Ak (.slice c ls.length d) k):=fun m=>MF f.where_ Yp;have a1:w5.cell? ⟨a,1,none⟩=some (.slice c ls.length d):=Aa y 1 _ rfl;have a2:w5.cell? ⟨a,2,none⟩=some (.slice l ls.length p):=Aa y 2 _ rfl;have a3:=fun i=>Ae y i;have ba:=f.kept.size;simp at ba;have aw:=hd af;clear f y a6 af a0;have S:=hd (M4 (w5.setCell ⟨a,1,none⟩ (.slice z (ls.length+4) A)) 3 (Vi ls.length) (Vi ls.length) (Vi ls.length) (Vi ls.length) (by simp[Value.oneCell']));rw[World.size_setCell]at S
   go_wp2_with (at_builtin;go_loud (refine BT _ rfl (.tmp 56) (.tmp 61) 25 rfl B 3 infoInt underlying25 rfl Yd (.slice l ls.length p) ls.length (ls.map fun x=>Vi x.2) rfl aw.o _ 4 _ rfl S.o ?_ ?_ ?_))
   ·omega
   ·first|omega|(simp;omega)
   intro bv w7 q;obtain⟨ak,al,rfl⟩:=Ac q.owns;obtain⟨G,Z,aa⟩:=((C.o w5 w7 z ak A al).2.2 an.o).2.2.2 q;have bg:w7.cell? ⟨a,2,none⟩=some (.slice l ls.length p):=Aa G 2 _ rfl;have bh:=fun i=>Ae G i;have bb:=q.kept.size;simp at bb;have ao:=hd Z;have au:Hd (∀m k,k<w.hz->Ak (.slice ak m al) k->Ak (.slice l ls.length p) k):=fun m=>MF q.where_ Yp;have ap:=hd aa;clear q G Z aa a1 a2 a3;go_wp2;go_end0;exact⟨rfl,ao.o,_,_,_,_,_,Ys,ap.o,ar.o _,au.o _⟩
theorem EV.read(h:EV w v k):∃a n c,v= .slice a n c/\n<=30000/\∀i,i<n->∃g,a=some ⟨g,0,none⟩/\g<w.hz/\w.cell? ⟨g,i,none⟩=some (DN k):=by
 obtain⟨n,hn,h⟩:=h;obtain⟨a,c,rfl⟩:=Ac h;refine⟨a,n,c,rfl,hn,fun i hi=> ?_⟩;obtain⟨g,u,rfl,e,b,d,_⟩:=Ie h hi;rw[List.getElem?_replicate,if_pos hi]at b
 cases b
 exact⟨g,rfl,e,d⟩
theorem Hi.ext(h:Hi B w)(a:B<=w.hz)(e:Ao w w'):Hi B w':=Lib.TabBelow.on h (e.mono a)
theorem Up(w:World)(B c:Nat)(G:Value)(ls:List (Value×Nat))(k:Oa)(l:Nat)(r:Oa)(s:Nat)(h:Cf w B c G ls k l r s)(X:ls.length<=50000000)(T:Nat)(E:Hi T w)(N:T<=w.hz):
  Calls prog 39 #[Pt c] w fun e w'=>e= .returned (.bool true)/\Ao w w':=by
 have y:Hd (∀u,Ao w u->Cf u B c G ls k l r s):=fun u b=>h.ext b;have H:Hd (∀u,Ao w u->Hi T u):=fun u b=>E.ext N b;have S:=Ab h.box;clear h E;go_enter func39,ac;go_wp2
 go_loopw [3] (fun i wr=>∃j:Nat,j<=ls.length/\i=Vi j/\Ao w wr) (fun i _=>ls.length-(intOf i).toNat)
 case atStart=>exact⟨0,Qm _,rfl,Below.refl _ _⟩
 case round=>
  obtain⟨j,V,rfl,d⟩:=hrel;have z:=hd d;have a:=y.o wr d;have K:wr.cell? ⟨c,1,none⟩=some (.slice k ls.length l):=Aa a.box 1 _ rfl;have L:wr.cell? ⟨c,2,none⟩=some (.slice r ls.length s):=Aa a.box 2 _ rfl
  by_cases p:j<ls.length
  ·obtain⟨x,f⟩:∃x,ls[j]?=some x:=⟨_,Qb p⟩;obtain⟨ab,u,rfl,W,b,M,_⟩:=Ie a.krow p;rw[Qj,f]at b
   cases b
   have Q:=(a.all x (Qh f)).2;have HM:=hd (Pw x.2 wr Yo T (H.o wr d));obtain⟨m,q⟩:∃m,DN x.2= .string m:=⟨_,rfl⟩;rw[q]at HM;have J:=hd q;have C:=hd f;have P:=d.size;clear a d f q;go_wp2_with fail;apply HM.o.mono;rintro e w1 ⟨rfl,D⟩;have A:Hd (Ao w w1):=z.o.trans (D.mono P);have a:=y.o w1 A.o;have R:w1.cell? ⟨c,1,none⟩=some (.slice k ls.length l):=Aa a.box 1 _ rfl;obtain⟨ad,u,rfl,Y,b,cs,_⟩:=Ie a.lrow p;rw[Qj,C.o]at b
   cases b
   obtain⟨ae,v,af,F,aa,n⟩:=(a.all x (Qh C.o)).1.read;simp only[F]at cs;rw[J.o]at n;have I:=hd n;clear K L M D a n HM F Q;go_wp2
   go_loop [5] (fun i=>∃t:Nat,t<=v/\i=Vi t) (fun i=>v-(intOf i).toNat)
   case atStart=>exact⟨0,Qm _,rfl⟩
   case round=>
    obtain⟨t,Z,rfl⟩:=hrel
    by_cases O:t<v
    ·obtain⟨g,rfl,U,cg⟩:=I.o t O;go_wp2
     go_round
     case rel=>exact⟨t+1,Yo,Yg⟩
     case measure=>simp[intOf];omega
    ·go_wp2
     go_roundw
     case rel=>exact⟨j+1,Yo,Yg,A.o⟩
     case measure=>simp[intOf];omega
  ·clear a d;go_wp2;go_ret;exact⟨rfl,z.o⟩
def Ck(l:Lu):Nat->Nat->Nat->Bool->Option Nat
 |0,p,_,_=>some p
 |f+1,p,o,due=>match l[p]? with
  |none=>if due=true\/0<o then some p else none
  |some c=>if due=true then(if c=33 then Ck l f (p+1) o false else if c=40 then Ck l f (p+1) (o+1) false else some p)
    else if o=0 then some p
    else if c=41 then Ck l f (p+1) (o-1) false
    else if(As (l.drop p)).2=0 then some p else Ck l f (p+(As (l.drop p)).2) o true
def DL(l:Lu):Option Nat:=Ck l (l.length+1) 0 0 true
def Sh(l:Lu)(p o:Nat)(due:Bool):Prop:=∃f,l.length<f+p/\Ck l f p o due=none
theorem Sh.start{l:Lu}(h:DL l=none):Sh l 0 0 true:=⟨l.length+1,Yo,h⟩
theorem Sh.due{l:Lu}{o:Nat}(h:Sh l p o true):(l[p]?=some 33/\Sh l (p+1) o false)\/(l[p]?=some 40/\Sh l (p+1) (o+1) false):=by
 obtain⟨f,d,a⟩:=h
 cases f with
 |zero=>simp[Ck]at a
 |succ f=>
  unfold Ck at a
  cases b:l[p]? with
  |none=>rw[b]at a;simp at a
  |some c=>
   rw[b]at a;simp only[if_true]at a;split at a
   ·rename_i e;subst e;exact Or.inl ⟨rfl,f,Yo,a⟩
   ·split at a
    ·rename_i e;subst e;exact Or.inr ⟨rfl,f,Yo,a⟩
    ·simp at a
theorem Sh.open{l:Lu}{o:Nat}(h:Sh l p (o+1) false):(l[p]?=some 41/\Sh l (p+1) o false)\/(∃c,l[p]?=some c/\c≠41/\(As (l.drop p)).2≠0/\Sh l (p+(As (l.drop p)).2) (o+1) true):=by
 obtain⟨f,g,a⟩:=h
 cases f with
 |zero=>simp[Ck]at a
 |succ f=>
  unfold Ck at a
  cases b:l[p]? with
  |none=>rw[b]at a;simp at a
  |some c=>
   rw[b]at a;simp only[Bool.false_eq_true,if_false,Nat.add_one_ne_zero,Nat.add_sub_cancel]at a;split at a
   ·rename_i e;subst e;exact Or.inl ⟨rfl,f,Yo,a⟩
   ·rename_i e;split at a
    ·simp at a
    ·rename_i d;exact Or.inr ⟨c,rfl,e,d,f,Yo,a⟩
structure HN where
 at':Nat
 wrong:Bool
 ans:List (List UInt8)
mutual
inductive EF (cs:List Dt) (names:At) (l:List UInt8):ND->Nat->List (List UInt8)->HN->Prop
 |leaf (n:ND) (p:Nat) (A:List (List UInt8)) (hc:l[p]?=some 33) (h:n.goals=[]):EF cs names l n p A ⟨p+1,false,A++[AU names n]⟩
 |noleaf (n:ND) (p:Nat) (A:List (List UInt8)) (hc:l[p]?=some 33) (h:n.goals≠[]):EF cs names l n p A ⟨p,true,A⟩
 |nonode (n:ND) (p:Nat) (A:List (List UInt8)) (hc:l[p]?=some 40) (h:n.goals=[]):EF cs names l n p A ⟨p,true,A⟩
 |node (n:ND) (p:Nat) (A:List (List UInt8)) (R:HN) (hc:l[p]?=some 40) (h:n.goals≠[]) (hk:Is cs names l n cs.length 0 (p+1) A R):EF cs names l n p A R
inductive Is (cs:List Dt) (names:At) (l:List UInt8):ND->Nat->Nat->Nat->List (List UInt8)->HN->Prop
 |shut (n:ND) (k p:Nat) (A:List (List UInt8)) (hc:l[p]?=some 41):Is cs names l n 0 k p A ⟨p+1,false,A⟩
 |noshut (n:ND) (k p:Nat) (A:List (List UInt8)) (c:UInt8) (hc:l[p]?=some c) (hn:c≠41):Is cs names l n 0 k p A ⟨p,true,A⟩
 |miss (n:ND) (f k p:Nat) (A:List (List UInt8)) (c:Dt) (R:HN) (hc:cs[k]?=some c) (hq:(Ax n c k).2=0) (h:Is cs names l n f (k+1) p A R):Is cs names l n (f+1) k p A R
 |off (n:ND) (f k p:Nat) (A:List (List UInt8)) (c:Dt) (hc:cs[k]?=some c) (hq:(Ax n c k).2≠0) (hw:(As (l.drop p)).2=0\/(As (l.drop p)).1≠k\/(Ax n c k).2=3):Is cs names l n (f+1) k p A ⟨p,true,A⟩
 |bad (n:ND) (f k p:Nat) (A:List (List UInt8)) (c:Dt) (R:HN) (hc:cs[k]?=some c) (hq:(Ax n c k).2=1\/(Ax n c k).2=2) (hs:(As (l.drop p)).2≠0) (hv:(As (l.drop p)).1=k) (h:EF cs names l (Ax n c k).1 (p+(As (l.drop p)).2) A R) (hw:R.wrong=true):Is cs names l n (f+1) k p A R
 |kid (n:ND) (f k p:Nat) (A:List (List UInt8)) (c:Dt) (R R2:HN) (hc:cs[k]?=some c) (hq:(Ax n c k).2=1\/(Ax n c k).2=2) (hs:(As (l.drop p)).2≠0) (hv:(As (l.drop p)).1=k) (h:EF cs names l (Ax n c k).1 (p+(As (l.drop p)).2) A R) (hw:R.wrong=false) (h2:Is cs names l n f (k+1) R.at' R.ans R2):Is cs names l n (f+1) k p A R2
end
theorem WB(cs:Lc)(names:At)(l:Lu):∀(d:Nat)(n:ND)(p o:Nat)(A:List (Lu)),l.length-p<=d->Sh l p o true->∃a,EF cs names l n p A a/\(a.wrong=false->p<a.at'/\Sh l a.at' o false):=by
 intro d
 induction d with
 |zero=>
  intro n p o A hd j;exfalso;rcases j.due with⟨h,_⟩|⟨h,_⟩
  ·have:=(Qa.1 h).1;omega
  ·have:=(Qa.1 h).1;omega
 |succ d G=>
  intro n p o A hd j;rcases j.due with⟨g,t⟩|⟨g,t⟩
  ·by_cases m:n.goals=[]
   ·exact⟨_,.leaf n p A g m,fun _=>⟨Nat.lt_succ_self _,t⟩⟩
   ·exact⟨_,.noleaf n p A g m,fun h=>by simp at h⟩
  ·have M:=(Qa.1 g).1
   by_cases m:n.goals=[]
   ·exact⟨_,.nonode n p A g m,fun h=>by simp at h⟩
   ·have kids:∀(f k p':Nat)(A:List (Lu)),f+k=cs.length->p<p'->Sh l p' (o+1) false->∃a,Is cs names l n f k p' A a/\(a.wrong=false->p<a.at'/\Sh l a.at' o false):=by
     intro f
     induction f with
     |zero=>
      intro k p' A F w j;rcases j.open with⟨b,i⟩|⟨c,b,i,_⟩
      ·exact⟨_,.shut n k p' A b,fun _=>⟨by show p<p'+1;omega,i⟩⟩
      ·exact⟨_,.noshut n k p' A c b i,fun h=>by simp at h⟩
     |succ f B=>
      intro k p' A F w j;obtain⟨c,g⟩:∃c,cs[k]?=some c:=⟨_,Qb Yo⟩
      by_cases y:(Ax n c k).2=0
      ·obtain⟨a,b,i⟩:=B (k+1) p' A Yo w j;exact⟨a,.miss n f k p' A c a g y b,i⟩
      ·by_cases s:(As (l.drop p')).2=0\/(As (l.drop p')).1≠k\/(Ax n c k).2=3
       ·exact⟨_,.off n f k p' A c g y s,fun h=>by simp at h⟩
       ·have r:(As (l.drop p')).2≠0:=fun h=>s (Or.inl h);have z:(As (l.drop p')).1=k:=by
         by_cases h:(As (l.drop p')).1=k
         ·exact h
         ·exact absurd (Or.inr (Or.inl h)) s
        have x:(Ax n c k).2=1\/(Ax n c k).2=2:=by
         have:=FD n c k;have L:(Ax n c k).2≠3:=fun h=>s (Or.inr (Or.inr h));omega
        rcases j.open with⟨b,_⟩|⟨J,b,i,_,E⟩
        ·exfalso;have hl:p'<l.length:=(Qa.1 b).1;have e:l.drop p'=41::l.drop (p'+1):=by rw[QC hl,(Qa.1 b).2]
         rw[e]at r;simp[As,Fh]at r
        ·obtain⟨a,v,C⟩:=G (Ax n c k).1 (p'+(As (l.drop p')).2) (o+1) A Yo E
         cases q:a.wrong with
         |true=>exact⟨a,.bad n f k p' A c a g x r z v q,fun h=>by rw[q]at h;simp at h⟩
         |false=>
          obtain⟨K,D⟩:=C q;obtain⟨u,H,I⟩:=B (k+1) a.at' a.ans Yo Yo D;exact⟨u,.kid n f k p' A c a u g x r z v q H,I⟩
    obtain⟨a,b,i⟩:=kids cs.length 0 (p+1) A Yo Yo t;exact⟨a,.node n p A a g m b,i⟩
def RA:Option Nat->Int
 |none=> -1
 |some p=>p
theorem FV(h:p<s.size):s.data.toList[p]?=some s[p]:=by
 have hl:p<s.data.toList.length:=by simpa using h
 rw[Qb hl];rfl
theorem Kh{c d:UInt8}(h:c≠d):(c.toNat:Int)≠(d.toNat:Int):=fun e=>h (UInt8.toNat.inj Yo)
theorem On(s:ByteArray)(w:World)(P:s.size<=100000):Calls prog 119 #[.string s] w fun e w'=>e= .returned (Vi (RA (DL s.data.toList)))/\w'=w:=by
 have t:s.data.toList.length=s.size:=Ys
 have HN:=hd (fun p u (J:p<=100001)=>FX s p u Yo Yo);obtain⟨l,hl⟩:=Ex s.data.toList;rw[<-hl]at t⊢;have z:=hd hl;have k:=hd t;obtain⟨N,q⟩:=Ex (DL l);rw[<-q];have D:=hd q;clear hl q t;go_enter func119,S;go_wp2
 go_loopg [3,4,5] (s.size+1) (fun gk K E av wr=>∃(p o f:Nat)(due:Bool),K=Vi o/\E= .bool due/\av=Vi p/\wr=w/\p<=s.size/\s.size-p<gk/\o<=p/\s.size<f+p/\Ck l f p o due=N)
 case atStart=>exact⟨0,0,s.size+1,true,Yg,rfl,Yg,rfl,Yo,Yo,Yo,Yo,by rw[D.o];unfold DL;rw[k.o]⟩
 case round=>
  obtain⟨p,o,f,due,rfl,rfl,rfl,rfl,J,M,O,L,B⟩:=hrel;have A:=hd B;clear B;obtain⟨f,rfl⟩:∃F,f=F+1:=⟨f-1,Yo⟩
  by_cases G:p<s.size
  ·have c:l[p]?=some s[p]:=by rw[z.o];exact FV G
   have a:=A.o;unfold Ck at a;rw[c]at a;simp only at a
   cases due with
   |true=>
    simp only[if_true]at a
    by_cases d:s[p]=33
    ·have b:Hd (Ck l f (p+1) o false=N):=by show _=_;rw[if_pos d]at a;exact a
     have x:((s[p].toNat:Int) !=33)=false:=by rw[d];rfl
     have C:((s[p].toNat:Int)==40)=false:=by rw[d];rfl
     clear a d c;go_wp2
     go_roundg (s.size-p)
     case measure=>omega
     case rel=>exact⟨p+1,o,f,false,Yg,rfl,Yg,rfl,Yo,Yo,Yo,Yo,b.o⟩
    ·have x:((s[p].toNat:Int) !=33)=true:=by
      rw[bne_iff_ne];exact Kh d
     by_cases g:s[p]=40
     ·have b:Hd (Ck l f (p+1) (o+1) false=N):=by show _=_;rw[if_neg d,if_pos g]at a;exact a
      have C:((s[p].toNat:Int) !=40)=false:=by rw[g];rfl
      have R:((s[p].toNat:Int)==40)=true:=by rw[g];rfl
      clear a d g c;go_wp2
      go_roundg (s.size-p)
      case measure=>omega
      case rel=>exact⟨p+1,o+1,f,false,Yg,rfl,Yg,rfl,Yo,Yo,Yo,Yo,b.o⟩
     ·have b:Hd (some p=N):=by show _=_;rw[if_neg d,if_neg g]at a;exact a
      have C:((s[p].toNat:Int) !=40)=true:=by
       rw[bne_iff_ne];exact Kh g
      clear a d g c;go_wp2;go_ret;rw[<-b.o];exact⟨rfl,rfl⟩
   |false=>
    simp only[Bool.false_eq_true,if_false]at a
    by_cases h:o=0
    ·have b:Hd (some p=N):=by show _=_;rw[if_pos h]at a;exact a
     subst h;clear a c;go_wp2;go_ret;rw[<-b.o];exact⟨rfl,rfl⟩
    ·rw[if_neg h]at a;have H:((o:Int)==0)=false:=by rw[Qu];omega
     by_cases i:s[p]=41
     ·have b:Hd (Ck l f (p+1) (o-1) false=N):=by show _=_;rw[if_pos i]at a;exact a
      have x:((s[p].toNat:Int)==41)=true:=by rw[i];rfl
      have I:(o:Int)-1=((o-1:Nat):Int):=Yo
      clear a i c;go_wp2
      go_roundg (s.size-p)
      case measure=>omega
      case rel=>exact⟨p+1,o-1,f,false,by rw[<-I],rfl,Yg,rfl,Yo,Yo,Yo,Yo,b.o⟩
     ·rw[if_neg i]at a;have x:((s[p].toNat:Int)==41)=false:=by
       rw[Qu];exact Kh i
      obtain⟨m,j,r⟩:∃m j,As (l.drop p)=(m,j):=⟨_,_,rfl⟩;have v:=Ci (l.drop p);rw[r]at v a;simp only[List.length_drop]at v a;rw[k.o]at v;have n:=HN.o p wr Yo;rw[<-z.o,r]at n;have y:=hd n;clear n r i c
      by_cases hz:j=0
      ·have b:Hd (some p=N):=by show _=_;rw[if_pos hz]at a;exact a
       subst hz;clear a;go_wp2_with fail;apply y.o.mono;rintro e w2 ⟨rfl,rfl⟩;go_wp2;go_ret;rw[<-b.o];exact⟨rfl,rfl⟩
      ·have b:Hd (Ck l f (p+j) o true=N):=by show _=_;rw[if_neg hz]at a;exact a
       have Q:(((j:Nat):Int)==0)=false:=by rw[Qu];omega
       clear a;go_wp2_with fail;apply y.o.mono;rintro e w2 ⟨rfl,rfl⟩;go_wp2
       go_roundg (s.size-p)
       case measure=>omega
       case rel=>exact⟨p+j,o,f,true,Yg,rfl,Yg,rfl,Yo,Yo,Yo,Yo,b.o⟩
  ·have c:l[p]?=none:=List.getElem?_eq_none_iff.2 (by rw[k.o];omega);have a:=A.o;unfold Ck at a;rw[c]at a;simp only at a
   cases due with
   |true=>
    have b:Hd (some p=N):=by show _=_;rw[if_pos (Or.inl rfl)]at a;exact a
    clear a c;go_wp2;go_ret;rw[<-b.o];exact⟨rfl,rfl⟩
   |false=>
    by_cases h:0<o
    ·have b:Hd (some p=N):=by show _=_;rw[if_pos (Or.inr h)]at a;exact a
     have H:(0:Int)<(o:Int):=Yo
     clear a c h;go_wp2;go_ret;rw[<-b.o];exact⟨rfl,rfl⟩
    ·have b:Hd (none=N):=by show _=_;rw[if_neg Yp]at a;exact a
     obtain rfl:o=0:=Yo
     clear a c h;go_wp2;go_ret;rw[<-b.o];exact⟨rfl,rfl⟩
def Ja(P:ND->Nat->List (Lu)->HN->Prop)(cs:Lc)(l:Lu)(n:ND):Nat->Nat->Nat->List (Lu)->HN->Prop
 |0,k,p,A,R=>(l[p]?=some 41/\R=⟨p+1,false,A⟩)\/(∃c,l[p]?=some c/\c≠41/\R=⟨p,true,A⟩)
 |f+1,k,p,A,R=>∃c,cs[k]?=some c/\(((Ax n c k).2=0/\Ja P cs l n f (k+1) p A R)\/
   ((Ax n c k).2≠0/\((As (l.drop p)).2=0\/(As (l.drop p)).1≠k\/(Ax n c k).2=3)/\R=⟨p,true,A⟩)\/
   (((Ax n c k).2=1\/(Ax n c k).2=2)/\(As (l.drop p)).2≠0/\(As (l.drop p)).1=k/\∃R1,P (Ax n c k).1 (p+(As (l.drop p)).2) A R1/\((R1.wrong=true/\R=R1)\/(R1.wrong=false/\Ja P cs l n f (k+1) R1.at' R1.ans R))))
theorem EF.ind{names:At}{l:Lu}{P:ND->Nat->List (Lu)->HN->Prop}
  (o:∀n p A,l[p]?=some 33->n.goals=[]->P n p A ⟨p+1,false,A++[AU names n]⟩) (q:∀n p A,l[p]?=some 33->n.goals≠[]->P n p A ⟨p,true,A⟩) (r:∀n p A,l[p]?=some 40->n.goals=[]->P n p A ⟨p,true,A⟩)
  (s:∀n p A b,l[p]?=some 40->n.goals≠[]->Ja P cs l n cs.length 0 (p+1) A b->P n p A b) {n:ND} {A:List (Lu)} {b:HN} (h:EF cs names l n p A b):P n p A b:=by
 refine EF.rec (motive_1:=fun n p A b _=>P n p A b) (motive_2:=fun n f k p A b _=>Ja P cs l n f k p A b) ?_ ?_ ?_ ?_ ?_ ?_ ?_ ?_ ?_ ?_ h
 ·intro n p A a d;exact o n p A a d
 ·intro n p A a d;exact q n p A a d
 ·intro n p A a d;exact r n p A a d
 ·intro n p A b a d _ g;exact s n p A b a d g
 ·intro n k p A a;exact Or.inl ⟨a,rfl⟩
 ·intro n k p A c a hn;exact Or.inr ⟨c,a,hn,rfl⟩
 ·intro n f k p A c b a e _ g;exact⟨c,a,Or.inl ⟨e,g⟩⟩
 ·intro n f k p A c a e i;exact⟨c,a,Or.inr (Or.inl ⟨e,i,rfl⟩)⟩
 ·intro n f k p A c b a e j m _ i g;exact⟨c,a,Or.inr (Or.inr ⟨e,j,m,b,g,Or.inl ⟨i,rfl⟩⟩)⟩
 ·intro n f k p A c b u a e j m _ i _ g t;exact⟨c,a,Or.inr (Or.inr ⟨e,j,m,b,g,Or.inr ⟨i,t⟩⟩)⟩
def E9(cs:Lc)(a:Ll×At)(s:ByteArray)(n:ND)(p:Nat)(A:List (Lu))(R:HN):Prop:=
 ∀(w0 w:World)(lv qv nv:Value)(xs:Lv)(m0 m1 m2 m3 m4 hv:Value),Gg (fun _=>False) w0 lv cs xs->Fi w0 qv nv a->Ao w0 w->Bx (fun _=>False) w m0 m1 m2 m3 m4 n->n.vals.length=a.2.length->w.ownsRow w0.heap.size 9 1 hv A.length (Ba A)->A.length<=p->
  Calls prog 121 #[lv,.agg #[qv,nv],.agg #[m0,m1,m2,m3,m4],.string s,.agg #[.int .i64 p,.bool false,hv]] w fun e w'=>∃hv',e= .returned (.agg #[.int .i64 R.at',.bool R.wrong,hv'])/\Ad (Ak hv) w w'/\w'.ownsRow w0.heap.size 9 1 hv' R.ans.length (Ba R.ans)/\R.ans.length<=R.at'/\R.at'<=s.size/\∀k,hv'.ownBlock=some k->hv.ownBlock=some k\/w.heap.size<=k
theorem F1{a c d:Value}(h:w.heap[b]?=some (.cells #[a,c,d] t (0,0))):
  w.cell? ⟨b,0,none⟩=some a/\w.cell? ⟨b,1,none⟩=some c/\w.cell? ⟨b,2,none⟩=some d/\∀i,w.frozen? ⟨b,i,none⟩=false:=
 ⟨Aa h 0 _ rfl,Aa h 1 _ rfl,Aa h 2 _ rfl,fun i=>Ae h i⟩
theorem P9(cs:Lc)(a:Ll×At)(s:ByteArray)(W:s.size<=20000)(n:ND)(p:Nat)(A:List (Lu))(g:(s.data.toList[p]?=some 33/\n.goals≠[])\/(s.data.toList[p]?=some 40/\n.goals=[])):E9 cs a s n p A ⟨p,true,A⟩:=by
 intro F w Z ah nv xs ab ac ad ae af X r f B x C e q;have z:p<s.size:=by
  have:p<s.data.toList.length:=by rcases g with⟨h,_⟩|⟨h,_⟩<;>exact(Qa.1 h).1
  simpa using this
 obtain⟨J,K,M,O,N,P,R,Q,S,U,T,V,rfl,rfl,rfl,rfl,rfl⟩:=x.len;obtain⟨la,Y,rfl⟩:=Ac r.owns;obtain⟨I,m⟩:=f.atoms;obtain⟨aa,H,rfl⟩:=Ac m.1;obtain⟨na,ag,rfl⟩:=Ac f.names;obtain⟨ha,d,rfl⟩:=Ac e;have y:((s[p].toNat:Int)==33)=true/\((n.goals.length:Int)==0)=false\/((s[p].toNat:Int)==33)=false/\((n.goals.length:Int)==0)=true:=by
  rcases g with⟨h,i⟩|⟨h,i⟩
  ·rw[FV z]at h;simp at h;refine Or.inl ⟨by rw[h];rfl,?_⟩;rw[Qu];have:n.goals.length≠0:=fun h=>i (List.eq_nil_of_length_eq_zero h);omega
  ·rw[FV z]at h;simp at h;exact Or.inr ⟨by rw[h];rfl,by rw[i];rfl⟩
 have l:Hd (∀w',Ao w w'->∃j,(Ending.returned (.agg #[Vi p,.bool true,.slice ha A.length d]))= .returned (.agg #[Vi p,.bool true,j])/\Ad (Ak (.slice ha A.length d)) w w'/\w'.ownsRow F.hz 9 1 j A.length (Ba A)/\A.length<=p/\p<=s.size/\∀k,j.ownBlock=some k->(Value.slice ha A.length d).ownBlock=some k\/w.hz<=k):=fun w' b=>
  ⟨_,rfl,⟨b.os,b.tape,b.output,b.size,fun k c _=>b.block k c⟩,Aj e (fun k c=>b.block k (e.lt k c).2),q,Yo,fun k c=>Or.inl c⟩
 obtain⟨L,u⟩:=Ex A.length;obtain⟨G,t⟩:=Ex n.goals.length;rw[<-u]at l⊢;rw[<-t]at y⊢;clear g r f m B x C e q u t;rcases y with⟨D,E⟩|⟨D,E⟩
 all_goals
  go_enter func121,ntmps121;go_wp2_with fail;go_quiet (fail);go_wp2;refine bodyPost_ret (v:= .agg #[Vi p,.bool true,.slice ha L d]) (by simp[results,results121,go_sem]) rfl ?_;exact l.o _ Mxt
theorem H8(h:k=w.hz)(o:Obj):(w.alloc o).heap[k]?=some o:=by subst h;exact QL w o
theorem UR(w:World)(A B C D:Obj):((((w.alloc A).alloc B).alloc C).alloc D).hz=w.hz+4/\((((w.alloc A).alloc B).alloc C).alloc D).heap[w.hz]?=some A/\((((w.alloc A).alloc B).alloc C).alloc D).heap[w.hz+1]?=some B/\((((w.alloc A).alloc B).alloc C).alloc D).heap[w.hz+1+1]?=some C/\((((w.alloc A).alloc B).alloc C).alloc D).heap[w.hz+1+1+1]?=some D/\Ao w ((((w.alloc A).alloc B).alloc C).alloc D):=
 ⟨Ys,Ah (Ah (Ah (H8 rfl _) _) _) _,Ah (Ah (H8 Ys _) _) _,Ah (H8 Ys _) _,H8 Ys _,Ao.of ((((Ad.refl _ _).alloc _).alloc _).alloc _|>.alloc _)⟩
theorem Uj(cs:Lc)(a:Ll×At)(s:ByteArray)(b0:s.size<=20000)(bh:a.2.length<=121)(bi:∀y∈a.2,y.length<=4096)(n:ND)(p:Nat)(A:List (Lu))(x:s.data.toList[p]?=some 33)(M:n.goals=[]):E9 cs a s n p A ⟨p+1,false,A++[AU a.2 n]⟩:=by
 intro ac w b6 cc nv xs b7 b8 b9 ca cb b3 ax K q L a6 P bw;have bk:p<s.size:=by
  have:p<s.data.toList.length:=(Qa.1 x).1;simpa using this
 obtain⟨ah,ai,aj,al,ak,an,ap,ao,aq,au,ar,av,rfl,rfl,rfl,rfl,rfl⟩:=L.len;obtain⟨la,b5,rfl⟩:=Ac ax.owns;obtain⟨bv,aw⟩:=K.atoms;obtain⟨aa,ag,rfl⟩:=Ac aw.1;obtain⟨na,a8,rfl⟩:=Ac K.names;obtain⟨ha,d,rfl⟩:=Ac P;have b4:((s[p].toNat:Int)==33)=true:=by
  rw[FV bk]at x;simp at x;rw[x];rfl
 have a1:n.goals.length=0:=by rw[M];rfl
 rw[a1]at L⊢;obtain⟨X,a0⟩:=Ex (AU a.2 n);have ad:=hd (fun u (a5:Ao w u)=>J2 u _ _ _ _ _ _ _ a n (K.ext (q.trans (a5.mono q.size))) (L.ext (Y:=fun _=>False) a5 (fun _ _ h=>h)) a6 bh bi);rw[<-a0]at ad⊢;obtain⟨f,S⟩:=Ex ((((w.alloc (.cells #[.slice aa a.1.length ag,.slice na a.2.length a8] 148)).alloc (.cells #[.slice ah 0 ai,.slice aj al ak,.slice an ap ao,.slice aq au ar,Vi av] 152)).alloc (.cells #[Vi p,.bool false,.slice ha A.length d] 206)).alloc (.cells #[Vi 0,.bool false,Nl] 206));obtain⟨bl,W,U,N,O,Q⟩:=UR w (.cells #[.slice aa a.1.length ag,.slice na a.2.length a8] 148) (.cells #[.slice ah 0 ai,.slice aj al ak,.slice an ap ao,.slice aq au ar,Vi av] 152) (.cells #[Vi p,.bool false,.slice ha A.length d] 206) (.cells #[Vi 0,.bool false,Nl] 206);rw[<-S]at bl W U N O Q;obtain⟨q0,bs,bt⟩:=Gu W;obtain⟨bm,bn,bo,bp,bq,br⟩:=C5 U;obtain⟨F,G,H,I⟩:=F1 N;obtain⟨B,C,D,E⟩:=F1 O;have a3:=P.lt;have bx:=q.size;have af:=hd P;have bu:=hd q;have J:=hd Q;have bb:=hd N;have bd:=hd O;have a9:=hd S;have ae:=hd a3;clear x M ax K aw q L a6 P a0 S W U N O Q a3 a1;go_enter func121,ntmps121;go_wp2_with fail;rw[<-a9.o];go_quiet (fail);go_wp2_with fail;have az:Ao w (f.drewN nq):=J.o.trans ((Ao.of ((Ad.refl _ f).drewN nq)).mono J.o.size);apply(ad.o _ az).mono;rintro e w1 ⟨rfl,ay⟩;have r:Ao f w1:=(Ao.of ((Ad.refl _ f).drewN nq):Ao f (f.drewN nq)).trans ay;have b1:=r.size;have R:Ao w w1:=J.o.trans (r.mono J.o.size);have T:=(r.block _ Yo).trans bb.o;have Z:=(r.block _ Yo).trans bd.o;clear q0 bs bt bm bn bo bp bq br F G H I B C D E;obtain⟨F,G,H,I⟩:=F1 T;obtain⟨B,C,D,E⟩:=F1 Z;have bf:=hd (Aj af.o (fun k l=>R.block k (af.o.lt k l).2));have m:=hd R;have bc:=hd T;have be:=hd Z;have bz:w.hz+1+1+1<w1.hz:=Yo
 clear ay r R T Z az
 go_wp2_with (at_builtin;go_loud (refine Am w1 rfl (.tmp 38) (.tmp 40) 47 rfl ac.hz 9 infoStr underlying47 rfl Yd (.slice ha A.length d) A.length (Ba A) rfl bf.o #[.string ⟨X.toArray⟩] rfl Ys rfl (by simp[Value.oneCell']) ?_ ?_ ?_))
 ·omega
 ·omega
 intro cd w2 c;obtain⟨t,z,rfl⟩:=Ac c.owns;have b2:=c.kept.size;have V:∀j,w.hz<=j->¬Ak (.slice ha A.length d) j:=fun j b e=>by have:=(ae.o _ e).2;omega
 have a2:=(c.kept.block _ Yo (V _ Yo)).trans bc.o;have a4:=(c.kept.block _ Yo (V _ Yo)).trans be.o;clear F G H I B C D E;obtain⟨F,G,H,I⟩:=F1 a2;obtain⟨B,C,D,E⟩:=F1 a4;have bj:w.hz+1+1+1<w2.hz:=Yo
 have ba:Hd (∀w',Ad (fun k=>w.hz+1+1<=k/\k<=w.hz+1+1+1) w2 w'->∃ab,(Ending.returned (.agg #[Vi ((p:Int)+1),.bool false,.slice t (A.length+1) z]))= .returned (.agg #[Vi ((p+1:Nat):Int),.bool false,ab])/\Ad (Ak (.slice ha A.length d)) w w'/\w'.ownsRow ac.hz 9 1 ab (A++[X]).length (Ba (A++[X]))/\(A++[X]).length<=p+1/\p+1<=s.size/\∀k,ab.ownBlock=some k->(Value.slice ha A.length d).ownBlock=some k\/w.hz<=k):=fun w' l=>by
  have a7:∀k,(Value.slice t (A.length+1) z).ownBlock=some k->(Value.slice ha A.length d).ownBlock=some k\/w1.hz<=k:=fun k b=>by
   rcases c.where_ with e|⟨g,e,M⟩
   ·rw[e]at b;exact Or.inl b
   ·rw[e]at b;simp at b;subst b;exact Or.inr M
  refine⟨.slice t (A.length+1) z,by rw[show((p+1:Nat):Int)=(p:Int)+1 by omega],?_,?_,by simp;omega,Yo,fun k b=> ?_⟩
  ·have bg:Ad (Ak (.slice ha A.length d)) w w1:=⟨m.o.os,m.o.tape,m.o.output,m.o.size,fun k l _=>m.o.block k l⟩;exact(bg.trans c.kept).then l (fun i hi h=>by omega)
  ·have am:w2.ownsRow ac.hz 9 1 (.slice t (A.length+1) z) (A++[X]).length (Ba (A++[X])):=by simpa[Ba]using c.owns
   refine Aj am (fun k b=>l.block k (am.lt k b).2 (fun h=> ?_));rcases a7 k b with e|e
   ·have:=(ae.o _ e).2;omega
   ·omega
  ·rcases a7 k b with e|e
   ·exact Or.inl e
   ·exact Or.inr Yo
 clear c a2 a4 V;go_wp2;refine bodyPost_ret (v:= .agg #[Vi ((p:Int)+1),.bool false,.slice t (A.length+1) z]) (by simp[results,results121,go_sem,B,C,D,E,F,G,H,I,bj]) rfl ?_;exact ba.o _ Mst
structure GU(w0 w wr:World)(cs:List Dt)(a:List (List BL)×At)(s:ByteArray)(n:ND)(hv:Value)(aa:Option Addr)(acap:Nat)(na:Option Addr)(ncap:Nat)(m0 m1 m2 m3 m4:Value)(k p:Nat)(A:List (List UInt8))(ha:Option Addr)(hc:Nat):Prop where
 kept:Ad (Ak hv) w wr
 ext:Ao w0 wr
 q:wr.heap[w.heap.size]?=some (.cells #[.slice aa a.1.length acap,.slice na a.2.length ncap] 148 (0,0))
 nd:wr.heap[w.heap.size+1]?=some (.cells #[m0,m1,m2,m3,m4] 152 (0,0))
 h:wr.heap[w.heap.size+1+1]?=some (.cells #[.int .i64 p,.bool false,.slice ha A.length hc] 206 (0,0))
 r:wr.heap[w.heap.size+1+1+1]?=some (.cells #[.int .i64 0,.bool false,.slice none 0 0] 206 (0,0))
 node:Bx (fun _=>False) wr m0 m1 m2 m3 m4 n
 row:wr.ownsRow w0.heap.size 9 1 (.slice ha A.length hc) A.length (Ba A)
 new:∀j,(Value.slice ha A.length hc).ownBlock=some j->hv.ownBlock=some j\/w.heap.size+4<=j
 le:A.length<=p
 lt:p<=s.size
theorem GU.ext'{n:ND}{f:Value}{aa:Oa}{c:Nat}{na:Oa}{u:Nat}{g l m o t:Value}{A:List (Lu)}{ha:Oa}{d:Nat}(h:GU w0 w wr cs a s n f aa c na u g l m o t k p A ha d)(b:Ao wr w')(v:Nat):GU w0 w w' cs a s n f aa c na u g l m o t v p A ha d:=
 ⟨h.kept.then (Ad.of_below b) (fun i hi e=>by have:=h.kept.size;omega),h.ext.trans (b.mono h.ext.size),(b.block _ (Ab h.q)).trans h.q,(b.block _ (Ab h.nd)).trans h.nd,(b.block _ (Ab h.h)).trans h.h,(b.block _ (Ab h.r)).trans h.r,h.node.ext b (fun _ _ h=>h),Aj h.row (fun j e=>b.block j (h.row.lt j e).2),h.new,h.le,h.lt⟩
theorem Wo(h:w.ownsRow B 9 1 v n xs):∀k,Ak v k->∃cl t fr,w.heap[k]?=some (.cells cl t fr)/\t≠183/\t≠200/\t≠3:=fun k a=>by
 rcases h.2 with⟨e,_⟩|⟨g,c,d,e,_,b,_⟩
 ·rw[Ak,e]at a;simp[Value.ownBlock]at a
 ·rw[Ak,e]at a;simp[Value.ownBlock]at a;subst a;exact⟨_,_,_,b,Yd,Yd,Yd⟩
theorem GU.fin{n:ND}{c:Value}{aa:Oa}{g:Nat}{na:Oa}{u:Nat}{m o q r t:Value}{A:List (Lu)}{ha:Oa}{d:Nat}(h:GU w0 w wr cs a s n c aa g na u m o q r t k p A ha d)(l:∀j,c.ownBlock=some j->w0.hz<=j/\j<w.hz)(f:Ad (fun j=>w.hz+1+1<=j/\j<=w.hz+1+1+1) wr w'):Ad (Ak c) w w'/\w'.ownsRow w0.hz 9 1 (.slice ha A.length d) A.length (Ba A)/\∀j,(Value.slice ha A.length d).ownBlock=some j->c.ownBlock=some j\/w.hz<=j:=
 ⟨h.kept.then f (fun i hi b=>by omega),Aj h.row (fun j b=>f.block j (h.row.lt j b).2 (fun v=>by
  rcases h.new j b with e|e
  ·have:=(l j e).2;omega
  ·omega)),fun j b=>by
  rcases h.new j b with e|e
  ·exact Or.inl e
  ·exact Or.inr Yo⟩
set_option maxHeartbeats 8000000 in
theorem TS(cs:Lc)(c2:∀c∈cs,Kl c/\QU c)(eh:cs.length<=24)(a:Ll×At)(s:ByteArray)(df:s.size<=20000)(n:ND)(p:Nat)(A:List (Lu))(d:HN)(m:s.data.toList[p]?=some 40)(b8:n.goals≠[])(cz:Ja (E9 cs a s) cs s.data.toList n cs.length 0 (p+1) A d):E9 cs a s n p A d:=by
 intro B w fj fv nv xs fk fl fm fn fo fc b4 bq b5 bt ep bd e2;have em:p<s.size:=by
  have:p<s.data.toList.length:=(Qa.1 m).1;simpa using this
 obtain⟨ah,ai,aj,al,ak,am,ao,an,ap,ar,aq,au,rfl,rfl,rfl,rfl,rfl⟩:=bt.len;obtain⟨la,fi,rfl⟩:=Ac b4.owns;obtain⟨e1,cv⟩:=bq.atoms;obtain⟨aa,a3,rfl⟩:=Ac cv.1;obtain⟨na,a8,rfl⟩:=Ac bq.names;obtain⟨ha,x,rfl⟩:=Ac bd;have fg:((s[p].toNat:Int)==33)=false:=by
  rw[FV em]at m;simp at m;rw[m];rfl
 obtain⟨G,cy⟩:=Ex n.goals.length;have fh:((G:Int)==0)=false:=by
  rw[Qu];have:n.goals.length≠0:=fun h=>b8 (List.eq_nil_of_length_eq_zero h);omega
 rw[<-cy]at bt⊢;obtain⟨P,b6⟩:=Ex ((((w.alloc (.cells #[.slice aa a.1.length a3,.slice na a.2.length a8] 148)).alloc (.cells #[.slice ah G ai,.slice aj al ak,.slice am ao an,.slice ap ar aq,Vi au] 152)).alloc (.cells #[Vi p,.bool false,.slice ha A.length x] 206)).alloc (.cells #[Vi 0,.bool false,Nl] 206));obtain⟨en,ad,bx,bv,cd,br⟩:=UR w (.cells #[.slice aa a.1.length a3,.slice na a.2.length a8] 148) (.cells #[.slice ah G ai,.slice aj al ak,.slice am ao an,.slice ap ar aq,Vi au] 152) (.cells #[Vi p,.bool false,.slice ha A.length x] 206) (.cells #[Vi 0,.bool false,Nl] 206);rw[<-b6]at en ad bx bv cd br;obtain⟨q0,bl,bm⟩:=Gu ad;obtain⟨bf,bg,bh,bi,bj,bk⟩:=C5 bx;obtain⟨L,M,N,O⟩:=F1 bv;have cw:=b5.size;have cr:Hd (∀nq,GU B w ((P.drewN nq).setCell ⟨w.hz+1+1,0,none⟩ (Vi ((p+1:Nat):Int))) cs a s n (.slice ha A.length x) aa a3 na a8 (.slice ah G ai) (.slice aj al ak) (.slice am ao an) (.slice ap ar aq) (Vi au) 0 (p+1) A ha x):=fun nq=>by
  have a5:Ao w (P.drewN nq):=br.trans ((Ao.of ((Ad.refl _ P).drewN nq)).mono br.size);have aw:Ad (only (w.hz+1+1)) (P.drewN nq) ((P.drewN nq).setCell ⟨w.hz+1+1,0,none⟩ (Vi ((p+1:Nat):Int))):=(Ad.refl _ _).put 0 _;have X:Ao w ((P.drewN nq).setCell ⟨w.hz+1+1,0,none⟩ (Vi ((p+1:Nat):Int))):=a5.trans (aw.below a5.size (fun j b=>by have:j=w.hz+1+1:=b;omega));have blk:∀(j:Nat)(o:Obj),j≠w.hz+1+1->P.heap[j]?=some o->((P.drewN nq).setCell ⟨w.hz+1+1,0,none⟩ (Vi ((p+1:Nat):Int))).heap[j]?=some o:=fun j o b ac=>(aw.block j (by show j<P.hz;exact(Array.getElem?_eq_some_iff.1 ac).1) b).trans ac;exact⟨⟨X.os,X.tape,X.output,X.size,fun j b _=>X.block j b⟩,b5.trans (X.mono cw),blk _ _ Yo ad,blk _ _ Yo bx,Af (w:=P.drewN nq) bv 0 _,blk _ _ Yo cd,bt.ext X (fun _ _ h=>h),Aj bd (fun j b=>X.block j (bd.lt j b).2),fun j b=>Or.inl b,Yo,Yo⟩
 have dj:=hd cz;have cj:=hd b4;have di:=hd bq;have dk:=hd b6;have dl:=hd c2;have dm:=hd b8;have bo:=hd bd.lt;clear m b8 b4 bq cv b5 bt bd cy cz c2 b6 ad bx bv cd br;go_enter func121,ntmps121;go_wp2_with fail;rw[<-dk.o];go_quiet (fail);go_wp2;have cf:=cr.o nq;rw[show((p+1:Nat):Int)=(p:Int)+1 by omega]at cf;have ct:=hd cf;clear cf cr
 go_loopg [12] (cs.length+1) (fun gk ew wr=>∃(k p':Nat)(g:List (Lu))(y:Oa)(z:Nat),ew=Vi k/\k<=cs.length/\cs.length-k<gk/\GU B w wr cs a s n (.slice ha A.length x) aa a3 na a8 (.slice ah G ai) (.slice aj al ak) (.slice am ao an) (.slice ap ar aq) (Vi au) k p' g y z/\Ja (E9 cs a s) cs s.data.toList n (cs.length-k) k p' g d)
 case atStart=>exact⟨0,p+1,A,ha,x,Yg,Yo,Yo,ct.o,dj.o⟩
 case round=>
  clear q0 bl bm bf bg bh bi bj bk L M N O ct;obtain⟨k,p',g,y,z,rfl,aw,e4,Z,ab⟩:=hrel;obtain⟨q0,bl,bm⟩:=Gu Z.q;obtain⟨bf,bg,bh,bi,bj,bk⟩:=C5 Z.nd;obtain⟨L,M,N,O⟩:=F1 Z.h;obtain⟨R,S,T,U⟩:=F1 Z.r;have E:=Ab Z.r;have a2:=hd Z;have cm:=hd ab;have e7:=Z.lt;clear Z ab;have bp:Hd (∀u w',GU B w u cs a s n (.slice ha A.length x) aa a3 na a8 (.slice ah G ai) (.slice aj al ak) (.slice am ao an) (.slice ap ar aq) (Vi au) k p' g y z->d=⟨p',true,g⟩->Ad (fun j=>w.hz+1+1<=j/\j<=w.hz+1+1+1) u w'->∃D,(Ending.returned (.agg #[Vi p',.bool true,.slice y g.length z]))= .returned (.agg #[Vi d.at',.bool d.wrong,D])/\Ad (Ak (.slice ha A.length x)) w w'/\w'.ownsRow B.hz 9 1 D d.ans.length (Ba d.ans)/\d.ans.length<=d.at'/\d.at'<=s.size/\∀j,D.ownBlock=some j->(Value.slice ha A.length x).ownBlock=some j\/w.hz<=j):=fun u w' a6 I aw=>by
   obtain⟨ae,af,ag⟩:=a6.fin bo.o aw;rw[I];exact⟨_,rfl,ae,af,a6.le,a6.lt,ag⟩
  have dx:Hd (∀u w',GU B w u cs a s n (.slice ha A.length x) aa a3 na a8 (.slice ah G ai) (.slice aj al ak) (.slice am ao an) (.slice ap ar aq) (Vi au) k p' g y z->d=⟨p'+1,false,g⟩->p'<s.size->Ad (fun j=>w.hz+1+1<=j/\j<=w.hz+1+1+1) u w'->∃D,(Ending.returned (.agg #[Vi ((p':Int)+1),.bool false,.slice y g.length z]))= .returned (.agg #[Vi d.at',.bool d.wrong,D])/\Ad (Ak (.slice ha A.length x)) w w'/\w'.ownsRow B.hz 9 1 D d.ans.length (Ba d.ans)/\d.ans.length<=d.at'/\d.at'<=s.size/\∀j,D.ownBlock=some j->(Value.slice ha A.length x).ownBlock=some j\/w.hz<=j):=fun u w' a6 I bc aw=>by
   obtain⟨ae,af,ag⟩:=a6.fin bo.o aw;rw[I];have e5:=a6.le;refine⟨.slice y g.length z,?_,ae,af,?_,?_,ag⟩
   ·simp only;rw[show((p'+1:Nat):Int)=(p':Int)+1 by omega]
   ·simp only;omega
   ·simp only;omega
  by_cases e6:k<cs.length
  ·obtain⟨f,ei⟩:∃f,cs.length-k=f+1:=⟨cs.length-k-1,Yo⟩;have ab:=cm.o;rw[ei]at ab;obtain⟨c,m,c1⟩:=ab;have cn:=hd (IQ wr (fun _=>False) _ cs xs _ _ _ _ _ n k c (cj.o.ext (Y:=fun _=>False) a2.o.ext (fun _ _ h=>h)) dl.o eh a2.o.node (fun _ h=>h.elim) m dm.o);have bn:=hd c1;clear m c1;go_wp2_with fail;apply cn.o.mono;rintro e w1 ⟨fw,rfl,a5,fp,fq,fs,ft,fu,q,rfl,eo,a0,c4⟩;obtain⟨dz,d1,d0,d2,d4,d3,d5,d7,d6,d8,ea,d9,eb,c9⟩:=eo;simp only[Value.agg.injEq,Array.mk.injEq,QI,and_true]at c9;obtain⟨rfl,rfl,rfl,rfl,rfl⟩:=c9;have av:=a2.o.ext' a5 k;have e8:=a5.size;clear q0 bl bm bf bg bh bi bj bk L M N O R S T U E cn;obtain⟨q0,bl,bm⟩:=Gu av.q;obtain⟨bf,bg,bh,bi,bj,bk⟩:=C5 av.nd;obtain⟨L,M,N,O⟩:=F1 av.h;obtain⟨R,S,T,U⟩:=F1 av.r;have E:=Ab av.r;have ca:w.hz+1+1<w1.hz:=Yo
   have c8:w.hz+1<w1.hz:=Yo
   have dc:w.hz<w1.hz:=Yo
   have l:=hd av;have dq:=hd c4;have e0:=hd a0;clear a5 av c4;rcases bn.o with⟨h0,c7⟩|⟨el,a7,I⟩|⟨b3,be,D,dy,bu,de⟩
   ·have ad:q=0:=by rw[a0,h0]
    subst ad;have ds:=hd c7;clear bn h0 c7 a0;go_wp2
    go_roundg (cs.length-k)
    case measure=>omega
    case rel=>exact⟨k+1,p',g,y,z,Yg,Yo,Yo,l.o.ext' Mxt (k+1),by rw[show cs.length-(k+1)=f by omega];exact ds.o⟩
   ·obtain⟨v,F,ay⟩:∃v F,As (s.data.toList.drop p')=(v,F):=⟨_,_,rfl⟩;have az:=fun u=>FX s p' u Yo Yo;rw[ay]at az a7;simp only at a7;have a9:=hd az;have V:=hd I;have be:=Ci (s.data.toList.drop p');rw[ay]at be;simp only at be;rw[<-a0]at el a7;have ad:((q:Int)==0)=false:=by rw[Qu];omega
    clear bn I ay az a0
    by_cases hz:F=0
    ·subst hz;clear a7;go_wp2_with fail;apply(a9.o _).mono;rintro e w2 ⟨rfl,rfl⟩;go_wp2;refine bodyPost_ret (v:= .agg #[Vi p',.bool true,.slice y g.length z]) (by simp[results,results121,go_sem,R,S,T,U,L,M,N,O,E]) rfl ?_;exact bp.o _ _ l.o V.o Mst
    ·have eq:((F:Int)==0)=false:=by rw[Qu];omega
     by_cases dg:v=k
     ·have da:q=3:=Yo
      subst da;subst dg;clear a7 hz;go_wp2_with fail;apply(a9.o _).mono;rintro e w2 ⟨rfl,rfl⟩;go_wp2;refine bodyPost_ret (v:= .agg #[Vi p',.bool true,.slice y g.length z]) (by simp[results,results121,go_sem,R,S,T,U,L,M,N,O,E]) rfl ?_;exact bp.o _ _ l.o V.o Mst
     ·have fd:((v:Int) !=(k:Int))=true:=by rw[bne_iff_ne];omega
      clear a7 hz dg;go_wp2_with fail;apply(a9.o _).mono;rintro e w2 ⟨rfl,rfl⟩;go_wp2;refine bodyPost_ret (v:= .agg #[Vi p',.bool true,.slice y g.length z]) (by simp[results,results121,go_sem,R,S,T,U,L,M,N,O,E]) rfl ?_;exact bp.o _ _ l.o V.o Mst
   ·have ek:q=1\/q=2:=by rw[a0];exact b3
    have ad:((q:Int)==0)=false:=by rw[Qu];omega
    have da:((q:Int)==3)=false:=by rw[Qu];omega
    obtain⟨a4,ez,C⟩:=dy;obtain⟨F,hz⟩:=Ex ((As (s.data.toList.drop p')).2);have ay:As (s.data.toList.drop p')=(k,F):=by rw[hz,<-D]
    have az:=fun u=>FX s p' u Yo Yo;have b1:=Ci (s.data.toList.drop p');rw[ay]at az b1;rw[ay]at bu;simp only at b1 bu;have ff:F<=2:=b1.2.1;have er:F≠0:=by rw[hz];exact be
    have eq:((F:Int)==0)=false:=by rw[Qu];omega
    obtain⟨H,ba⟩:=Ex ((w1.setCell ⟨w.hz+1+1,0,none⟩ (Vi ((p':Int)+F))).alloc (.cells #[.slice dz d1 d0,.slice d2 d4 d3,.slice d5 d7 d6,.slice d8 ea d9,Vi eb] 152));have Q:Ad (only (w.hz+1+1)) w1 H:=by rw[ba];exact((Ad.refl _ _).put 0 _).alloc _
    have fa:H.hz=w1.hz+1:=by rw[ba];simp
    have b9:H.heap[w.hz+1+1]?=some (.cells #[Vi ((p':Int)+F),.bool false,.slice y g.length z] 206 (0,0)):=by rw[ba];exact Ah (Af l.o.h 0 _) _
    have ch:∀j,only (w.hz+1+1) j->∃cl t fr,w1.heap[j]?=some (.cells cl t fr)/\t≠183/\t≠200/\t≠3:=fun j b=>by
     have b:j=w.hz+1+1:=b;subst b;exact⟨_,_,_,l.o.h,Yd,Yd,Yd⟩
    have fb:B.hz<=w.hz:=cw;have bs:Ao B H:=l.o.ext.trans (Q.below l.o.ext.size (fun j b=>by have:j=w.hz+1+1:=b;omega));have cg:∀j,(Value.slice y g.length z).ownBlock=some j->j<w.hz\/w.hz+4<=j:=fun j b=>by
     rcases l.o.new j b with e|e
     ·exact Or.inl (bo.o j e).2
     ·exact Or.inr e
    have b0:H.ownsRow B.hz 9 1 (.slice y g.length z) g.length (Ba g):=Aj l.o.row (fun j b=>Q.block j (l.o.row.lt j b).2 (fun e=>by
     have e:j=w.hz+1+1:=e;rcases cg j b with h|h<;>omega))
    have ce:=bu B H _ _ _ xs _ _ _ _ _ (.slice y g.length z) cj.o di.o bs ((dq.o ek).keep Q ch) (by rw[Gy b3];exact ep) b0 (by have:=l.o.le;omega);rw[show((p'+F:Nat):Int)=(p':Int)+F by omega]at ce;have ck:=hd ce;have ci:Hd (∀w3 J K,Ad (Ak (.slice y g.length z)) H w3->w3.ownsRow B.hz 9 1 (.slice J C.length K) C.length (Ba C)->(∀j,(Value.slice J C.length K).ownBlock=some j->(Value.slice y g.length z).ownBlock=some j\/H.hz<=j)->
      (∀j o,w.hz<=j->j<=w.hz+1+1+1->H.heap[j]?=some o->w3.heap[j]?=some o)/\∀w',Ad (fun j=>w.hz+1+1<=j/\j<=w.hz+1+1+1) w3 w'->Ad (Ak (.slice ha A.length x)) w w'/\Ao B w'/\w'.ownsRow B.hz 9 1 (.slice J C.length K) C.length (Ba C)/\(∀j,(Value.slice J C.length K).ownBlock=some j->(Value.slice ha A.length x).ownBlock=some j\/w.hz+4<=j)/\Bx (fun _=>False) w' (.slice ah G ai) (.slice aj al ak) (.slice am ao an) (.slice ap ar aq) (Vi au) n/\(∀j o,w.hz<=j->j<=w.hz+1->H.heap[j]?=some o->w'.heap[j]?=some o)):=fun w3 J K W a1 bb=>by
     have e3:=W.size;have blk:∀j o,w.hz<=j->j<=w.hz+1+1+1->H.heap[j]?=some o->w3.heap[j]?=some o:=fun j o b2 ee ac=>(W.block j (Array.getElem?_eq_some_iff.1 ac).1 (fun e=>by rcases cg j e with h|h<;>omega)).trans ac;refine⟨blk,fun w' ax=> ?_⟩;have dh:∀j,(Value.slice J C.length K).ownBlock=some j->(Value.slice ha A.length x).ownBlock=some j\/w.hz+4<=j:=fun j b=>by
      rcases bb j b with e|e
      ·exact l.o.new j e
      ·exact Or.inr Yo
     have es:Ad (Ak (.slice ha A.length x)) w H:=l.o.kept.then Q (fun i hi b=>by have:i=w.hz+1+1:=b;omega)
     have et:Ad (Ak (.slice ha A.length x)) w w3:=es.then W (fun i hi b=>by
      rcases l.o.new i b with e|e
      ·exact e
      ·omega)
     have eu:Ad (Ak (.slice ha A.length x)) w w':=et.then ax (fun i hi b=>by omega)
     have cx:Ao B w3:=bs.trans (W.below bs.size (fun j b=>(b0.lt j b).1));have eg:Ao B w':=cx.trans (ax.below cx.size (fun j b=>by omega));have ex:=(l.o.node.keep Q ch).keep W (Wo b0);have ey:=ex.keep ax (fun j b=>by
      have ej:j=w.hz+1+1\/j=w.hz+1+1+1:=Yo
      rcases ej with rfl|rfl
      ·exact⟨_,_,_,blk _ _ Yo Yo b9,Yd,Yd,Yd⟩
      ·exact⟨_,_,_,blk _ _ Yo Yo ((Q.block _ E (fun e=>by have:w.hz+1+1+1=w.hz+1+1:=e;omega)).trans l.o.r),Yd,Yd,Yd⟩)
     refine⟨eu,eg,Aj a1 (fun j b=>ax.block j (a1.lt j b).2 (fun df=>by
      rcases dh j b with e|e
      ·have:=(bo.o j e).2;omega
      ·omega)),dh,ey,fun j o b2 ee ac=>(ax.block j (Array.getElem?_eq_some_iff.1 (blk j o b2 Yo ac)).1 (fun df=>by omega)).trans (blk j o b2 Yo ac)⟩
    have dd:=(Q.block _ E (fun e=>by have:w.hz+1+1+1=w.hz+1+1:=e;omega)).trans l.o.r;have db:=(Q.block _ dc (fun e=>by have:w.hz=w.hz+1+1:=e;omega)).trans l.o.q;have c6:=(Q.block _ c8 (fun e=>by have:w.hz+1=w.hz+1+1:=e;omega)).trans l.o.nd;have dp:=hd b9;have dw:=hd dd;have du:=hd db;have dr:=hd c6;have co:=hd ba;have a9:=hd az;have cq:=hd de;clear bn a0 b3 be D bu de hz ay az b1 er ba Q b9 ch bs cg b0 ce dd db c6;go_wp2_with fail;apply(a9.o _).mono;rintro e w2 ⟨rfl,rfl⟩;go_wp2_with fail;rw[<-co.o];apply ck.o.mono;rintro e w3 ⟨fe,rfl,W,a1,cb,cc,bb⟩;obtain⟨J,K,rfl⟩:=Ac a1
    try simp only at a1 cb cc bb
    obtain⟨blk,c0⟩:=ci.o w3 J K W a1 bb;have e9:=W.size;have bw:=blk _ _ Yo Yo dp.o;have bz:=blk _ _ Yo Yo dw.o;clear L M N O R S T U q0 bl bm bf bg bh bi bj bk E ca c8 dc;obtain⟨L,M,N,O⟩:=F1 bw;obtain⟨R,S,T,U⟩:=F1 bz;have E:=Ab bz;have ca:=Ab bw;have cp:=hd c0;have dn:=hd bw;have dv:=hd bz;clear blk c0 W a1 bb bw bz ci ck co a2 l
    cases ez with
    |true=>
     have V:Hd (d=⟨a4,true,C⟩):=by
      rcases cq.o with⟨_,h⟩|⟨h,_⟩
      ·exact h
      ·simp at h
     go_wp2;refine bodyPost_ret (v:= .agg #[Vi a4,.bool true,.slice J C.length K]) (by simp[results,results121,go_sem,R,S,T,U,L,M,N,O,E,ca]) rfl ?_;refine(fun(hb:∀w',Ad (fun j=>w.hz+1+1<=j/\j<=w.hz+1+1+1) w3 w'->∃D,(Ending.returned (.agg #[Vi a4,.bool true,.slice J C.length K]))= .returned (.agg #[Vi d.at',.bool d.wrong,D])/\Ad (Ak (.slice ha A.length x)) w w'/\w'.ownsRow B.hz 9 1 D d.ans.length (Ba d.ans)/\d.ans.length<=d.at'/\d.at'<=s.size/\∀j,D.ownBlock=some j->(Value.slice ha A.length x).ownBlock=some j\/w.hz<=j)=>hb _ Mst) (fun w' ax=> ?_);obtain⟨ae,_,af,ag,_⟩:=cp.o w' ax;rw[V.o];exact⟨_,rfl,ae,af,cb,cc,fun j b=>by rcases ag j b with e|e;exact Or.inl e;exact Or.inr Yo⟩
    |false=>
     have dt:Hd (Ja (E9 cs a s) cs s.data.toList n f (k+1) a4 C d):=by
      rcases cq.o with⟨h,_⟩|⟨_,h⟩
      ·simp at h
      ·exact h
     go_wp2
     go_roundg (cs.length-k)
     case measure=>omega
     case rel=>
      have c3:Ad (only (w.hz+1+1)) w3 (((w3.setCell ⟨w.hz+1+1,0,none⟩ (Vi a4)).setCell ⟨w.hz+1+1,1,none⟩ (.bool false)).setCell ⟨w.hz+1+1,2,none⟩ (.slice J C.length K)):=(((Ad.refl _ _).put 0 _).put 1 _).put 2 _;obtain⟨ae,ec,af,ag,ed,cu⟩:=cp.o _ (c3.mono (fun i _ hi=>by have:i=w.hz+1+1:=hi;omega));exact⟨k+1,a4,C,J,K,Yg,Yo,Yo,⟨ae,ec,cu _ _ Yo Yo du.o,cu _ _ Yo Yo dr.o,Af (Af (Af dn.o 0 _) 1 _) 2 _,(c3.block _ E (fun e=>by have:w.hz+1+1+1=w.hz+1+1:=e;omega)).trans dv.o,ed,af,ag,cb,cc⟩,by rw[show cs.length-(k+1)=f by omega];exact dt.o⟩
  ·have b7:k=cs.length:=Yo
   have ab:=cm.o;rw[b7,Nat.sub_self]at ab;rcases ab with⟨m,I⟩|⟨c,m,c5,I⟩
   ·have bc:p'<s.size:=by
     have:p'<s.data.toList.length:=(Qa.1 m).1;simpa using this
    have ev:((s[p'].toNat:Int) !=41)=false:=by
     rw[FV bc]at m;simp at m;rw[m];rfl
    have V:=hd I;clear m I b7;go_wp2;refine bodyPost_ret (v:= .agg #[Vi ((p':Int)+1),.bool false,.slice y g.length z]) (by simp[results,results121,go_sem,R,S,T,U,L,M,N,O,E]) rfl ?_;refine dx.o _ _ a2.o V.o bc Mst
   ·have bc:p'<s.size:=by
     have:p'<s.data.toList.length:=(Qa.1 m).1;simpa using this
    have ev:((s[p'].toNat:Int) !=41)=true:=by
     rw[FV bc]at m;simp at m;have ef:s[p']≠41:=by rw[m];exact c5
     rw[bne_iff_ne];exact Kh ef
    have V:=hd I;clear m I b7 c5;go_wp2;refine bodyPost_ret (v:= .agg #[Vi p',.bool true,.slice y g.length z]) (by simp[results,results121,go_sem,R,S,T,U,L,M,N,O,E]) rfl ?_;exact bp.o _ _ a2.o V.o Mst
theorem QR(cs:Lc)(k:∀c∈cs,Kl c/\QU c)(j:cs.length<=24)(a:Ll×At)(g:a.2.length<=121)(i:∀y∈a.2,y.length<=4096)(s:ByteArray)(f:s.size<=20000){n:ND}{A:List (Lu)}{e:HN}(h:EF cs a.2 s.data.toList n p A e):E9 cs a s n p A e:=
 h.ind (P:=E9 cs a s) (fun n p A b d=>Uj cs a s f g i n p A b d) (fun n p A b d=>P9 cs a s f n p A (Or.inl ⟨b,d⟩)) (fun n p A b d=>P9 cs a s f n p A (Or.inr ⟨b,d⟩)) (fun n p A e b d l=>TS cs k j a s f n p A e b d l)
open Classical in
noncomputable def Hy(cs:List Dt)(a:List (List BL)×At)(l:List UInt8):HN:=if h:∃R,EF cs a.2 l (AN a) 0 [] R then Classical.choose h else⟨0,true,[]⟩
theorem KU(cs:Lc)(a:Ll×At){l:Lu}(h:DL l=none):EF cs a.2 l (AN a) 0 [] (Hy cs a l):=by
 obtain⟨b,d,_⟩:=WB cs a.2 l l.length (AN a) 0 0 [] Yo (Sh.start h);have c:∃b,EF cs a.2 l (AN a) 0 [] b:=⟨b,d⟩;unfold Hy;rw[dif_pos c];exact Classical.choose_spec c
noncomputable def CI(p q t:ByteArray):List (Lu)×Nat×Nat:=
 match BD p with
 |none=>([],4,0)
 |some cs=>match Cr q with
  |none=>([],5,0)
  |some a=>if 20000<t.size then([],1,0)else match DL t.data.toList with
   |some pl=>([],6,pl)
   |none=>if(Hy cs a t.data.toList).wrong=true then([],7,(Hy cs a t.data.toList).at')else((Hy cs a t.data.toList).ans,0,0)
def HG(p q t:ByteArray)(w:World)(e:Ending)(w':World):Prop:=Ao w w'/\∃va vc,e= .returned (.tuple #[.slice va (CI p q t).1.length vc,.int .i64 (CI p q t).2.1,.int .i64 (CI p q t).2.2])/\w'.ownsRow w.heap.size 9 1 (.slice va (CI p q t).1.length vc) (CI p q t).1.length (Ba (CI p q t).1)
theorem Fz{p q t:ByteArray}{a b:Nat}(h:CI p q t=([],a,b))(c:Ao w w'):HG p q t w (Rq #[Nl,Vi a,Vi b]) w':=by
 refine⟨c,none,0,?_,?_⟩
 ·rw[h];rfl
 ·rw[h];exact Q2 _ _ _ _
theorem RK(p q t:ByteArray)(w:World)(ac:p.size<=maxLen)(ad:q.size<=maxLen)(bd:t.size<=maxLen):Calls prog 93 #[.string p,.string q,.string t] w (HG p q t w):=by
 have aj:=hd (fun u=>HS p q u ac ad);unfold maxLen at bd;clear ac ad;go_enter func93,ntmps93;go_wp2_with fail;apply(aj.o _).mono;rintro e w1 ⟨I,a5⟩;have G:=hd I;have bb:=I.size;clear I;have x:Hd (∀o,Ao w (w1.alloc o)):=fun o=>G.o.trans ((Mxt:Ao w1 (w1.alloc o)).mono bb);rcases a5 with⟨r,rfl⟩|⟨⟨cs,c⟩,r,rfl⟩|⟨cs,a,br,av,nv,xs,c,i,rfl,s,f⟩
 ·have b:Hd (CI p q t=([],4,0)):=by show _=_;simp[CI,r]
  clear r;go_wp2;go_ret3;exact Fz b.o (x.o _)
 ·have b:Hd (CI p q t=([],5,0)):=by show _=_;simp[CI,r,c]
  clear r c;go_wp2;go_ret3;exact Fz b.o (x.o _)
 ·obtain⟨U,z⟩:=f.atoms;obtain⟨la,bq,rfl⟩:=Ac s.owns;obtain⟨aa,ap,rfl⟩:=Ac z.1;obtain⟨na,ag,rfl⟩:=Ac f.names;obtain⟨_,_,_,F,a9⟩:=CA c;obtain⟨_,_,_,D,C,a8,bk,ab,E⟩:=Cs i
  by_cases n:20000<t.size
  ·have b:Hd (CI p q t=([],1,0)):=by show _=_;simp[CI,c,i,n]
   have be:(20000:Int)<(t.size:Int):=Yo
   clear s f z F D C c i E n;go_wp2;go_ret3;exact Fz b.o (x.o _)
  ·have be:¬(20000:Int)<(t.size:Int):=Yo
   have l:=hd (fun u=>On t u Yo)
   cases j:DL t.data.toList with
   |some ah=>
    have b:Hd (CI p q t=([],6,ah)):=by show _=_;simp[CI,c,i,n,j]
    rw[j]at l;simp only[RA]at l;have bo:(0:Int)<=(ah:Int):=Yo
    clear s f z F D C c i E n j;go_wp2_with fail;apply(l.o _).mono;rintro e w2 ⟨rfl,rfl⟩;go_wp2;go_ret3;exact Fz b.o (x.o _)
   |none=>
    rw[j]at l;simp only[RA]at l;obtain⟨d,M⟩:=Ex (Hy cs a t.data.toList);have L:=KU cs a j;rw[<-M]at L;have b:Hd (CI p q t=if d.wrong=true then([],7,d.at')else(d.ans,0,0)):=by show _=_;simp[CI,c,i,n,j,M]
    have T:=hd (QR cs F a9 a ab (fun y bg=>Qq (E y bg) Yo) t Yo L);have R:=hd (fun u (bf:Ao w1 u)=>by
     obtain⟨U,g⟩:=(f.ext bf).atoms;exact Jh u (X:=fun _=>False) (fun _ h=>h.elim) _ (.slice na a.2.length ag) a U g ⟨_,_,rfl⟩ D C a8 ab)
    have ao:=hd s;have ai:=hd f;clear s f z F D C c i E n j L M;go_wp2_with fail;apply(l.o _).mono;rintro e w2 ⟨rfl,rfl⟩;go_wp2_with fail;apply(R.o _ Mxt).mono;rintro e w2 ⟨bs,bt,bu,bv,bw,rfl,B,O⟩;obtain⟨aq,ar,au,ax,aw,ay,a0,az,a1,a3,a2,a4,rfl,rfl,rfl,rfl,rfl⟩:=O.len;have bc:=B.size;simp at bc;have J:Ao w1 w2:=(Mxt:Ao w1 (w1.alloc _)).trans (B.mono Ys);have ae:w2.heap[w1.hz]?=some (.cells #[.slice aa a.1.length ap,.slice na a.2.length ag] 148 (0,0)):=(B.block _ Ys).trans (QL w1 _);obtain⟨q0,bx,bz⟩:=Gu ae;obtain⟨m,N⟩:=Ex (w2.alloc (.cells #[.slice aq (AN a).goals.length ar,.slice au ax aw,.slice ay a0 az,.slice a1 a3 a2,Vi a4] 152));have K:Ao w2 m:=by rw[N];exact Mxt
    have A:Ao w1 m:=J.trans (K.mono J.size);have Y:Ao w m:=G.o.trans (A.mono G.o.size);have af:=T.o m m _ _ _ xs _ _ _ _ _ Nl (ao.o.ext A (fun _ _ h=>h)) (ai.o.ext A) (Ao.of (Ad.refl _ _)) (O.ext K (fun _ _ h=>h)) (by simp[AN]) (Q2 _ _ _ _) (Qe _);have ak:=hd af;have al:=hd N;have H:=hd Y;have bn:w1.hz<w2.hz:=Yo
    clear B O J ae K A Y af N T R;go_wp2_with fail;rw[<-al.o];apply ak.o.mono;rintro e w4 ⟨bp,rfl,Z,P,bl,bm,_⟩;obtain⟨va,vc,rfl⟩:=Ac P;have V:Ao m w4:=Z.below (Qe _) (fun k e=>by simp[Ak,Value.ownBlock]at e);have v:=hd (H.o.trans (V.mono H.o.size));have S:=hd P;have a7:=H.o.size;have am:Hd (∀o,d.wrong=false->HG p q t w (Rq #[.slice va d.ans.length vc,Vi 0,Vi 0]) (w4.alloc o)):=fun o Q=>by
     have e:CI p q t=(d.ans,0,0):=by rw[b.o,Q];rfl
     have W:Ao w4 (w4.alloc o):=Mxt;refine⟨v.o.trans (W.mono v.o.size),va,vc,by rw[e];rfl,?_⟩;rw[e];exact AI (Aj S.o (fun k ba=>W.block k (S.o.lt k ba).2)) a7
    have an:Hd (∀w',Ao w4 w'->d.wrong=true->HG p q t w (Rq #[Nl,Vi 7,Vi d.at']) w'):=fun w' a6 Q=>Fz (by rw[b.o,Q];rfl) (v.o.trans (a6.mono v.o.size));clear Z P V;obtain⟨bj,bh,bi⟩:=d;simp only at*
    cases bh with
    |true=>
     go_wp2_with fail;go_quiet (fail);go_wp2;go_ret3;exact an.o _ Mxt Ys
    |false=>
     go_wp2;go_ret3;exact am.o _ Ys
noncomputable def Ea(cs:Lc)(n:ND):Nat->Nat->Option (Nat×Dt)
 |0,_=>none
 |f+1,k=>match cs[k]? with
  |none=>none
  |some c=>if(Ax n c k).2=0 then Ea cs n f (k+1)else some (k,c)
structure HM where
 ok:Bool
 at':Nat
 way:List (ND×Nat)
 ans:List (List UInt8)
def Cm(names:At)(l:Lu)(n:ND)(p:Nat)(way:Ln)(A:List (Lu)):HM:=
 if n.goals=[]then(if l[p]?=some 33 then⟨true,p+1,way,A++[AU names n]⟩else⟨false,p,way,A⟩)
 else if l[p]?=some 40 then⟨true,p+1,(n,0)::way,A⟩else⟨false,p,way,A⟩
noncomputable def La(cs:Lc)(names:At)(l:Lu)(n:ND)(k p:Nat)(r:Ln)(A:List (Lu)):HM:=
 match Ea cs n (cs.length-k) k with
 |none=>if l[p]?=some 41 then⟨true,p+1,r,A⟩else⟨false,p,(n,cs.length)::r,A⟩
 |some (j,c)=>if(Ax n c j).2=3\/(As (l.drop p)).2=0\/(As (l.drop p)).1≠j then⟨false,p,(n,j+1)::r,A⟩else Cm names l (Ax n c j).1 (p+(As (l.drop p)).2) ((n,j+1)::r) A
inductive JI (cs:List Dt) (names:At) (l:List UInt8):Nat->List (ND×Nat)->List (List UInt8)->HN->Prop
 |done (p:Nat) (A:List (List UInt8)):JI cs names l p [] A ⟨p,false,A⟩
 |wrong (n:ND) (k p:Nat) (r:List (ND×Nat)) (A:List (List UInt8)) (R:HN) (h:(La cs names l n k p r A).ok=false) (hw:R.wrong=true) (ha:R.at'=(La cs names l n k p r A).at'):JI cs names l p ((n,k)::r) A R
 |step (n:ND) (k p:Nat) (r:List (ND×Nat)) (A:List (List UInt8)) (R:HN) (h:(La cs names l n k p r A).ok=true) (hg:JI cs names l (La cs names l n k p r A).at' (La cs names l n k p r A).way (La cs names l n k p r A).ans R):JI cs names l p ((n,k)::r) A R
def JS(cs:Lc)(names:At)(l:Lu)(M:HM)(R:HN):Prop:=(M.ok=true->JI cs names l M.at' M.way M.ans R)/\(M.ok=false->R.wrong=true/\R.at'=M.at')
theorem Kv{names:At}{l:Lu}{n:ND}{A:List (Lu)}{b:HN}(h:JS cs names l (La cs names l n k p r A) b):JI cs names l p ((n,k)::r) A b:=by
 cases a:(La cs names l n k p r A).ok with
 |true=>exact .step n k p r A b a (h.1 a)
 |false=>exact .wrong n k p r A b a (h.2 a).1 (h.2 a).2
theorem S6{names:At}{l:Lu}{n:ND}{A:List (Lu)}{a:HN}(h:JI cs names l p ((n,k)::r) A a):JS cs names l (La cs names l n k p r A) a:=by
 cases h with
 |wrong _ _ _ _ _ _ h c ha=>exact⟨fun e=>by rw[h]at e;simp at e,fun _=>⟨c,ha⟩⟩
 |step _ _ _ _ _ _ h b=>exact⟨fun _=>b,fun e=>by rw[h]at e;simp at e⟩
theorem Wi{names:At}{l:Lu}{A:List (Lu)}{a:HN}(h:JI cs names l p [] A a):a=⟨p,false,A⟩:=by
 cases h;rfl
theorem UL{names:At}{l:Lu}{n:ND}{A:List (Lu)}(a:cs[k]?=some c)(b:(Ax n c k).2=0):La cs names l n k p r A=La cs names l n (k+1) p r A:=by
 have d:=(Qa.1 a).1;unfold La;rw[show cs.length-k=(cs.length-(k+1))+1 by omega,Ea,a];simp only[b,if_true]
theorem TY{names:At}{l:Lu}{n:ND}{A:List (Lu)}{b:HN}(h:EF cs names l n p A b):∀(way:Ln)(a:HN),(b.wrong=false->JI cs names l b.at' way b.ans a)->(b.wrong=true->a.wrong=true/\a.at'=b.at')->JS cs names l (Cm names l n p way A) a:=by
 refine EF.ind (P:=fun n p A b=>∀(way:Ln)(a:HN),(b.wrong=false->JI cs names l b.at' way b.ans a)->(b.wrong=true->a.wrong=true/\a.at'=b.at')->JS cs names l (Cm names l n p way A) a) ?_ ?_ ?_ ?_ h
 ·intro n p A d i way a q _;unfold Cm;rw[if_pos i,if_pos d];exact⟨fun _=>q rfl,fun e=>by simp at e⟩
 ·intro n p A d i way a _ g;unfold Cm;rw[if_neg i,if_neg (by rw[d];simp)];exact⟨fun e=>by simp at e,fun _=>g rfl⟩
 ·intro n p A d i way a _ g;unfold Cm;rw[if_pos i,if_neg (by rw[d];simp)];exact⟨fun e=>by simp at e,fun _=>g rfl⟩
 ·intro n p A b d i w way a q g;unfold Cm;rw[if_neg i,if_pos d];refine⟨fun _=> ?_,fun e=>by simp at e⟩;show JI cs names l (p+1) ((n,0)::way) A a;have y:∀(f k p:Nat)(A:List (Lu)),f+k=cs.length->Ja (fun n p A b=>∀(way:Ln)(a:HN),(b.wrong=false->JI cs names l b.at' way b.ans a)->(b.wrong=true->a.wrong=true/\a.at'=b.at')->JS cs names l (Cm names l n p way A) a) cs l n f k p A b->JI cs names l p ((n,k)::way) A a:=by
   intro f
   induction f with
   |zero=>
    intro k p A v m;refine Kv ?_;unfold La;rw[show cs.length-k=0 by omega,Ea];simp only;rcases m with⟨r,rfl⟩|⟨c,r,t,rfl⟩
    ·rw[if_pos r];exact⟨fun _=>q rfl,fun e=>by simp at e⟩
    ·rw[if_neg (by rw[r];simpa using t)];exact⟨fun e=>by simp at e,fun _=>g rfl⟩
   |succ f s=>
    intro k p A v m;obtain⟨c,d,h⟩:=m;rcases h with⟨o,h⟩|⟨o,j,rfl⟩|⟨o,m,x,z,u,h⟩
    ·have:=S6 (s (k+1) p A Yo h);rw[<-UL d o]at this;exact Kv this
    ·refine Kv ?_;unfold La;rw[show cs.length-k=f+1 by omega,Ea,d];simp only;rw[if_neg o];simp only;rw[if_pos (by rcases j with h|h|h<;>simp[h])];exact⟨fun e=>by simp at e,fun _=>g rfl⟩
    ·refine Kv ?_;unfold La;rw[show cs.length-k=f+1 by omega,Ea,d];simp only;rw[if_neg Yo];simp only;rw[if_neg (by rintro(h|h|h);omega;exact m h;exact h x)];refine u _ a (fun j=> ?_) (fun j=> ?_)
     ·rcases h with⟨h,_⟩|⟨_,h⟩
      ·rw[j]at h;simp at h
      ·exact s (k+1) _ _ Yo h
     ·rcases h with⟨_,rfl⟩|⟨h,_⟩
      ·exact g j
      ·rw[j]at h;simp at h
  exact y cs.length 0 (p+1) A Yo w
theorem Uu(cs:Lc)(a:Ll×At){l:Lu}(h:DL l=none):JS cs a.2 l (Cm a.2 l (AN a) 0 [] []) (Hy cs a l):=
 TY (KU cs a h) [] _ (fun b=>by
  have:Hy cs a l=⟨(Hy cs a l).at',false,(Hy cs a l).ans⟩:=by
   rw[<-b]
  rw[this];exact .done _ _) (fun b=>⟨b,rfl⟩)
def F5(l:Lu)(p:Nat):UInt8:=(l[p]?).getD 0
theorem UX(h:p<s.size):F5 s.data.toList p=s[p]:=by unfold F5;rw[FV h];rfl
theorem UO(h:s.size<=p):F5 s.data.toList p=0:=by
 unfold F5;rw[List.getElem?_eq_none (by simpa using h)];rfl
theorem QO{l:Lu}{c:UInt8}(a:c≠0):F5 l p=c↔l[p]?=some c:=by
 unfold F5
 cases l[p]? with
 |none=>simp;exact fun h=>a h.symm
 |some d=>simp
theorem Mw(s:ByteArray)(p:Nat)(w:World)(d:s.size<=100000)(c:p<=100000):Calls prog 136 #[.string s,Vi p] w fun e w'=>e= .returned (.int .u8 (F5 s.data.toList p).toNat)/\w'=w:=by
 by_cases h:p<s.size
 ·have a:=hd (UX h);have b:¬((s.size:Int)<=(p:Int)):=Yo
  go_enter func136,ntmps136;go_wp2;go_ret;exact⟨by rw[a.o];rfl,rfl⟩
 ·have a:=hd (UO (Nat.le_of_not_lt h));have b:((s.size:Int)<=(p:Int)):=Yo
  go_enter func136,ntmps136;go_wp2;go_ret;exact⟨by rw[a.o];rfl,rfl⟩
theorem Pa(w:World)(b:Nat)(o:Int)(due:Bool)(hb:w.heap[b]?=some (.cells #[Vi o,.bool due] 173 (0,0))):Calls prog 101 #[Pt b] w fun e w'=>e= .returned (.bool (!due&&(o==0)))/\w'=w:=by
 obtain⟨c,b1,d⟩:=Gu hb;have f:=Ab hb;clear hb
 cases due with
 |true=>
  go_enter func101,a;go_wp2;go_ret;exact⟨rfl,rfl⟩
 |false=>
  go_enter func101,a;go_wp2;go_ret;exact⟨rfl,rfl⟩
def C9(l:Lu)(p o:Nat)(due:Bool):Nat×Nat×Bool:=
 if due=true then(if F5 l p=33 then(p+1,o,false)else if F5 l p=40 then(p+1,o+1,false)else(p,o,true))
 else if F5 l p=41 then(p+1,o-1,false)else(p+(As (l.drop p)).2,o,decide (0<(As (l.drop p)).2))
def FS(l:Lu)(p o:Nat)(due:Bool)(b:Nat)(w:World)(e:Ending)(w':World):Prop:=e= .returned (.int .i64 (C9 l p o due).1)/\Ad (only b) w w'/\w'.heap[b]?=some (.cells #[.int .i64 (C9 l p o due).2.1,.bool (C9 l p o due).2.2] 173 (0,0))
theorem T6(s:ByteArray)(p o:Nat)(due:Bool)(b:Nat)(w:World)(C:s.size<=20000)(B:p<=20000)(z:o<=20000)(k:due=false->0<o)(hb:w.heap[b]?=some (.cells #[Vi o,.bool due] 173 (0,0))):
  Calls prog 102 #[Pt b,.string s,Vi p] w (FS s.data.toList p o due b w):=by
 obtain⟨u,b1,v⟩:=Gu hb;have y:=Ab hb;have i:=hd hb;have h:=hd (Mw s p w Yo Yo);obtain⟨c,a⟩:=Ex (F5 s.data.toList p);rw[<-a]at h;clear hb
 cases due with
 |true=>
  by_cases f:c=33
  ·have d:Hd (C9 s.data.toList p o true=(p+1,o,false)):=by show _=_;unfold C9;rw[if_pos rfl,if_pos (by rw[<-a];exact f)]
   have n:((c.toNat:Int) !=33)=false:=by rw[f];rfl
   have t:((c.toNat:Int)==40)=false:=by rw[f];rfl
   clear a f k;go_enter func102,l;go_wp2_with fail;apply h.o.mono;rintro e w1 ⟨rfl,rfl⟩;go_wp2;go_ret;unfold FS;rw[d.o];exact⟨Ys,(Ad.refl _ _).put 1 _,Af i.o 1 _⟩
  ·have n:((c.toNat:Int) !=33)=true:=by rw[bne_iff_ne];exact Kh f
   by_cases g:c=40
   ·have d:Hd (C9 s.data.toList p o true=(p+1,o+1,false)):=by show _=_;unfold C9;rw[if_pos rfl,if_neg (by rw[<-a];exact f),if_pos (by rw[<-a];exact g)]
    have t:((c.toNat:Int) !=40)=false:=by rw[g];rfl
    have D:((c.toNat:Int)==40)=true:=by rw[g];rfl
    clear a f g k;go_enter func102,l;go_wp2_with fail;apply h.o.mono;rintro e w1 ⟨rfl,rfl⟩;go_wp2;go_ret;unfold FS;rw[d.o];exact⟨Ys,((Ad.refl _ _).put 0 _).put 1 _,Af (Af i.o 0 _) 1 _⟩
   ·have d:Hd (C9 s.data.toList p o true=(p,o,true)):=by show _=_;unfold C9;rw[if_pos rfl,if_neg (by rw[<-a];exact f),if_neg (by rw[<-a];exact g)]
    have t:((c.toNat:Int) !=40)=true:=by rw[bne_iff_ne];exact Kh g
    clear a f g k;go_enter func102,l;go_wp2_with fail;apply h.o.mono;rintro e w1 ⟨rfl,rfl⟩;go_wp2;go_ret;unfold FS;rw[d.o];exact⟨rfl,Ad.refl _ _,i.o⟩
 |false=>
  have A:=k rfl
  by_cases j:c=41
  ·have d:Hd (C9 s.data.toList p o false=(p+1,o-1,false)):=by show _=_;unfold C9;rw[if_neg Ys,if_pos (by rw[<-a];exact j)]
   have n:((c.toNat:Int)==41)=true:=by rw[j];rfl
   clear a j k;go_enter func102,l;go_wp2_with fail;apply h.o.mono;rintro e w1 ⟨rfl,rfl⟩;go_wp2;go_ret;unfold FS;rw[d.o];refine⟨Ys,(Ad.refl _ _).put 0 _,?_⟩;rw[show((p+1,o-1,false):Nat×Nat×Bool).2.1=o-1 from rfl,show((o-1:Nat):Int)=(o:Int)-1 by omega];exact Af i.o 0 _
  ·obtain⟨N,m⟩:=Ex ((As (s.data.toList.drop p)).2);have d:Hd (C9 s.data.toList p o false=(p+N,o,decide (0<N))):=by show _=_;unfold C9;rw[if_neg Ys,if_neg (by rw[<-a];exact j),<-m]
   have n:((c.toNat:Int)==41)=false:=by rw[Qu];exact Kh j
   have q:=hd (Rg s p w Yo Yo);obtain⟨V,r⟩:=Ex ((As (s.data.toList.drop p)).1);rw[<-m,<-r]at q;clear a j k m r;go_enter func102,l;go_wp2_with fail;apply h.o.mono;rintro e w1 ⟨rfl,rfl⟩;go_wp2_with fail;apply q.o.mono;rintro e w1 ⟨rfl,rfl⟩
   by_cases h0:0<N
   ·have x:(p:Int)<(p:Int)+(N:Int):=Yo
    go_wp2;go_ret;unfold FS;rw[d.o];refine⟨Ys,(Ad.refl _ _).put 1 _,?_⟩;rw[show((p+N,o,decide (0<N)):Nat×Nat×Bool).2.2=true from decide_eq_true h0];exact Af i.o 1 _
   ·obtain rfl:N=0:=Yo
    go_wp2;go_ret;unfold FS;rw[d.o];refine⟨Ys,(Ad.refl _ _).put 1 _,?_⟩;exact Af i.o 1 _
def Ns(l:Lu)(w:World)(e:Ending)(w':World):Prop:=Ao w w'/\e= .returned (match DL l with|none=> .agg #[.int .i64 0,.int .i64 0]|some p=> .agg #[.int .i64 6,.int .i64 p])
theorem SD{l:Lu}{f o:Nat}{due:Bool}(h:l.length<=p):Ck l (f+1) p o due=if due=true\/0<o then some p else none:=by
 unfold Ck;rw[List.getElem?_eq_none h]
theorem N2{l:Lu}{f:Nat}(h:p<l.length):Ck l (f+1) p 0 false=some p:=by
 unfold Ck;rw[Qb h];simp
theorem Pf{l:Lu}{f o:Nat}{due:Bool}(h:p<l.length)(a:due=false->0<o):Ck l (f+1) p o due=if(C9 l p o due).1=p then some p else Ck l f (C9 l p o due).1 (C9 l p o due).2.1 (C9 l p o due).2.2:=by
 have hb:F5 l p=l[p]:=by unfold F5;rw[Qb h];rfl
 rw[Ck,C9,Qb h,hb];simp only
 cases due with
 |true=>
  simp only[if_true];split
  ·simp
  ·split
   ·simp
   ·simp
 |false=>
  have:=a rfl;simp only[Bool.false_eq_true,if_false];rw[if_neg Yo];split
  ·simp
  ·by_cases h0:(As (l.drop p)).2=0
   ·simp[h0]
   ·rw[if_neg h0,if_neg (by simp only;omega)];simp[show 0<(As (l.drop p)).2 by omega]
theorem V7{l:Lu}{o:Nat}{due:Bool}(h:p<l.length)(a:o<=p):p<=(C9 l p o due).1/\(C9 l p o due).1<=l.length/\((C9 l p o due).1≠p->(C9 l p o due).2.1<=(C9 l p o due).1):=by
 have hn:=Ci (l.drop p);simp only[List.length_drop]at hn;unfold C9;split
 ·split
  ·exact⟨Nat.le_succ _,h,fun _=>by show o<=p+1;omega⟩
  ·split
   ·exact⟨Nat.le_succ _,h,fun _=>by show o+1<=p+1;omega⟩
   ·exact⟨Qe _,Nat.le_of_lt h,fun h=>absurd rfl h⟩
 ·split
  ·exact⟨Nat.le_succ _,h,fun _=>by show o-1<=p+1;omega⟩
  ·exact⟨Nat.le_add_right _ _,by show p+_<=_;omega,fun _=>by show o<=p+_;omega⟩
theorem C6(h:Ao w w1)(a:Ad (only b) w1 w2)(hb:w.hz<=b):Ao w w2:=
 h.trans (a.below h.size (fun k e=>by have e:k=b:=e;omega))
theorem Mq(s:ByteArray)(w:World)(ag:s.size<=20000):Calls prog 81 #[.string s] w (Ns s.data.toList w):=by
 have N:s.data.toList.length=s.size:=Ys
 obtain⟨l,hl⟩:=Ex s.data.toList;have P:=hd (fun p o due b u (G:p<=20000) (H:o<=20000) h3 h4=>T6 s p o due b u ag G H h3 h4);rw[<-hl]at N P⊢;have V:=hd (fun u b o due hb=>Pa u b o due hb);have j:=hd N;clear N;go_enter func81,an;go_wp2
 go_loopg [4] (s.size+1) (fun gk av wr=>∃(p o f:Nat)(due:Bool),av=Vi p/\p<=s.size/\s.size-p<gk/\o<=p/\s.size<f+p/\Ck l f p o due=DL l/\Ao w wr/\wr.heap[w.hz]?=some (.cells #[Vi 0,Vi 0] 91 (0,0))/\wr.heap[w.hz+1]?=some (.cells #[Vi o,.bool due] 173 (0,0)))
 case atStart=>exact⟨0,0,s.size+1,true,Yg,Yo,Yo,Yo,Yo,by unfold DL;rw[j.o],Mxt,Ah (QL w _) _,CU Ys _⟩
 case round=>
  obtain⟨p,o,f,due,rfl,al,ak,af,aj,c,k,g,i⟩:=hrel;obtain⟨f,rfl⟩:∃Z,f=Z+1:=⟨f-1,Yo⟩;have am:=Ab i;have d:=hd (V.o wr _ o due i)
  by_cases m:p<s.size/\¬(due=false/\o=0)
  ·obtain⟨y,ad⟩:=m;have L:due=false->0<o:=fun h=>Nat.pos_of_ne_zero (fun F=>ad ⟨h,F⟩);have z:(!due&&((o:Int)==0))=false:=by
    cases due with
    |true=>rfl
    |false=>
     have:=L rfl;simp;omega
   rw[z]at d;have D:=hd (P.o p o due (w.hz+1) wr Yo Yo L i);rw[Pf (by rw[j.o];exact y) L]at c;obtain⟨A,M⟩:=Ex ((C9 l p o due).1);obtain⟨U,K⟩:=Ex ((C9 l p o due).2.1);obtain⟨Q,S⟩:=Ex ((C9 l p o due).2.2);unfold FS at D;rw[<-M,<-K,<-S]at c D;have R:=V7 (l:=l) (p:=p) (o:=o) (due:=due) (by rw[j.o];exact y) af;rw[<-M,<-K,j.o]at R;obtain⟨ah,aa,ab⟩:=R;have E:=hd c;have q:=hd k;have W:=hd g;have T:(p:Int)<(s.size:Int):=Yo
   clear c k g i z M K S;go_wp2_with fail;apply d.o.mono;rintro e w1 ⟨rfl,rfl⟩;go_wp2_with fail;apply D.o.mono;rintro e w2 ⟨rfl,B,I⟩;have x:=(B.block w.hz Yo (fun e=>by have e:w.hz=w.hz+1:=e;omega)).trans W.o;have O:Hd (Ao w w2):=C6 q.o B Yo
   by_cases C:A=p
   ·have a:Hd (DL l=some p):=by show _=_;rw[<-E.o,if_pos C]
    subst C;obtain⟨r,t,cf⟩:=Gu x;have ac:=Ab x;clear x B I;go_wp2;refine bodyPost_ret (v:= .agg #[Vi 6,Vi A]) (by simp[results,results81,go_sem,r,t,cf]) rfl ?_;exact⟨C6 O.o (((Ad.refl _ _).put 0 _).put 1 _) (Qe _),by rw[a.o]⟩
   ·have ai:((A:Int)==(p:Int))=false:=by rw[Qu];omega
    have a:Hd (Ck l f A U Q=DL l):=by show _=_;rw[<-E.o,if_neg C]
    have X:=hd x;have Y:=hd I;have ae:=ab C;clear x B I E;go_wp2
    go_roundg (s.size-p)
    case measure=>omega
    case rel=>exact⟨A,U,f,Q,rfl,aa,Yo,ae,Yo,a.o,O.o,X.o,Y.o⟩
  ·have J:¬(((!(!due&&((o:Int)==0)))&&decide ((p:Int)<(s.size:Int)))=true):=fun h=>by
    rw[Q6,decide_eq_true_iff]at h;refine m ⟨Yo,fun⟨G,H⟩=> ?_⟩;rw[G,H]at h;simp at h
   obtain⟨r,t,cf⟩:=Gu g;have q:=hd k;have ac:=Ab g
   by_cases y:p<s.size
   ·have n:due=false/\o=0:=by
     by_cases h:due=false/\o=0
     ·exact h
     ·exact absurd ⟨y,h⟩ m
    obtain⟨rfl,rfl⟩:=n;have a:Hd (DL l=some p):=by show _=_;rw[<-c];exact N2 (by rw[j.o];exact y)
    have T:(p:Int)<(s.size:Int):=Yo
    clear c k g i J m;go_wp2_with fail;apply d.o.mono;rintro e w1 ⟨rfl,rfl⟩;go_wp2;refine bodyPost_ret (v:= .agg #[Vi 6,Vi p]) (by simp[results,results81,go_sem,r,t,cf]) rfl ?_;exact⟨C6 q.o (((Ad.refl _ _).put 0 _).put 1 _) (Qe _),by rw[a.o]⟩
   ·have T:¬(p:Int)<(s.size:Int):=Yo
    have hn:=SD (l:=l) (f:=f) (p:=p) (o:=o) (due:=due) (by rw[j.o];omega);rw[c]at hn
    by_cases n:due=false/\o=0
    ·obtain⟨rfl,rfl⟩:=n;have a:Hd (DL l=none):=by show _=_;rw[hn];simp
     clear c k g i J m hn;go_wp2_with fail;apply d.o.mono;rintro e w1 ⟨rfl,rfl⟩;go_wp2_with fail;apply d.o.mono;rintro e w1 ⟨rfl,rfl⟩;go_wp2;refine bodyPost_ret (v:= .agg #[Vi 0,Vi 0]) (by simp[results,results81,go_sem,r,t,cf]) rfl ?_;exact⟨C6 q.o (((Ad.refl _ _).put 0 _).put 1 _) (Qe _),by rw[a.o]⟩
    ·have a:Hd (DL l=some p):=by
      show _=_;rw[hn,if_pos]
      by_cases h:due=true
      ·exact Or.inl h
      ·refine Or.inr (Nat.pos_of_ne_zero (fun F=>n ⟨by simpa using h,F⟩))
     have z:(!due&&((o:Int)==0))=false:=by
      cases due with
      |true=>rfl
      |false=>
       simp;intro h;exact n ⟨rfl,Yo⟩
     rw[z]at d;clear c k g i J m hn z n;go_wp2_with fail;apply d.o.mono;rintro e w1 ⟨rfl,rfl⟩;go_wp2_with fail;apply d.o.mono;rintro e w1 ⟨rfl,rfl⟩;go_wp2;refine bodyPost_ret (v:= .agg #[Vi 6,Vi p]) (by simp[results,results81,go_sem,r,t,cf]) rfl ?_;exact⟨C6 q.o (((Ad.refl _ _).put 0 _).put 1 _) (Qe _),by rw[a.o]⟩
def H1(t:TypeId):Prop:=t=142\/t=235\/t=9
def Eb(w w':World):Prop:=∀(k:Nat)(cl:Av)(t:TypeId)(fr:Nat×Nat),w.heap[k]?=some (.cells cl t fr)->¬H1 t->w'.heap[k]?=some (.cells cl t fr)
theorem Eb.refl(w:World):Eb w w:=fun _ _ _ _ h _=>h
theorem Eb.trans{w3:World}(h:Eb w1 w2)(b:Eb w2 w3):Eb w1 w3:=fun k cl t fr e a=>b k cl t fr (h k cl t fr e a) a
theorem Eb.of_ext(h:Ao w w'):Eb w w':=fun k cl t fr e _=>(h.block k (Ab e)).trans e
theorem Eb.of_kept(h:Ad S w w')(c:∀k,S k->∃cl t fr,w.heap[k]?=some (.cells cl t fr)/\H1 t):Eb w w':=fun k cl t fr e f=>(h.block k (Ab e) (fun d=>by
 obtain⟨g,j,i,a,b⟩:=c k d;rw[a]at e;simp at e;exact f (e.2.1▸b))).trans e
theorem Eb.own(c:Eb w w')(d:¬H1 e)(h:w.ownsRow B e size v n xs):w'.ownsRow B e size v n xs:=
 Aj h (fun k a=>by
  rcases h.2 with⟨rfl,_⟩|⟨g,f,i,rfl,_,b,_⟩
  ·simp[Value.ownBlock]at a
  ·simp[Value.ownBlock]at a;subst a;rw[c _ _ _ _ b d,b])
theorem Eb.terms(a:Eb w w')(h:AF w v ls):AF w' v ls:=by
 obtain⟨vs,h⟩:=h;exact⟨vs,a.own (by simp[H1]) h.owns,fun i l hl=>by
  obtain⟨x,b,c⟩:=h.all i l hl;exact⟨x,b,a.own (by simp[H1]) c⟩⟩
theorem C3.fr{d e:Value}{c:ND}(h:C3 w gv vv d e c)(b:Eb w w'):C3 w' gv vv d e c:=by
 obtain⟨n,a,f⟩:=h;exact⟨n,⟨b.terms a.goals,b.terms a.vals,b.terms a.done⟩,f⟩
structure Hu(B:Nat)(w:World)(v:Value)(ds:List (ND×Nat))(xs:List Value):Prop where
 owns:w.ownsRow B 235 5 v ds.length xs
 all:∀(i:Nat)(d:ND×Nat),ds[i]?=some d->∃x0 x1 x2 x3,xs[i*5]?=some x0/\xs[i*5+1]?=some x1/\xs[i*5+2]?=some x2/\xs[i*5+3]?=some x3/\xs[i*5+4]?=some (.int .i64 d.2)/\C3 w x0 x1 x2 x3 d.1
theorem Hu.keep(h:Hu B w v ds xs)(a:Eb w w')(b:∀k,v.ownBlock=some k->w'.heap[k]?=w.heap[k]?):Hu B w' v ds xs:=
 ⟨Aj h.owns b,fun i d hd=>by
  obtain⟨c,e,f,j,l,m,n,o,p,g⟩:=h.all i d hd;exact⟨c,e,f,j,l,m,n,o,p,g.fr a⟩⟩
theorem Hu.pop{g:Nat}{d:ND×Nat}(h:Hu B w (.slice (some ⟨g,0,none⟩) (n+1) cap) (ds++[d]) xs)(hn:ds.length=n):Hu B w (.slice (some ⟨g,0,none⟩) n cap) ds (xs.take (n*5)):=by
 have a:=h.owns;rw[Qg,Qn,hn]at a;refine⟨by rw[hn];exact JG a,fun i x b=> ?_⟩;have hi:=(Qa.1 b).1;obtain⟨c,e,f,j,k,l,m,o,p,g⟩:=h.all i x (by rw[Qc hi];exact b);exact⟨c,e,f,j,by rw[List.getElem?_take_of_lt Yo];exact k,by rw[List.getElem?_take_of_lt Yo];exact l,by rw[List.getElem?_take_of_lt Yo];exact m,by rw[List.getElem?_take_of_lt Yo];exact o,by rw[List.getElem?_take_of_lt Yo];exact p,g⟩
structure Ng(w0 w:World)(b:Nat)(cv nv:Value)(s:ByteArray)(p:Nat)(way:List (ND×Nat))(A:List (List UInt8))(wa:Option Addr)(wc:Nat)(aa:Option Addr)(ac:Nat):Prop where
 ext:Ao w0 w
 low:w0.heap.size<=b
 box:w.heap[b]?=some (.cells #[cv,nv,.string s,.int .i64 p,.slice wa way.length wc,.slice aa A.length ac] 142 (0,0))
 row:∃ys,Hu w0.heap.size w (.slice wa way.length wc) way.reverse ys
 ans:w.ownsRow w0.heap.size 9 1 (.slice aa A.length ac) A.length (Ba A)
def FR(w0 w:World)(b:Nat)(cv nv:Value)(s:ByteArray)(p:Nat)(way:Ln)(A:List (Lu)):Prop:=∃wa wc aa ac,Ng w0 w b cv nv s p way A wa wc aa ac
theorem D1{e:Nat}{cl:Av}(h:w.ownsRow B e size v n xs)(hb:w.heap[b]?=some (.cells cl t fr))(d:e≠t):∀k,v.ownBlock=some k->k≠b:=fun k a e'=>by
 subst e';rcases h.2 with⟨rfl,_⟩|⟨g,f,i,rfl,_,c,_⟩
 ·simp[Value.ownBlock]at a
 ·simp[Value.ownBlock]at a;subst a;rw[c]at hb;simp at hb;exact d hb.2.1
theorem Ng.grow{nv:Value}{way:Ln}{A:List (Lu)}{wa:Oa}{wc:Nat}{aa:Oa}{ac:Nat}(h:Ng w0 w b cv nv s p way A wa wc aa ac)(e:Ao w w'):Ng w0 w' b cv nv s p way A wa wc aa ac:=by
 obtain⟨d,c⟩:=h.row;exact⟨h.ext.trans (e.mono h.ext.size),h.low,(e.block _ (Ab h.box)).trans h.box,⟨d,c.keep (Eb.of_ext e) (fun k a=>e.block k (c.owns.lt k a).2)⟩,Aj h.ans (fun k a=>e.block k (h.ans.lt k a).2)⟩
theorem Ng.upd{nv:Value}{p':Nat}{way way':Ln}{A:List (Lu)}{wa f:Oa}{wc g:Nat}{aa:Oa}{ac:Nat}(h:Ng w0 w b cv nv s p way A wa wc aa ac)(c:Ad (only b) w w')(l:w'.heap[b]?=some (.cells #[cv,nv,.string s,Vi p',.slice f way'.length g,.slice aa A.length ac] 142 (0,0)))
  (m:∃i,Hu w0.hz w (.slice f way'.length g) way'.reverse i):Ng w0 w' b cv nv s p' way' A f g aa ac/\Eb w w':=by
 obtain⟨i,d⟩:=m;have j:Eb w w':=Eb.of_kept c (fun k e=>by
  have e:k=b:=e;subst e;exact⟨_,_,_,h.box,by simp[H1]⟩)
 refine⟨⟨C6 h.ext c h.low,h.low,l,⟨i,d.keep j (fun k a=>c.block k (d.owns.lt k a).2 (D1 d.owns h.box Yd k a))⟩,Aj h.ans (fun k a=>c.block k (h.ans.lt k a).2 (D1 h.ans h.box Yd k a))⟩,j⟩
theorem K8(j w:World)(b:Nat)(i nv:Value)(s:ByteArray)(p:Nat)(way:Ln)(A:List (Lu))(c:UInt8)(l:c≠0)(h:FR j w b i nv s p way A)(C:s.size<=20000)(B:p<=s.size):
  Calls prog 137 #[Pt b,.int .u8 c.toNat] w fun e w'=>Eb w w'/\((s.data.toList[p]?=some c/\e= .returned (.bool true)/\FR j w' b i nv s (p+1) way A)\/(s.data.toList[p]?≠some c/\e= .returned (.bool false)/\FR j w' b i nv s p way A)):=by
 obtain⟨wa,wc,aa,ac,h⟩:=h;obtain⟨r,b1,b2,t,v,x,y⟩:=IE h.box;have z:=Ab h.box;have a:=hd h;have f:=hd (fun u=>Mw s p u Yo Yo)
 by_cases g:s.data.toList[p]?=some c
 ·rw[(QO l).2 g]at f;have q:((c.toNat:Int) !=(c.toNat:Int))=false:=Ys
  clear h;go_enter func137,ntmps137;go_wp2_with fail;go_quiet ((go_at_call 136;exact Calls.quiet_of_same (f.o _)));go_wp2;go_ret;obtain⟨m,n⟩:=a.o.upd (p':=p+1) (((Ad.refl (only b) w).drewN nq).put 3 (Vi ((p:Int)+1))) (Af (w:=w.drewN nq) a.o.box 3 _) a.o.row;exact⟨n,Or.inl ⟨g,rfl,_,_,_,_,m⟩⟩
 ·obtain⟨d,hd⟩:=Ex (F5 s.data.toList p);rw[<-hd]at f;have q:((d.toNat:Int) !=(c.toNat:Int))=true:=by
   rw[bne_iff_ne];exact Kh (fun e=>g ((QO l).1 (hd▸e)))
  clear h hd;go_enter func137,ntmps137;go_wp2_with fail;go_quiet ((go_at_call 136;exact Calls.quiet_of_same (f.o _)));go_wp2;go_ret;have k:Ao w (w.drewN nq):=Ao.of ((Ad.refl _ w).drewN _);exact⟨Eb.of_ext k,Or.inr ⟨g,rfl,_,_,_,_,a.o.grow k⟩⟩
theorem So(m w:World)(b:Nat)(i nv:Value)(s:ByteArray)(p:Nat)(d:ND×Nat)(r:Ln)(A:List (Lu))(h:FR m w b i nv s p (d::r) A)(I:s.size<=20000)(G:p<=s.size)(R:r.length<=20000):
  Calls prog 139 #[Pt b] w fun e w'=>Eb w w'/\((s.data.toList[p]?=some 41/\e= .returned (.bool true)/\FR m w' b i nv s (p+1) r A)\/(s.data.toList[p]?≠some 41/\e= .returned (.bool false)/\FR m w' b i nv s p (d::r) A)):=by
 have g:=hd (K8 m w b i nv s p (d::r) A 41 Yd h I G);obtain⟨wa,wc,aa,ac,h⟩:=h;have k:=h.box;simp only[Qf]at k;obtain⟨v,b1,b2,x,y,z,B⟩:=IE k;have O:=Ab k;have Q:decide ((r.length:Int)<0)=false:=by rw[decide_eq_false_iff_not];omega
 simp only[show((41:UInt8).toNat:Int)=41 from rfl]at g;clear h k;go_enter func139,ntmps139;go_wp2_with fail;apply g.o.mono;rintro e w1 ⟨j,⟨f,rfl,a⟩|⟨f,rfl,a⟩⟩
 ·obtain⟨T,L,M,N,a⟩:=a;have c:=a.box;simp only[Qf]at c;clear v b1 b2 x y z B;obtain⟨v,b1,b2,x,y,z,B⟩:=IE c;obtain⟨W,l⟩:=a.row;simp only[Qf,Qw]at l;have u:=l.owns;rw[Qg,Qv,Qn]at u;obtain⟨K,U,V,C,_,J,S⟩:=An u Yo;simp only[QH]at C;obtain⟨rfl,_,rfl⟩:=C;have H:=hd (l.pop Qv);have P:=Ab c;have n:=hd a;have q:=hd j;have D:=hd c;have t:=hd f;clear a c l u J j f g;go_wp2;go_ret;obtain⟨E,F⟩:=n.o.upd (way':=r) ((Ad.refl (only b) w1).put 4 (.slice (some ⟨K,0,none⟩) r.length L)) (Af D.o 4 _) ⟨_,H.o⟩;exact⟨q.o.trans F,Or.inl ⟨t.o,rfl,_,_,_,_,E⟩⟩
 ·have n:=hd a;have q:=hd j;have t:=hd f;clear a j f g;go_wp2;go_ret;exact⟨q.o,Or.inr ⟨t.o,rfl,n.o⟩⟩
def QQ(w0 w:World)(b:Nat)(cv nv:Value)(s:ByteArray)(M:HM)(e:Ending)(w':World):Prop:=Eb w w'/\e= .returned (.bool M.ok)/\FR w0 w' b cv nv s M.at' M.way M.ans
theorem FR.grow{nv:Value}{way:Ln}{A:List (Lu)}(h:FR w0 w b cv nv s p way A)(e:Ao w w'):FR w0 w' b cv nv s p way A:=by
 obtain⟨wa,wc,aa,ac,h⟩:=h;exact⟨wa,wc,aa,ac,h.grow e⟩
theorem Ng.answer{nv:Value}{way:Ln}{A:List (Lu)}{wa:Oa}{wc:Nat}{aa c:Oa}{ac d:Nat}{Y:Lu}(h:Ng w0 w b cv nv s p way A wa wc aa ac)
  (ha:Ar w w0.hz 9 1 (.slice aa A.length ac) (A.length+1) (Ba A++[.string ⟨Y.toArray⟩]) (.slice c (A.length+1) d) w1):
  w1.heap[b]?=w.heap[b]?/\Ng w0 (w1.setCell ⟨b,5,none⟩ (.slice c (A.length+1) d)) b cv nv s p way (A++[Y]) wa wc c d/\Eb w (w1.setCell ⟨b,5,none⟩ (.slice c (A.length+1) d)):=by
 obtain⟨r,j⟩:=h.row;have hn:=D1 h.ans h.box Yd;have q:w1.heap[b]?=w.heap[b]?:=ha.kept.block b (Ab h.box) (fun e=>hn b e rfl);have n:Eb w w1:=Eb.of_kept ha.kept (fun k e=>by
  rcases h.ans.2 with⟨e',_⟩|⟨g,t,u,e',_,l,_⟩
  ·rw[e']at e;simp[Ak,Value.ownBlock]at e
  ·rw[e']at e;simp[Ak,Value.ownBlock]at e;subst e;exact⟨_,_,_,l,by simp[H1]⟩)
 have m:Hu w0.hz w1 (.slice wa way.length wc) way.reverse r:=j.keep n (fun k a=>ha.kept.block k (j.owns.lt k a).2 (fun e=>by
  rcases h.ans.2 with⟨e',_⟩|⟨g,t,u,e',_,l,_⟩
  ·rw[e']at e;simp[Ak,Value.ownBlock]at e
  ·rw[e']at e;simp[Ak,Value.ownBlock]at e;subst e;exact D1 j.owns l Yd _ a rfl))
 have v:Ao w0 w1:=h.ext.trans (ha.kept.below h.ext.size (fun k e=>(h.ans.lt k e).1));have i:=q.trans h.box;have f:Ad (only b) w1 (w1.setCell ⟨b,5,none⟩ (.slice c (A.length+1) d)):=(Ad.refl _ _).put 5 _;have o:Eb w1 (w1.setCell ⟨b,5,none⟩ (.slice c (A.length+1) d)):=Eb.of_kept f (fun k e=>by
  have e:k=b:=e;subst e;exact⟨_,_,_,i,by simp[H1]⟩)
 have hl:(A++[Y]).length=A.length+1:=Ys
 have x:Ba (A++[Y])=Ba A++[.string ⟨Y.toArray⟩]:=by simp[Ba]
 refine⟨q,⟨C6 v f h.low,h.low,by rw[hl];exact Af i 5 _,⟨r,m.keep o (fun k a=>f.block k (m.owns.lt k a).2 (D1 m.owns i Yd k a))⟩,?_⟩,n.trans o⟩;rw[hl,x];exact Aj ha.owns (fun k a=>f.block k (ha.owns.lt k a).2 (D1 ha.owns i Yd k a))
theorem P5(m w:World)(b:Nat)(Q nv:Value)(s:ByteArray)(p:Nat)(way:Ln)(A:List (Lu))(names:At)(ai a2 az a0:Value)(n:ND)(h:FR m w b Q nv s p way A)(hn:C3 w ai a2 az a0 n)(V:n.goals=[])(X:m.ownsRow 0 9 1 nv names.length (Ba names))(bg:n.vals.length=names.length)(be:names.length<=60)(ar:∀x∈names,x.length<=8)(bd:s.size<=20000)(bc:p<=s.size)(bk:A.length<=20000):
  Calls prog 103 #[Pt b,.agg #[ai,a2,az,a0]] w (QQ m w b Q nv s (Cm names s.data.toList n p way A)):=by
 obtain⟨ag,ah,g,l,k,aw,ay,ax,u,rfl,rfl,rfl,rfl,bq⟩:=hn.shape;obtain⟨J,f⟩:=Ex (w.alloc (.cells #[.slice ag n.goals.length ah,.slice g l k,.slice aw ay ax,Vi u] 87));have R:Ao w J:=by rw[f];exact Mxt
 have ap:J.heap[w.hz]?=some (.cells #[.slice ag n.goals.length ah,.slice g l k,.slice aw ay ax,Vi u] 87 (0,0)):=by rw[f];exact QL w _
 have r:=hd (K8 m J b Q nv s p way A 33 Yd (h.grow R) bd bc);have E:Cm names s.data.toList n p way A=if s.data.toList[p]?=some 33 then⟨true,p+1,way,A++[AU names n]⟩else⟨false,p,way,A⟩:=by unfold Cm;rw[if_pos V]
 obtain⟨Y,T⟩:=Ex (AU names n);rw[<-T]at E;obtain⟨M,al⟩:=Ex (Cm names s.data.toList n p way A);rw[<-al]at E⊢;have ae:=hd E;have bl:b<w.hz:=by
  obtain⟨_,_,_,_,h⟩:=h;exact Ab h.box
 have a7:=hd hn;have G:=hd R;have ad:=hd ap;simp only[show((33:UInt8).toNat:Int)=33 from rfl]at r;rw[V,Qt]at f ad⊢;have a6:=hd f;have af:=hd X;obtain⟨na,nc,rfl⟩:=Ac X;clear h hn E R ap f V X al;go_enter func103,ntmps103;go_wp2_with fail;rw[<-a6.o];apply r.o.mono;rintro e w1 ⟨d,⟨D,rfl,c⟩|⟨D,rfl,c⟩⟩
 ·obtain⟨bs,bt,a8,a9,c⟩:=c;obtain⟨K,b1,b2,L,N,O,P⟩:=IE c.box;have au:=d _ _ _ _ ad.o (by simp[H1]);have a1:=Aa au 1 _ rfl;have bm:=Ab c.box;obtain⟨ab,am,bb,B,S,ba,a⟩:=(a7.o.ext G.o).fr d;have aq:ab.vals.length=names.length:=by rw[a.vl,bg]
  have an:AU names ab=AU names n:=by unfold AU;rw[a.valsC B]
  have Z:=Aj af.o (fun j W=>c.ext.block j (af.o.lt j W).2);have ac:Hd (Calls prog 70 #[.slice na names.length nc,.slice g l k] w1.drew fun e w'=>Ao w1.drew w'/\e= .returned (.string ⟨(AU names n).toArray⟩)):=by
   have z:Ao w1 w1.drew:=⟨rfl,rfl,rfl,Qe _,fun _ _=>rfl⟩;rw[<-an];exact FM _ _ _ names ab.vals (Aj Z (fun j W=>z.block j (Z.lt j W).2)) (am.vals.ext z) (NX B S Yo) aq.symm (Iz B S Yo be ar)
  rw[<-T]at ac;have I:Hd (M=⟨true,p+1,way,A++[Y]⟩):=by show _=_;rw[ae.o,if_pos D]
  have F:=hd c;have H:=hd ((Eb.of_ext G.o).trans d);clear c d au am bb B S ba a aq an Z T r ar;go_wp2_with fail;refine FB Yk [.rd 0 1 (fun _=>Pt b),.rd 0 1 (fun _=>Pt b),.rd 0 1 (fun _=> .pointer (some ⟨b,1,none⟩)),.rd 0 0 (fun _=> .slice na names.length nc),.rd 0 1 (fun _=> .pointer (some ⟨w.hz,1,none⟩)),.rd 0 0 (fun _=> .slice g l k),.st 0,.rd 1 1 (fun _=> .string ⟨Y.toArray⟩)] 1 7 Yk (Tl w1.drew (.string ⟨Y.toArray⟩)) rfl ?_ ?_
  ·refine⟨⟨trivial,fun vs y _ hl a=> ?_⟩,⟨trivial,fun vs y _ hl a=> ?_⟩,⟨trivial,fun vs y _ hl a=> ?_⟩,⟨trivial,fun vs y _ hl a=> ?_⟩,⟨trivial,fun vs y _ hl a=> ?_⟩,⟨trivial,fun vs y _ hl a=> ?_⟩,⟨trivial,fun vs y hl a=> ?_⟩,⟨trivial,fun vs y bp hl a=> ?_⟩,trivial⟩
   ·simp[go_sem]
   ·simp[go_sem]
   ·simp[go_sem]
   ·obtain rfl:=a.at hl;simp[go_sem,b1]
   ·simp[go_sem]
   ·obtain rfl:=a.at hl;simp[go_sem,a1]
   ·obtain rfl:=Q3.1 hl;obtain rfl:y=w1.drew:=a;refine .call 70 #[.slice na names.length nc,.slice g l k] _ (by simp[go_sem]) (ac.o.mono ?_);rintro e u ⟨z,rfl⟩;exact⟨_,rfl,rfl,z⟩
   ·obtain⟨v,rfl⟩:=Q1.1 (show vs.length=1 by omega);obtain⟨rfl,_⟩:=a;simp[go_sem]
  rintro vs y hl a;obtain⟨v,rfl⟩:=Q1.1 hl;obtain⟨bf,av⟩:=a;have aa:=av.undrew;have t:=F.o.grow aa;have a4:=hd (H.o.trans (Eb.of_ext aa));clear K b1 b2 L N O P a1;obtain⟨K,b1,b2,L,N,O,P⟩:=IE t.box;have bn:=Ab t.box;have q:=hd t;simp only[El,Hq,B4,pa,Ph.kd,Ph.val,Kd.val,Qx,List.map_nil,if_true,Act.put,List.setIfInBounds_toArray,List.set_cons_succ,List.set_cons_zero];clear bf av aa t
  go_wp2_with (at_builtin;go_loud (refine Am y rfl (.tmp 24) (.tmp 26) 47 rfl m.hz 9 infoStr underlying47 rfl Yd (.slice a8 A.length a9) A.length (Ba A) rfl q.o.ans #[.string ⟨Y.toArray⟩] rfl Yo rfl (by simp[Value.oneCell']) ?_ ?_ ?_))
  ·omega
  ·have:=q.o.ext.size;omega
  intro br w2 U;obtain⟨bi,bj,rfl⟩:=Ac U.owns;obtain⟨ao,aj,ak⟩:=q.o.answer U;have C:=ao.trans q.o.box;have bh:=Aa C 5 _ rfl;have cf:=fun i=>Ae C i;have a3:=hd aj;have a5:=hd ak;have bo:=Ab C;clear U ao aj ak C K b1 b2 L N O P;go_wp2;go_ret;rw[I.o];exact⟨a4.o.trans a5.o,rfl,_,_,_,_,a3.o⟩
 ·have F:=hd c;have H:=hd ((Eb.of_ext G.o).trans d);have I:Hd (M=⟨false,p,way,A⟩):=by show _=_;rw[ae.o,if_neg D]
  clear c d D r;go_wp2;go_ret;rw[I.o];exact⟨H.o,rfl,F.o⟩
theorem infoLevelT:(prog.info? 235).map (fun i=>(i.zero,i.size,i.bytes))=some (some (.agg #[Nl,Nl,Nl,Vi 0,Vi 0]),5,88):=by kernel_rfl
theorem Hu.step{cv':Value}{a b c f:Value}{n:ND}(h:Hu B w cv ds xs)(hn:C3 w a b c f n)(j:Eb w w')(l:w'.ownsRow B 235 5 cv' (ds.length+1) (xs++[a,b,c,f,Vi k])):
  Hu B w' cv' (ds++[(n,k)]) (xs++[a,b,c,f,Vi k]):=by
 have m:=h.owns.1;refine⟨by simpa using l,fun i d hd=> ?_⟩;rcases QB i ds.length with hi|hi
 ·rw[Qc hi]at hd;obtain⟨o,p,q,r,s,t,u,v,x,g⟩:=h.all i d hd;exact⟨o,p,q,r,by rw[Qc Yo];exact s,by rw[Qc Yo];exact t,by rw[Qc Yo];exact u,by rw[Qc Yo];exact v,by rw[Qc Yo];exact x,g.fr j⟩
 ·have e:i=ds.length:=by
   have:=(Qa.1 hd).1;simp at this;omega
  subst e;rw[Qd (Qe _)]at hd;simp at hd;subst hd;exact⟨a,b,c,f,by rw[Qd Yo];simp[m],by rw[Qd Yo,show ds.length*5+1-xs.length=1 by omega];rfl,by rw[Qd Yo,show ds.length*5+2-xs.length=2 by omega];rfl,by rw[Qd Yo,show ds.length*5+3-xs.length=3 by omega];rfl,by rw[Qd Yo,show ds.length*5+4-xs.length=4 by omega];rfl,hn.fr j⟩
theorem Ng.push{nv:Value}{way:Ln}{A:List (Lu)}{wa c:Oa}{wc d:Nat}{aa:Oa}{ac:Nat}{n:ND}{u v x y:Value}(h:Ng w0 w b cv nv s p way A wa wc aa ac)(f:Hu w0.hz w (.slice wa way.length wc) way.reverse ys)(hn:C3 w u v x y n)
  (ha:Ar w w0.hz 235 5 (.slice wa way.length wc) (way.length+1) (ys++[u,v,x,y,Vi 0]) (.slice c (way.length+1) d) w1):
  w1.heap[b]?=w.heap[b]?/\Ng w0 (w1.setCell ⟨b,4,none⟩ (.slice c (way.length+1) d)) b cv nv s p ((n,0)::way) A c d aa ac/\Eb w (w1.setCell ⟨b,4,none⟩ (.slice c (way.length+1) d)):=by
 have D:=D1 f.owns h.box Yd;have t:w1.heap[b]?=w.heap[b]?:=ha.kept.block b (Ab h.box) (fun e=>D b e rfl);have q:Eb w w1:=Eb.of_kept ha.kept (fun k e=>by
  rcases f.owns.2 with⟨e',_⟩|⟨g,z,B,e',_,m,_⟩
  ·rw[e']at e;simp[Ak,Value.ownBlock]at e
  ·rw[e']at e;simp[Ak,Value.ownBlock]at e;subst e;exact⟨_,_,_,m,by simp[H1]⟩)
 have o:=f.step (k:=0) hn q (by rw[Qv];exact ha.owns);have l:w1.ownsRow w0.hz 9 1 (.slice aa A.length ac) A.length (Ba A):=Aj h.ans (fun k a=>ha.kept.block k (h.ans.lt k a).2 (fun e=>by
  rcases f.owns.2 with⟨e',_⟩|⟨g,z,B,e',_,m,_⟩
  ·rw[e']at e;simp[Ak,Value.ownBlock]at e
  ·rw[e']at e;simp[Ak,Value.ownBlock]at e;subst e;exact D1 h.ans m Yd _ a rfl))
 have C:Ao w0 w1:=h.ext.trans (ha.kept.below h.ext.size (fun k e=>(f.owns.lt k e).1));have j:=t.trans h.box;have i:Ad (only b) w1 (w1.setCell ⟨b,4,none⟩ (.slice c (way.length+1) d)):=(Ad.refl _ _).put 4 _;have r:Eb w1 (w1.setCell ⟨b,4,none⟩ (.slice c (way.length+1) d)):=Eb.of_kept i (fun k e=>by
  have e:k=b:=e;subst e;exact⟨_,_,_,j,by simp[H1]⟩)
 exact⟨t,⟨C6 C i h.low,h.low,Af j 4 _,⟨_,by rw[Qw];exact o.keep r (fun k a=>i.block k (o.owns.lt k a).2 (D1 o.owns j Yd k a))⟩,Aj l (fun k a=>i.block k (l.lt k a).2 (D1 l j Yd k a))⟩,q.trans r⟩
theorem Pe(d w:World)(b:Nat)(r nv:Value)(s:ByteArray)(p:Nat)(way:Ln)(A:List (Lu))(names:At)(X ag ae af:Value)(n:ND)(h:FR d w b r nv s p way A)(hn:C3 w X ag ae af n)(Q:n.goals≠[])(ay:s.size<=20000)(ax:p<=s.size)(az:way.length<=20000):
  Calls prog 103 #[Pt b,.agg #[X,ag,ae,af]] w (QQ d w b r nv s (Cm names s.data.toList n p way A)):=by
 obtain⟨t,v,F,H,G,C,E,D,u,rfl,rfl,rfl,rfl,bc⟩:=hn.shape;have aw:0<n.goals.length:=List.length_pos_iff.2 Q;obtain⟨l,hz⟩:=Ex n.goals.length;rw[<-hz]at aw hn⊢;obtain⟨N,y⟩:=Ex (w.alloc (.cells #[.slice t l v,.slice F H G,.slice C E D,Vi u] 87));have O:Ao w N:=by rw[y];exact Mxt
 have ab:N.heap[w.hz]?=some (.cells #[.slice t l v,.slice F H G,.slice C E D,Vi u] 87 (0,0)):=by rw[y];exact QL w _
 have q:=hd (K8 d N b r nv s p way A 40 Yd (h.grow O) ay ax);have S:Cm names s.data.toList n p way A=if s.data.toList[p]?=some 40 then⟨true,p+1,(n,0)::way,A⟩else⟨false,p,way,A⟩:=by unfold Cm;rw[if_neg Q]
 obtain⟨M,Z⟩:=Ex (Cm names s.data.toList n p way A);rw[<-Z]at S⊢;have W:=hd S;have ba:b<w.hz:=by
  obtain⟨_,_,_,_,h⟩:=h;exact Ab h.box
 have ap:=hd hn;have K:=hd O;have al:=hd ab;simp only[show((40:UInt8).toNat:Int)=40 from rfl]at q;have ak:=hd y;have bf:(0:Int)<(l:Int):=Yo
 have be:((l:Int)==0)=false:=by rw[Qu];omega
 clear h hn S O ab y Q Z hz;go_enter func103,ntmps103;go_wp2_with fail;rw[<-ak.o];apply q.o.mono;rintro e w1 ⟨f,⟨B,rfl,a⟩|⟨B,rfl,a⟩⟩
 ·obtain⟨T,U,a0,a1,a⟩:=a;have j:=f _ _ _ _ al.o (by simp[H1]);have z:=a.box;obtain⟨L,x⟩:=Ex way.length;rw[<-x]at z az;obtain⟨a2,b1,b2,a3,a4,a5,a6⟩:=IE z;have bg:=Aa j 0 _ rfl;have bh:=Aa j 1 _ rfl;have bi:=Aa j 2 _ rfl;have bj:=Aa j 3 _ rfl;have bb:=Ab a.box;have bd:=Ab j;obtain⟨V,m⟩:=a.row;have Y:=(ap.o.ext K.o).fr f;have c:Ao w1 (w1.drewN 1):=Ao.of ((Ad.refl _ w1).drewN _);have ad:(w1.drewN 1).ownsRow d.hz 235 5 (.slice T L U) L V:=by
   have:=(m.keep (Eb.of_ext c) (fun k R=>c.block k (m.owns.lt k R).2)).owns;rw[Qv,<-x]at this;exact this
  have a9:=a.ext.size;have an:Hd (∀w2 I J,Ar (w1.drewN 1) d.hz 235 5 (.slice T L U) (L+1) (V++[.slice t l v,.slice F H G,.slice C E D,Vi u,Vi 0]) (.slice I (L+1) J) w2->w2.heap[b]?=w1.heap[b]?/\QQ d w b r nv s M (.returned (.bool true)) (w2.setCell ⟨b,4,none⟩ (.slice I (L+1) J))):=fun w2 I J g=>by
   have hd:=a.grow c;rw[x]at g⊢;obtain⟨ar,au,av⟩:=hd.push (m.keep (Eb.of_ext c) (fun k R=>c.block k (m.owns.lt k R).2)) (Y.ext c) g;refine⟨ar,?_⟩;rw[W.o,if_pos B];exact⟨(((Eb.of_ext K.o).trans f).trans (Eb.of_ext c)).trans av,rfl,_,_,_,_,au⟩
  have aq:=hd ad;have am:=hd z;clear a f j z m Y c ad q x;go_wp2_with fail
  go_region_law (refine BC (w1.drewN 1) rfl (.tmp 37) (.tmp 40) 140 rfl d.hz 235 infoLevelT underlying140 rfl Yd (.slice T L U) L V rfl aq.o #[.slice t l v,.slice F H G,.slice C E D,Vi u,Vi 0] rfl (by show _=w1.hz;omega) rfl My Yo (by show _<=w1.hz;omega) rfl ?_;intro bk w2 g;obtain⟨I,J,rfl⟩:=Ac g.owns;obtain⟨aa,ac⟩:=an.o _ _ _ g;have P:=aa.trans am.o;have a7:=Aa P 4 _ rfl;have a8:=fun i=>Ae P i;have ai:=hd ac;clear g aa P ac)
  all_goals
   go_wp2;go_ret;exact ai.o
 ·have ah:=hd a;have aj:=hd ((Eb.of_ext K.o).trans f);have ao:Hd (M=⟨false,p,way,A⟩):=by show _=_;rw[W.o,if_neg B]
  clear a f B q;go_wp2;go_ret;rw[ao.o];exact⟨aj.o,rfl,ah.o⟩
end Go.Proofs.YtlmjilpjmgjjcaaGreatDoor
