/-
  PROVED HERE: what the program's 'markEnds' does to cells that lie in memory (the conditions stand in each statement).
-/
import Derived.Test.YtlmjilpjmgjjcaaGreatDoorT2
import Derived.Orders
import Derived.BigQuiet
import Derived.Deep.QuietTactic
import Derived.Deep.RegionWith
set_option linter.unusedSimpArgs false
set_option linter.unusedVariables false
set_option maxRecDepth 10000
set_option maxHeartbeats 4000000
namespace Go.Proofs.YtlmjilpjmgjjcaaGreatDoor
open Go.RowKit
open Tryz
variable{w w' w1 w2 w0 wr:World}{n k B b i p size cap M rb bW x:Nat}{v cv gv vv lv:Value}{xs ys vs:Lv}{X Y S:Np}{s:ByteArray}{t e:TypeId}{fr:Nat×Nat}{P:Program}{l:Ly}{ls ts:Ll}{ρ:Nat->Nat}{σ:Nat->Ly}{cs:Lc}{c:Dt}{a:Ll×At}{ds r:Ln}{st:RS}{L:Bj}{G:Gr}{A:List Lu}
def H6(q:Bool):RS:=⟨q,if q then 1 else 0,q,[],[],[],[],[],[]⟩
theorem Ni(q:Bool):RI 0 (H6 q):=by
 refine⟨by simp[H6],by simp[H6],by simp[H6],by simp[H6],by simp[H6],by simp[H6],?_,by simp[H6],?_⟩
 ·cases q<;>simp[H6]
 ·cases q<;>simp[H6]
def Nj:RV:=⟨.slice none 0 0,.slice none 0 0,.slice none 0 0,.slice none 0 0,.slice none 0 0,.slice none 0 0⟩
theorem Sv(w:World)(q:Bool):B1 (w.alloc (.cells (Cq (H6 q) Nj) 169)) w.hz w.hz (H6 q):=by
 refine⟨Nj,0,0,[],[],QL w _,⟨Q2 _ _ _ _,Q2 _ _ _ _,Q2 _ _ _ _,⟨Q2 _ _ _ _,fun k e=>by simp[Nj,Value.ownBlock]at e⟩,⟨Q2 _ _ _ _,fun i l hl=>by simp[H6]at hl⟩,
  ⟨Q2 _ _ _ _,rfl,fun x b=>by simp at b,fun i c a=>by simp[H6]at a⟩,fun k e=>by simp[Nj,Value.ownBlock]at e,fun k e=>by simp[Nj,Value.ownBlock]at e,fun k e=>by simp[Nj,Value.ownBlock]at e,Qm _,Qm _⟩,Qe _⟩
def Ct(s:ByteArray)(q:Bool):Nat×Nat×RS:=ET s.size (C4 s.data.toList 0) (H6 q)
theorem KM{b r:Nat}{cs:List CC}{xs:List (Lv)}(h:Fm w B b r v cs xs)(G:Ad S w w')(g:∀k t T fr,S k->w.heap[k]?=some (.cells t T fr)->T≠133/\T≠105/\T≠107/\T≠9):Fm w' B b r v cs xs:=by
 have f:∀{q:Nat}{e:TypeId}{s n:Nat}{v:Value}{z:Lv},w.ownsRow q e s v n z->(e=133\/e=105\/e=107\/e=9)->w'.ownsRow q e s v n z:=fun y a=>
  G.owns y (fun i hi d=>by
   obtain⟨t,p⟩:=Ay y i hi;obtain⟨m,o,E,F⟩:=g i _ _ _ d p;rcases a with a|a|a|a
   ·exact m a
   ·exact o a
   ·exact E a
   ·exact F a)
 have d:∀{v:Value}{l:Ly},D0 w B b v l->D0 w' B b v l:=fun g=>⟨f g.1 (Or.inl rfl),g.2⟩;refine⟨f h.1 (Or.inr (Or.inr (Or.inl rfl))),h.2.1,h.2.2.1,fun i c p=> ?_⟩;obtain⟨H,A,J,I,C,D,u,j⟩:=h.2.2.2 i c p;exact⟨H,A,J,I,C,d D,⟨f u.1 (Or.inr (Or.inl rfl)),fun i l hl=>by
  obtain⟨x,m,o⟩:=u.2 i l hl;exact⟨x,m,d o⟩⟩,j.1,f j.2.1 (Or.inr (Or.inr (Or.inr rfl))),j.2.2⟩
theorem MQ{b:Nat}{g:Lv}(h:Cp w B b v ls g)(o:Ad S w w')(p:∀k,S k->k<B):Cp w' B b v ls g:=by
 have d:∀{e:TypeId}{s n:Nat}{v:Value}{j:Lv},w.ownsRow B e s v n j->w'.ownsRow B e s v n j:=fun f=>
  o.owns f (fun i hi m=>by
   have c:=(f.lt i hi).1;have a:=p i m;omega)
 exact⟨d h.1,fun i l hl=>by
  obtain⟨x,c,a⟩:=h.2 i l hl;exact⟨x,c,d a.1,a.2⟩⟩
theorem Ir(s:ByteArray)(w:World)(a:s.size<=maxLen)(hl:800<s.size):
  Calls prog 72 #[.string s] w fun e w'=>e=Rq #[Nl,.agg #[Vi 1,Vi 0]]/\Below w.hz w w':=by
 go_enter func72,ntmps72;go_wp2;refine bodyPost_ret (v:= .tuple #[Nl,.agg #[Vi 1,Vi 0]]) (by simp[results,results72,go_sem]) rfl ⟨rfl,(Below.refl _ _).alloc (Qe _) _⟩
theorem Jl(s:ByteArray)(w:World)(hl:s.size<=800):
  Calls prog 72 #[.string s] w fun e w'=>Below w.hz w w'/\(((Ct s false).1≠0/\e=Rq #[Nl,.agg #[Vi (Ct s false).1,Vi (Ct s false).2.1]])\/
   ((Ct s false).1=0/\∃v B f g xs,e=Rq #[v,.agg #[Vi 0,Vi 0]]/\Fm w' B f g v (Ct s false).2.2.clauses xs)):=by
 obtain⟨a,l⟩:=Ex (Ct s false);have c:=H3 ((w.alloc (.cells #[Vi 0,Vi 0] 91)).alloc (.cells (Cq (H6 false) Nj) 169)) _ _ (H6 false) s (Sv (w.alloc (.cells #[Vi 0,Vi 0] 91)) false) (Ni false) Yo;rw[show ET s.size (C4 s.data.toList 0) (H6 false)=a from l.symm]at c;rw[show(w.alloc (.cells #[Vi 0,Vi 0] 91)).hz=w.hz+1 from by simp]at c;have z:=hd c;rw[<-l];clear l c;go_enter func72,ntmps72;go_wp2_with fail;apply z.o.mono;rintro e w2 ⟨rfl,P,hb⟩;have j:C7 w2 w.hz 0 0:=(hb.block w.hz Yo).trans (Ah (QL w _) _);have x:Below w.hz w w2:=((Below.refl _ w).alloc (Qe _) _).trans ((((Below.refl _ _).alloc Ys _)).trans (hb.mono Yo));obtain⟨V,f,g,vs,xs,h⟩:=P;have R:=Ab h.blk;obtain⟨F,G,H,I,J,K,L,M,N⟩:=h.opens.facts;have cf:=fun i=>Ae h.blk i;obtain⟨ca,O,n⟩:=Ac h.rest.cls.1;rw[n]at N;obtain⟨y,r,t,u⟩:=j.cells;have C:=hd j;have q:=hd x;have A:=hd h.rest.cls;have D:=hd n;clear j x h n hb F G H I J K L M
 by_cases b:a.1=0
 ·have E:((a.1:Int) !=0)=false:=by rw[b];rfl
  have d:=hd b;clear b;go_wp2;refine bodyPost_ret (v:= .tuple #[.slice ca a.2.2.clauses.length O,.agg #[Vi 0,Vi 0]]) (by simp[results,results72,go_sem,r,t,u,y]) rfl ?_;refine⟨?_,Or.inr ⟨d.o,_,w.hz+1,f,g,xs,rfl,?_⟩⟩
  ·exact((q.o.setCell (p:=⟨w.hz,0,none⟩) (Qe _) _).setCell (p:=⟨w.hz,1,none⟩) (Qe _) _).alloc Yp _
  ·rw[<-D.o];exact KM A.o ((((Ad.refl (only w.hz) w2).put 0 _).put 1 _).alloc _) (fun k Q T fr m hb=>by
    have m:k=w.hz:=m;rw[m,C.o]at hb;simp only[Qo,Obj.cells.injEq]at hb;rw[<-hb.2.1];decide)
 ·have E:((a.1:Int) !=0)=true:=by rw[bne_iff_ne];omega
  have d:=hd b;clear b;go_wp2_with fail;go_region
  all_goals
   go_wp2;refine bodyPost_ret (v:= .tuple #[Nl,.agg #[Vi a.1,Vi a.2.1]]) (by simp[results,results72,go_sem,r,t,u,y]) rfl ?_;refine⟨?_,Or.inl ⟨d.o,rfl⟩⟩;exact(((q.o.setCell (p:=⟨w.hz,0,none⟩) (Qe _) _).setCell (p:=⟨w.hz,1,none⟩) (Qe _) _).alloc Yp _).drew
theorem JY(s:ByteArray)(w:World)(a:s.size<=maxLen)(hl:120<s.size):
  Calls prog 73 #[.string s] w fun e w'=>e=Rq #[.agg #[Nl,Nl,Nl],.agg #[Vi 1,Vi 0]]/\Below w.hz w w':=by
 go_enter func73,ntmps73;go_wp2;refine bodyPost_ret (v:= .tuple #[.agg #[Nl,Nl,Nl],.agg #[Vi 1,Vi 0]]) (by simp[results,results73,go_sem]) rfl ⟨rfl,((Below.refl _ _).alloc (Qe _) _).alloc Ys _⟩
theorem ID(s:ByteArray)(w:World)(hl:s.size<=120)(q:(Ct s true).1=0->∃c cs,(Ct s true).2.2.clauses=c::cs):
  Calls prog 73 #[.string s] w fun e w'=>Below w.hz w w'/\(((Ct s true).1≠0/\e=Rq #[.agg #[Nl,Nl,Nl],.agg #[Vi (Ct s true).1,Vi (Ct s true).2.1]])\/
   ((Ct s true).1=0/\∃J D M B z vs c cs,e=Rq #[.agg #[J,D,M],.agg #[Vi 0,Vi 0]]/\(Ct s true).2.2.clauses=c::cs/\(∃a n x,J= .slice a n x)/\w'.ownsRow B 9 1 M c.names.length (Ba c.names)/\Cp w' B z D c.body vs)):=by
 obtain⟨b,H⟩:=Ex (Ct s true);have m:=H3 (((w.alloc (.cells #[Nl,Nl,Nl] 107)).alloc (.cells #[Vi 0,Vi 0] 91)).alloc (.cells (Cq (H6 true) Nj) 169)) _ _ (H6 true) s (Sv ((w.alloc (.cells #[Nl,Nl,Nl] 107)).alloc (.cells #[Vi 0,Vi 0] 91)) true) (Ni true) Yo;rw[show ET s.size (C4 s.data.toList 0) (H6 true)=b from H.symm]at m;rw[show((w.alloc (.cells #[Nl,Nl,Nl] 107)).alloc (.cells #[Vi 0,Vi 0] 91)).hz=w.hz+1+1 from by simp]at m;have ak:=hd m;rw[<-H]at q⊢;have am:=hd q;clear H m q;go_enter func73,ntmps73;go_wp2_with fail;apply ak.o.mono;rintro e w2 ⟨rfl,a4,hb⟩;have G:C7 w2 (w.hz+1) 0 0:=(hb.block (w.hz+1) Yo).trans (Ah (by have:=QL (w.alloc (.cells #[Nl,Nl,Nl] 107)) (.cells #[Vi 0,Vi 0] 91);simpa using this) _);have d:w2.heap[w.hz]?=some (.cells #[Nl,Nl,Nl] 107 (0,0)):=(hb.block w.hz Yo).trans (Ah (Ah (QL w _) _) _);have W:Below w.hz w w2:=((Below.refl _ w).alloc (Qe _) _).trans (((Below.refl _ _).alloc Ys _).trans (((Below.refl _ _).alloc Yp _).trans (hb.mono Yo)));obtain⟨V,z,a8,vs,xs,h⟩:=a4;have bg:=Ab h.blk;obtain⟨ar,au,av,aw,ax,ay,az,a0,a1⟩:=h.opens.facts;have cf:=fun i=>Ae h.blk i;obtain⟨ca,ba,K⟩:=Ac h.rest.cls.1;rw[K]at a1;obtain⟨Y,R,T,U⟩:=G.cells;have q0:w2.cell? ⟨w.hz,0,none⟩=some Nl:=Aa d 0 _ rfl;have ac:w2.cell? ⟨w.hz,1,none⟩=some Nl:=Aa d 1 _ rfl;have ad:w2.cell? ⟨w.hz,2,none⟩=some Nl:=Aa d 2 _ rfl;have ae:=fun i=>Ae d i;have X:=Ab d;have a6:=hd G;have a7:=hd d;have al:=hd W;have N:=hd h.rest.cls;have ap:=hd K;clear G W h hb ar au av aw ax ay az a0 d K;have O:Hd (∀af ag ah ai aj o,Below w.hz w ((((((w2.setCell ⟨w.hz,0,none⟩ af).setCell ⟨w.hz,1,none⟩ ag).setCell ⟨w.hz,2,none⟩ ah).setCell ⟨w.hz+1,0,none⟩ ai).setCell ⟨w.hz+1,1,none⟩ aj).alloc o)):=fun af ag ah ai aj o=>
  (((((al.o.setCell (p:=⟨w.hz,0,none⟩) (Qe _) _).setCell (p:=⟨w.hz,1,none⟩) (Qe _) _).setCell (p:=⟨w.hz,2,none⟩) (Qe _) _).setCell (p:=⟨w.hz+1,0,none⟩) (Nat.le_succ _) _).setCell (p:=⟨w.hz+1,1,none⟩) (Nat.le_succ _) _).alloc Yp _
 by_cases f:b.1=0
 ·have aq:((b.1:Int) !=0)=false:=by rw[f];rfl
  obtain⟨c,cs,r⟩:=am.o f;obtain⟨J,D,M,a5,l,Q,E,a2,F,a3⟩:=N.o.2.2.2 0 c (by rw[r];rfl);obtain⟨va,L,rfl⟩:=Ac F;obtain⟨ha,I,rfl⟩:=Ac Q.1;obtain⟨A,C,rfl⟩:=Ac E.1;have q:0<b.2.2.clauses.length:=by rw[r];simp
  have j:=N.o.1;rw[ap.o]at j;obtain⟨g,bb,bc,Z,bd,aa,be⟩:=An j Yo;simp only[QH]at Z;obtain⟨rfl,_,rfl⟩:=Z;obtain⟨u,t⟩:∃u,xs=[.slice ha c.head.length I,.slice A c.body.length C,.slice va c.names.length L]::u:=by
   cases xs with
   |nil=>simp at l
   |cons x u=>simp at l;exact⟨u,by rw[l]⟩
  have bh:w2.cell? ⟨g,0,none⟩=some (.slice ha c.head.length I):=Ag j 0 _ (by rw[t];rfl);have bi:w2.cell? ⟨g,1,none⟩=some (.slice A c.body.length C):=Ag j 1 _ (by rw[t];rfl);have bj:w2.cell? ⟨g,2,none⟩=some (.slice va c.names.length L):=Ag j 2 _ (by rw[t];rfl);have bf:=Ab aa;have a9:(((b.2.2.clauses.length:Nat):Int)==0)=false:=by rw[Qu];omega
  have y:=hd f;have an:=hd r;have ao:=hd E;have P:=hd F;clear f r l Q E a2 F a3 j aa t;go_wp2;refine bodyPost_ret (v:= .tuple #[.agg #[.slice ha c.head.length I,.slice A c.body.length C,.slice va c.names.length L],.agg #[Vi 0,Vi 0]]) (by simp[results,results73,go_sem,R,T,U,Y,q0,ac,ad,ae,X]) rfl ?_;refine⟨O.o _ _ _ _ _ _,Or.inr ⟨y.o,_,_,_,w.hz+1+1,z,a5,c,cs,rfl,an.o,⟨_,_,_,rfl⟩,?_,?_⟩⟩
  rotate_left
  refine MQ ao.o (S:=fun k=>k=w.hz\/k=w.hz+1) ?_ (fun k ab=>by omega)
  rotate_left
  refine Ad.owns (S:=fun k=>k=w.hz\/k=w.hz+1) ?_ P.o (fun k ab e=>by have:=(P.o.lt k ab).1;omega)
  all_goals exact((((((Ad.refl _ w2).setCell (p:=⟨w.hz,0,none⟩) (fun _=>Or.inl rfl) _).setCell (p:=⟨w.hz,1,none⟩) (fun _=>Or.inl rfl) _).setCell (p:=⟨w.hz,2,none⟩) (fun _=>Or.inl rfl) _).setCell (p:=⟨w.hz+1,0,none⟩) (fun _=>Or.inr rfl) _).setCell (p:=⟨w.hz+1,1,none⟩) (fun _=>Or.inr rfl) _).alloc _
 ·have aq:((b.1:Int) !=0)=true:=by rw[bne_iff_ne];omega
  have y:=hd f;clear f;go_wp2_with fail;go_region
  all_goals
   go_wp2;refine bodyPost_ret (v:= .tuple #[.agg #[Nl,Nl,Nl],.agg #[Vi b.1,Vi b.2.1]]) (by simp[results,results73,go_sem,R,T,U,Y,q0,ac,ad,ae,X]) rfl ?_;refine⟨?_,Or.inl ⟨y.o,rfl⟩⟩;exact(O.o _ _ _ _ _ _).drew
def Hk(l:Ly):Prop:=l.length<=4000/\∀s∈l,s.num<2600/\s.args<=4096
def E1:Lu->Ll->Lu
 |_,[]=>[]
 |sep,l::ls=>sep++(A3 l []++E1 [44,32] ls)
def Hg(c:CC):Lu:=if c.body=[]then A3 c.head []++[46]else A3 c.head []++([32,58,45,32]++(E1 [] c.body++[46]))
def HR:List CC->Lu
 |[]=>[]
 |c::cs=>Hg c++10::HR cs
theorem D0.fresh{a:Nat}(h:D0 w B a v l)(b:Ad A4 w w'):D0 w' B a v l:=⟨b.owns h.1 (fun _ _ h=>h),h.2⟩
theorem Cp.fresh{a:Nat}{b:Lv}(h:Cp w B a v ls b)(c:Ad A4 w w'):Cp w' B a v ls b:=MQ h c (fun _ h=>h.elim)
theorem Fm.fresh{a b:Nat}{cs:List CC}{xs:List (Lv)}(h:Fm w B a b v cs xs)(c:Ad A4 w w'):Fm w' B a b v cs xs:=KM h c (fun _ _ _ _ h=>h.elim)
theorem VO(xs:List (Lv))(c:∀x∈xs,x.length=3)(k:Nat)(x:Lv)(b:xs[k]?=some x)(j:Nat)(f:j<3):xs.flatten[k*3+j]?=x[j]?:=by
 induction xs generalizing k with
 |nil=>simp at b
 |cons a xs e=>
  have ha:=c a Ys
  cases k with
  |zero=>
   simp at b;subst b;rw[Q4,Qc Yo];simp
  |succ k=>
   rw[Q4,Qd Yo,<-e (fun y d=>c y (by simp[d])) k (by simpa using b)]
   congr 1
   omega
theorem I6(w:World)(B I:Nat)(v:Value)(ls:Ll)(N:Lv)(u:Cp w B I v ls N)(hl:ls.length<=4000)(hn:∀l∈ls,Hk l)(J:(E1 [] ls).length<=100000000):
  Calls prog 146 #[v] w fun e w'=>e= .returned (.string ⟨(E1 [] ls).toArray⟩)/\Below w.hz w w':=by
 obtain⟨h,s⟩:=Ex (E1 [] ls);rw[<-s]at J⊢;obtain⟨va,Z,rfl⟩:=Ac u.1;have H:=hd u;have F:=hd s;have G:=hd hn;clear u s hn;go_enter func146,Y;go_wp2
 go_loopg [3,8] (ls.length+1) (fun gk M i wr=>∃(k:Nat)(a:Lu),i=Vi k/\k<=ls.length/\ls.length-k<gk/\M= .string ⟨a.toArray⟩/\a++E1 (if k=0 then[]else[44,32]) (ls.drop k)=h/\Below w.hz w wr)
 case atStart=>exact⟨0,[],rfl,Qm _,Yo,rfl,by rw[F.o];rfl,Below.refl _ _⟩
 case round=>
  obtain⟨k,a,rfl,W,V,rfl,b,c⟩:=hrel;have D:=c.size
  by_cases t:k<ls.length
  ·obtain⟨l,d⟩:∃l,ls[k]?=some l:=⟨_,Qb t⟩;have hd:ls.drop k=l::ls.drop (k+1):=by
    rw[QC t];rw[Qb t]at d;simp at d;rw[d]
   rw[hd,E1]at b;have y:=G.o l (Qh d);have n:=H.o.fresh (Ad.untouched c);obtain⟨x,E,z⟩:=n.2 k l d;obtain⟨O,P,rfl⟩:=Ac z.1;obtain⟨g,Q,R,C,T,K,U⟩:=An n.1 Yo;simp only[QH]at C;obtain⟨rfl,_,rfl⟩:=C;have S:wr.cell? ⟨g,k,none⟩=some (.slice O l.length P):=Ag n.1 _ _ E;have p:=Ig b;simp only[Qg]at p;have A:=hd (GX wr B _ l z.1 y.1 y.2 Yo);have j:=hd b;have m:=hd c;clear b c hd d K n z E y
   by_cases h0:k=0
   ·subst h0;have q:Hd (a++A3 l []++E1 [44,32] (ls.drop (0+1))=h):=by show _=_;rw[<-j.o];simp
    simp only[if_pos]at p;go_wp2_with fail;apply A.o.mono;rintro e w1 ⟨rfl,f⟩;have r:=hd f;clear f;go_wp2
    go_roundg (ls.length-0)
    case measure=>omega
    case rel=>
     exact⟨0+1,a++A3 l [],Yg,Yo,Yo,congrArg Value.string (Az _ _),q.o,m.o.trans (r.o.mono D)⟩
   ·have q:Hd (a++[44,32]++A3 l []++E1 [44,32] (ls.drop (k+1))=h):=by show _=_;rw[<-j.o,if_neg h0];simp
    rw[if_neg h0]at p;simp only[Qf,Qt]at p;have X:(0:Int)<(k:Int):=Yo
    go_wp2_with fail;apply A.o.mono;rintro e w1 ⟨rfl,f⟩;have r:=hd f;clear f;go_wp2
    go_roundg (ls.length-k)
    case measure=>omega
    case rel=>
     refine⟨k+1,a++[44,32]++A3 l [],Yg,Yo,Yo,?_,by rw[if_neg Yo];exact q.o,m.o.trans (r.o.mono D)⟩;show Value.string (_++(⟨[44,32].toArray⟩:ByteArray)++_)=_;rw[Az,Az]
  ·have L:k=ls.length:=Yo
   have j:Hd (a=h):=by
    show _=_;rw[L,List.drop_eq_nil_of_le (Qe _)]at b;simpa[E1]using b
   have m:=hd c;clear b c;go_wp2;go_ret;rw[<-j.o];exact⟨rfl,m.o⟩
theorem Mf(w:World)(B c:Nat)(g d i:Value)(ls:Ll)(h:Lv)(p:∃a n x,g= .slice a n x)(q:∃a n x,i= .slice a n x)(b:Cp w B c d ls h)(hl:ls.length<=4000)(hn:∀l∈ls,Hk l)(m:(E1 [] ls).length<=100000000):
  Calls prog 109 #[.agg #[g,d,i]] w fun e w'=>e= .returned (.string ⟨(E1 [] ls++[46]).toArray⟩)/\Below w.hz w w':=by
 obtain⟨ha,t,u,rfl⟩:=p;obtain⟨va,vn,v,rfl⟩:=q;obtain⟨r,s,rfl⟩:=Ac b.1;have j:=hd (fun o=>I6 (w.alloc o) B c _ ls h (b.fresh ((Ad.refl _ w).alloc o)) hl hn m);clear b;go_enter func109,ntmps109;go_wp2_with fail;apply(j.o _).mono;rintro e w1 ⟨rfl,f⟩;have k:=hd f;clear f;go_wp2;go_ret;refine⟨DW ?_,((Below.refl _ w).alloc (Qe _) _).trans (k.o.mono Ys)⟩;exact Az _ [46]
theorem Ov(w:World)(B p:Nat)(z u C:Value)(c:CC)(A:Lv)(M:∃a n x,C= .slice a n x)(q:D0 w B p z c.head)(r:Cp w B p u c.body A)(hl:c.body.length<=4000)(hn:Hk c.head/\∀l∈c.body,Hk l)(d:(Hg c).length<=100000000):
  Calls prog 140 #[.agg #[z,u,C]] w fun e w'=>e= .returned (.string ⟨(Hg c).toArray⟩)/\Below w.hz w w':=by
 obtain⟨va,vn,D,rfl⟩:=M;obtain⟨ha,y,rfl⟩:=Ac q.1;obtain⟨g,i,rfl⟩:=Ac r.1;have K:(A3 c.head []).length<=100000000:=by
  unfold Hg at d;split at d<;>simp only[Qg]at d<;>omega
 have t:=hd (fun o=>GX (w.alloc o) B _ c.head (q.fresh ((Ad.refl _ w).alloc o)).1 hn.1.1 hn.1.2 K);have E:=hd r;have H:=hd hn;clear q r hn
 by_cases hb:c.body=[]
 ·have m:Hd (Hg c=A3 c.head []++[46]):=by show _=_;rw[Hg,if_pos hb]
  have I:(((c.body.length:Nat):Int)==0)=true:=by rw[hb];rfl
  clear hb;go_enter func140,ntmps140;go_wp2_with fail;apply(t.o _).mono;rintro e w1 ⟨rfl,b⟩;have f:w1.heap[w.hz]?=some (.cells #[.slice ha c.head.length y,.slice g c.body.length i,.slice va vn D] 107 (0,0)):=(b.block _ Ys).trans (QL w _);have b1:w1.cell? ⟨w.hz,1,none⟩=some (.slice g c.body.length i):=Aa f 1 _ rfl;have k:=hd b;clear b f;go_wp2;go_ret;rw[m.o];exact⟨DW (Az _ [46]),((Below.refl _ w).alloc (Qe _) _).trans (k.o.mono Ys)⟩
 ·have s:Hg c=A3 c.head []++([32,58,45,32]++(E1 [] c.body++[46])):=by rw[Hg,if_neg hb]
  have I:(((c.body.length:Nat):Int)==0)=false:=by
   rw[Qu]
   cases J:c.body with
   |nil=>exact absurd J hb
   |cons _ _=>simp;omega
  rw[s]at d;simp only[Qg,Qf,Qt]at d;have m:=hd s;clear hb s;go_enter func140,ntmps140;go_wp2_with fail;apply(t.o _).mono;rintro e w1 ⟨rfl,b⟩;have f:w1.heap[w.hz]?=some (.cells #[.slice ha c.head.length y,.slice g c.body.length i,.slice va vn D] 107 (0,0)):=(b.block _ Ys).trans (QL w _);have b1:w1.cell? ⟨w.hz,1,none⟩=some (.slice g c.body.length i):=Aa f 1 _ rfl;have j:Ad A4 w w1:=((Ad.refl _ w).alloc _).trans (Ad.untouched b);have F:=hd (I6 w1 B p _ c.body A (E.o.fresh j) hl H.o.2 Yo);have L:=j.size;have k:=hd (j.below (Qe _) (fun _ h=>h.elim));clear b f j;go_wp2_with fail;apply F.o.mono;rintro e w2 ⟨rfl,v⟩;have G:=hd v;clear v;go_wp2;go_ret;rw[m.o];refine⟨DW ?_,k.o.trans (G.o.mono L)⟩;show _++(⟨[32,58,45,32].toArray⟩:ByteArray)++_++(⟨[46].toArray⟩:ByteArray)=_;rw[Az,Az,Az];simp
theorem Kp(w:World)(B x P:Nat)(v:Value)(cs:List CC)(xs:List (Lv))(u:Fm w B x P v cs xs)(hl:cs.length<=4000)(hn:∀c∈cs,c.body.length<=4000/\Hk c.head/\∀l∈c.body,Hk l)(T:(HR cs).length<=100000000):
  Calls prog 105 #[v] w fun e w'=>e= .returned (.string ⟨(HR cs).toArray⟩)/\Below w.hz w w':=by
 obtain⟨n,s⟩:=Ex (HR cs);rw[<-s]at T⊢;obtain⟨va,ao,rfl⟩:=Ac u.1;have O:=hd u;have J:=hd s;have N:=hd hn;clear u s hn;go_enter func105,an;go_wp2
 go_loopg [3,8] (cs.length+1) (fun gk Z i wr=>∃(k:Nat)(d:Lu),i=Vi k/\k<=cs.length/\cs.length-k<gk/\Z= .string ⟨d.toArray⟩/\d++HR (cs.drop k)=n/\Below w.hz w wr)
 case atStart=>exact⟨0,[],rfl,Qm _,Yo,rfl,by rw[J.o];rfl,Below.refl _ _⟩
 case round=>
  obtain⟨k,d,rfl,ai,ag,rfl,a,f⟩:=hrel;have Y:=f.size
  by_cases t:k<cs.length
  ·obtain⟨c,h⟩:∃c,cs[k]?=some c:=⟨_,Qb t⟩;have hd:cs.drop k=c::cs.drop (k+1):=by
    rw[QC t];rw[Qb t]at h;simp at h;rw[h]
   rw[hd,HR]at a;obtain⟨D,E⟩:=N.o c (Qh h);have b:=O.o.fresh (Ad.untouched f);obtain⟨aj,ab,ap,aa,y,q,r,S,F,_⟩:=b.2.2.2 k c h;obtain⟨ha,U,rfl⟩:=Ac q.1;obtain⟨Q,R,rfl⟩:=Ac r.1;obtain⟨G,H,rfl⟩:=Ac F;obtain⟨g,ac,ad,A,ae,C,af⟩:=An b.1 Yo;simp only[QH]at A;obtain⟨rfl,_,rfl⟩:=A;have m:=fun j V=>VO xs b.2.2.1 k _ y j V;have ak:wr.cell? ⟨g,k*3,none⟩=some (.slice ha c.head.length U):=Ag b.1 _ _ (by have:=m 0 Yo;rw[Nat.add_zero]at this;rw[this];rfl);have al:wr.cell? ⟨g,k*3+1,none⟩=some (.slice Q c.body.length R):=Ag b.1 _ _ (by rw[m 1 Yo];rfl);have am:wr.cell? ⟨g,k*3+2,none⟩=some (.slice G c.names.length H):=Ag b.1 _ _ (by rw[m 2 Yo];rfl);have ah:=Ab C;have X:=Ig a;simp only[Qg,Qf]at X;have I:=hd (fun o=>Ov (wr.alloc o) B x _ _ _ c aa ⟨G,c.names.length,H,rfl⟩ (q.fresh ((Ad.refl _ wr).alloc o)) (r.fresh ((Ad.refl _ wr).alloc o)) D E Yo);have L:Hd (d++(Hg c++[10])++HR (cs.drop (k+1))=n):=by show _=_;rw[<-a];simp
   have p:=hd f;clear a f hd h C b y q r S m D E F;go_wp2_with fail;apply(I.o _).mono;rintro e w1 ⟨rfl,z⟩;have M:=hd z;clear z;go_wp2
   go_roundg (cs.length-k)
   case measure=>omega
   case rel=>
    refine⟨k+1,d++(Hg c++[10]),Yg,Yo,Yo,?_,L.o,p.o.trans (((Below.refl _ wr).alloc Y _).trans (M.o.mono Yp))⟩;show Value.string (_++(_++(⟨[10].toArray⟩:ByteArray)))=_;rw[Az,Az]
  ·have W:k=cs.length:=Yo
   have K:Hd (d=n):=by
    show _=_;rw[W,List.drop_eq_nil_of_le (Qe _)]at a;simpa[HR]using a
   have p:=hd f;clear a f;go_wp2;go_ret;rw[<-K.o];exact⟨rfl,p.o⟩
def CM:Ly->Nat->Option Nat
 |[],k=>some k
 |s::r,k=>if s.name=[]then(if s.num<k then CM r k else if s.num=k then CM r (k+1)else none)else CM r k
theorem HQ(a b:Ly)(k:Nat):CM (a++b) k=(CM a k).bind (CM b):=by
 induction a generalizing k with
 |nil=>rfl
 |cons s a c=>
  simp only[Qy,CM];split
  ·split
   ·exact c k
   ·split
    ·exact c (k+1)
    ·rfl
  ·exact c k
theorem Ls{a b:Ly}{c:Nat}(h:CM (a++b) k=some c):∃j,CM a k=some j/\CM b j=some c:=by
 rw[HQ]at h
 cases ha:CM a k with
 |none=>rw[ha]at h;simp at h
 |some j=>rw[ha]at h;exact⟨j,rfl,h⟩
theorem Ds:∀(l:Ly)(k b:Nat),CM l k=some b->k<=b/\b<=k+l.length/\∀s∈l,s.name=[]->s.num<b:=by
 intro l
 induction l with
 |nil=>intro k b h;simp[CM]at h;subst h;simp
 |cons s l f=>
  intro k b h;simp only[CM]at h;split at h
  ·split at h
   ·rename_i e i;obtain⟨d,g,c⟩:=f _ _ h;refine⟨d,by simp;omega,?_⟩;intro x a hn;simp at a;rcases a with rfl|a
    ·omega
    ·exact c x a hn
   ·split at h
    ·rename_i e i j;obtain⟨d,g,c⟩:=f _ _ h;refine⟨Yo,by simp;omega,?_⟩;intro x a hn;simp at a;rcases a with rfl|a
     ·omega
     ·exact c x a hn
    ·simp at h
  ·rename_i e;obtain⟨d,g,c⟩:=f _ _ h;refine⟨d,by simp;omega,?_⟩;intro x a hn;simp at a;rcases a with rfl|a
   ·exact absurd hn e
   ·exact c x a hn
theorem Uc(n k:Nat)(h:n<k):(List.range k).idxOf n=n:=by
 have c:n∈List.range k:=by simpa using h
 have b:=List.idxOf_lt_length_of_mem c;have a:=List.getElem_idxOf b;rw[List.getElem_range]at a;exact a
theorem O2(f:Nat)(m:∀l,GL f l->∀k a,CM l k=some a->(AO f l (List.range k)).2.1=List.range a/\∀rest miss,A3 (l++rest) miss=(AO f l (List.range k)).1++((Bm miss).1++A3 rest (Bm miss).2)):
  ∀(ls:Ll),ls≠[]->(∀l∈ls,GL f l)->∀(k a:Nat)(b:UInt8),CM ls.flatten k=some a->(BH f b ls (List.range k)).2=List.range a/\
   ∀rest miss,b::A3 (ls.flatten++rest) (ls.length::miss)=(BH f b ls (List.range k)).1++(41::((Bm miss).1++A3 rest (Bm miss).2)):=by
 intro ls
 induction ls with
 |nil=>intro h;exact absurd rfl h
 |cons l ls r=>
  intro _ g k a b i;rw[Q4]at i;obtain⟨j,n,e⟩:=Ls i;obtain⟨w1,w2⟩:=m l (g l Ys) k j n
  cases ls with
  |nil=>
   simp only[List.flatten_nil,CM,Qo]at e;subst e;simp only[BH,w1,Q4,List.flatten_nil,Qs];refine⟨trivial,fun rest miss=> ?_⟩;rw[w2];simp[Bm]
  |cons c d=>
   obtain⟨s,t⟩:=r Ys (fun x q=>g x (by simp[q])) j a 44 e;have p:BH f b (l::c::d) (List.range k)=(b::((AO f l (List.range k)).1++(BH f 44 (c::d) (List.range j)).1),(BH f 44 (c::d) (List.range j)).2):=by
    rw[BH,w1]
   rw[p];refine⟨s,fun rest miss=> ?_⟩;rw[Q4,Qi,w2];have o:Bm ((l::c::d).length::miss)=([44],(c::d).length::miss):=by simp[Bm]
   rw[o];have:=t rest miss;simp only[Qy,Qz,Qi];rw[this]
theorem V6:∀(f:Nat)(l:Ly),GL f l->∀k b,CM l k=some b->(AO f l (List.range k)).2.1=List.range b/\∀rest miss,A3 (l++rest) miss=(AO f l (List.range k)).1++((Bm miss).1++A3 rest (Bm miss).2):=by
 intro f
 induction f with
 |zero=>intro l h;exact h.elim
 |succ f r=>
  intro l h k b a;rcases h with⟨n,rfl⟩|⟨nm,ls,c,rfl,i⟩
  ·simp only[CM,if_true]at a;split at a
   ·rename_i hn;simp at a;subst a;have g:Gj n (List.range k)=(CS n,List.range k):=by
     unfold Gj;rw[if_pos (by simpa using hn),Uc n k hn]
    simp[AO,g,A3,Hn]
   ·split at a
    ·rename_i m o;simp at a;subst a;have g:Gj n (List.range k)=(CS n,List.range (k+1)):=by
      unfold Gj;rw[if_neg (by simpa using m),List.range_succ,o];simp
     simp[AO,g,A3,Hn]
    ·simp at a
  ·have e:CM ls.flatten k=some b:=by simpa[CM,c]using a
   cases d:ls with
   |nil=>
    rw[d]at e;simp[CM]at e;subst e;simp[AO,A3,Hn,c]
   |cons u v=>
    rw[<-d];have j:ls≠[]:=by rw[d];simp
    have q:=GO f nm ls c i j (List.range k);obtain⟨s,t⟩:=O2 f r ls j i k b 40 e;rw[q];refine⟨s,fun rest miss=> ?_⟩;have p:0<ls.length:=by rw[d];simp
    have:=t rest miss;simp only[Qy,A3,p,if_true,Hn,c,if_false,Qi];rw[this];simp
theorem Kf(f:Nat):∀(ls:Ll),(∀l∈ls,GL f l)->∀(k a:Nat)(b:Lu),CM ls.flatten k=some a->E1 b ls=BU f b ls (List.range k):=by
 intro ls
 induction ls with
 |nil=>intro _ k a b _;rfl
 |cons l ls m=>
  intro d k a b e;rw[Q4]at e;obtain⟨j,g,h⟩:=Ls e;obtain⟨w1,w2⟩:=V6 f l (d l Ys) k j g;have c:=w2 [] [];simp only[Qs,Bm,A3,Qz]at c;rw[E1,BU,w1,c,m (fun x i=>d x (by simp[i])) j a _ h];simp
def Dc(ts:List BZ):Prop:=∀i t,ts[i]?=some t->i+1<ts.length->t.text≠[]
theorem Dc.drop{ts:List BZ}(h:Dc ts)(n:Nat):Dc (ts.drop n):=by
 intro i t hi hl;rw[List.getElem?_drop]at hi;rw[List.length_drop]at hl;exact h (n+i) t hi Yo
theorem Dc.tail{t:BZ}{ts:List BZ}(h:Dc (t::ts)):Dc ts:=by simpa using h.drop 1
theorem Py(names:At)(s:Lu)(r:Ly):CM (⟨[],(A8 names s).2,0⟩::r) names.length=CM r (A8 names s).1.length:=by
 unfold A8;split
 ·rename_i h;have:=List.idxOf_lt_length_of_mem h;simp[CM,this]
 ·simp[CM]
theorem TG(f:Nat)(i:∀ts names r,Dc ts->Bq f ts names=some r->GL f r.1/\CM r.1 names.length=some r.2.2.length)(e:Nat):
  ∀(g:Nat)(ts:List BZ)(names:At)(a:Ll) r,Dc ts->(∀l∈a,GL f l)->CM a.flatten e=some names.length->CE (Bq f) g ts names a=some r->(∀l∈r.1,GL f l)/\CM r.1.flatten e=some r.2.2.length:=by
 intro g
 induction g with
 |zero=>intro ts names a r _ _ _ h;simp[CE]at h
 |succ g m=>
  intro ts names a r d ha c h
  cases ts with
  |nil=>simp[CE]at h
  |cons t ts=>
   rw[CE]at h;split at h
   ·simp at h;subst h;exact⟨ha,c⟩
   ·cases b:Bq f ts names with
    |none=>rw[b]at h;simp at h
    |some q=>
     rw[b]at h;simp only at h;obtain⟨j,k⟩:=i ts names q d.tail b;obtain⟨n,_,_,hn,_⟩:=Dk f ts names q b;refine m q.2.1 q.2.2 (a++[q.1]) r (by rw[hn];exact d.tail.drop n) ?_ ?_ h
     ·intro l hl;simp at hl;rcases hl with hl|rfl
      ·exact ha l hl
      ·exact j
     ·simp only[List.flatten_append,Q4,List.flatten_nil,Qs];rw[HQ,c];exact k
theorem JH:∀(f:Nat)(ts:List BZ)(names:At) r,Dc ts->Bq f ts names=some r->GL f r.1/\CM r.1 names.length=some r.2.2.length:=by
 intro f
 induction f with
 |zero=>intro ts names r _ h;simp[Bq]at h
 |succ f g=>
  intro ts names r b h
  cases ts with
  |nil=>simp[Bq]at h
  |cons t ts=>
   rw[Bq]at h;split at h
   ·simp at h;subst h;exact⟨Or.inl ⟨_,rfl⟩,by rw[Py];rfl⟩
   ·cases ts with
    |nil=>simp[FN]at h
    |cons u i=>
     have a:t.text≠[]:=b 0 t rfl Ys;rw[FN]at h;split at h
     ·simp at h;subst h;exact⟨Or.inr ⟨t.text,[],a,rfl,Ys⟩,by simp[CM,a]⟩
     ·rw[Option.map_eq_some_iff]at h;obtain⟨q,e,rfl⟩:=h;obtain⟨c,d⟩:=TG f g names.length _ _ _ _ _ b.tail Ys rfl e;exact⟨Or.inr ⟨t.text,q.1,a,rfl,c⟩,by simpa[CM,a]using d⟩
theorem FO(f:Nat)(d:Nat):∀(g:Nat)(ts:List BZ)(names:At)(a:Ll) q,Dc ts->(∀l∈a,GL f l)->CM a.flatten d=some names.length->BI f g ts names a=some q->
  (∀l∈q.1,GL f l)/\CM q.1.flatten d=some q.2.2.length/\Dc q.2.1:=by
 intro g
 induction g with
 |zero=>intro ts names a q _ _ _ h;simp[BI]at h
 |succ g s=>
  intro ts names a q k ha m h;rw[BI]at h
  cases b:Bq f ts names with
  |none=>rw[b]at h;simp at h
  |some r=>
   rw[b]at h;simp only at h;obtain⟨o,p⟩:=JH f ts names r k b;obtain⟨n,_,_,hn,_⟩:=Dk f ts names r b;have c:Dc r.2.1:=by rw[hn];exact k.drop n
   have e:∀l∈a++[r.1],GL f l:=by
    intro l hl;simp at hl;rcases hl with hl|rfl
    ·exact ha l hl
    ·exact o
   have j:CM (a++[r.1]).flatten d=some r.2.2.length:=by
    simp only[List.flatten_append,Q4,List.flatten_nil,Qs];rw[HQ,m];exact p
   cases i:r.2.1 with
   |nil=>rw[i]at h;simp at h
   |cons x rest=>
    rw[i]at h c;simp only at h;split at h
    ·simp at h;subst h;exact⟨e,j,c.tail⟩
    ·exact s rest r.2.2 (a++[r.1]) q c.tail e j h
def Wq(c:Dt):Prop:=GL 1000 c.head/\(∀l∈c.body,GL 1000 l)/\∃k1 k2,CM c.head 0=some k1/\CM c.body.flatten k1=some k2
theorem JW(ts:List BZ)(c:Dt×List BZ)(e:Dc ts)(h:Dn ts=some c):Wq c.1/\Dc c.2:=by
 rw[Dn]at h
 cases a:Bq 1000 ts []with
 |none=>rw[a]at h;simp at h
 |some r=>
  rw[a]at h;simp only at h;obtain⟨f,g⟩:=JH 1000 ts [] r e a;obtain⟨n,_,_,hn,_⟩:=Dk 1000 ts [] r a;have b:Dc r.2.1:=by rw[hn];exact e.drop n
  cases d:r.2.1 with
  |nil=>rw[d]at h;simp at h
  |cons y m=>
   rw[d]at h b;simp only at h;split at h
   ·rw[Option.map_eq_some_iff]at h;obtain⟨q,l,rfl⟩:=h;obtain⟨i,j,k⟩:=FO 1000 r.2.2.length 1000 m r.2.2 [] q b.tail Ys rfl l;exact⟨⟨f,i,_,_,g,j⟩,k⟩
   ·simp at h;subst h;exact⟨⟨f,Ys,_,_,g,rfl⟩,b.tail⟩
theorem Nd:∀(g:Nat)(ts:List BZ)(a cs:Lc),Dc ts->(∀c∈a,Wq c)->C2 g ts a=some cs->∀c∈cs,Wq c:=by
 intro g
 induction g with
 |zero=>intro ts a cs _ _ h;simp[C2]at h
 |succ g j=>
  intro ts a cs i ha h
  cases ts with
  |nil=>simp[C2]at h
  |cons t ts=>
   rw[C2]at h;split at h
   ·simp at h;subst h;exact ha
   ·cases d:Dn (t::ts)with
    |none=>rw[d]at h;simp at h
    |some c=>
     rw[d]at h;simp only at h;obtain⟨e,f⟩:=JW _ c i d;refine j c.2 (a++[c.1]) cs f ?_ h;intro x b;simp at b;rcases b with b|rfl
     ·exact ha x b
     ·exact e
theorem O3(c:Dt)(h:Wq c):Hg c++[10]=BG c:=by
 obtain⟨b,d,a,g,e,f⟩:=h;obtain⟨w1,w2⟩:=V6 1000 c.head b 0 a e;have w3:=w2 [] [];simp only[Qs,Bm,A3,Qz,List.range_zero]at w1 w3;unfold Hg BG;split
 ·rw[w3];simp
 ·rw[w3,w1,Kf 1000 c.body d a g [] f];simp
theorem QS(cs:Lc)(h:∀c∈cs,Wq c):HR cs=cs.flatMap BG:=by
 induction cs with
 |nil=>rfl
 |cons c cs b=>
  rw[HR,List.flatMap_cons,<-O3 c (h c Ys),b (fun x a=>h x (by simp[a]))];simp
theorem NJ(ls:Ll)(l:Ly)(h:l∈ls):l.length<=ls.flatten.length:=by
 induction ls with
 |nil=>simp at h
 |cons x ls a=>
  simp only[Qp]at h;rw[Q4,Qg];rcases h with rfl|h
  ·omega
  ·have:=a h;omega
theorem UW:∀(f:Nat)(l:Ly),GL f l->∀s∈l,s.args<=l.length/\(s.name=[]\/s.num=0):=by
 intro f
 induction f with
 |zero=>intro l h;exact h.elim
 |succ f g=>
  intro l h s a;rcases h with⟨n,rfl⟩|⟨nm,ls,j,rfl,c⟩
  ·simp at a;subst a;simp
  ·have k:=GI f ls c;simp only[Qp]at a;rcases a with rfl|a
   ·exact⟨by simp only[Qf];omega,Or.inr rfl⟩
   ·rw[List.mem_flatten]at a;obtain⟨b,d,a⟩:=a;obtain⟨i,e⟩:=g b (c b d) s a;have:=NJ ls b d;exact⟨by simp only[Qf];omega,e⟩
theorem Vo(f:Nat)(l:Ly)(k b:Nat)(h:GL f l)(e:CM l k=some b)(hl:l.length<=1000)(i:b<=2600):Hk l:=by
 refine⟨Yo,fun s c=> ?_⟩;obtain⟨g,a⟩:=UW f l h s c;obtain⟨_,_,d⟩:=Ds l k b e;refine⟨?_,Yo⟩;rcases a with a|a
 ·have:=d s c a;omega
 ·omega
theorem Tj(f:Nat):∀(ls:Ll)(k a:Nat),(∀l∈ls,GL f l)->CM ls.flatten k=some a->ls.flatten.length<=1000->a<=2600->∀l∈ls,Hk l:=by
 intro ls
 induction ls with
 |nil=>intro k a _ _ _ _ l hl;simp at hl
 |cons l ls m=>
  intro k a d e hl h x b;rw[Q4]at e hl;rw[Qg]at hl;obtain⟨j,g,c⟩:=Ls e;obtain⟨b1,_,_⟩:=Ds _ _ _ c;simp only[Qp]at b;rcases b with rfl|b
  ·exact Vo f x k j (d x Ys) g Yo Yo
  ·exact m j a (fun y i=>d y (by simp[i])) c Yo h x b
theorem Da(s:ByteArray):Dc (Ap s):=G9 s
theorem BV(s:ByteArray)(q:Bool):(Ct s q).1=(Bb (Ap s) (AD q)).1/\((Ct s q).1≠0->(Ct s q).2.1=(Bb (Ap s) (AD q)).2)/\((Ct s q).1=0->(Ct s q).2.2=takes (C4 s.data.toList 0) (H6 q)):=
 T8 s.size _ _ _ (XY q) (G8 _ _)
theorem UV{ts:List BZ}(d:Jo ts L)(b:fin ts)(e:L.want=5):∃t r,ts=t::r/\t.kind=4:=by
 cases ts with
 |nil=>exact b.elim
 |cons t r=>
  refine⟨t,r,rfl,?_⟩;apply Classical.byContradiction;intro c;have h:=(D7 d (fun a=>c a.1)).1;unfold Bk at h;rw[if_neg Yo,if_pos e]at h;simp at h
theorem Ek(s:ByteArray)(w:s.size<=120)(h0:(Ct s true).1=0):
  ∃q,BI 1000 1000 (Ap s) [] []=some q/\(Ct s true).2.2.clauses=[⟨[],q.1,q.2.2⟩]/\E1 [] q.1=BU 1000 [] q.1 []/\q.1.length<=4000/\(∀l∈q.1,Hk l)/\(E1 [] q.1).length<=100000000:=by
 obtain⟨A,_,B⟩:=BV s true;have hl:=BP s;have v:Jo (Ap s) (AD true):=A.symm.trans h0;obtain⟨q,C,i,ex,j,m,n,o,_,_,_,_,p,k,e⟩:=M8 1000 (Ap s) (AD true) [] (H6 true) Yo Yo v (Jc _ _) rfl rfl rfl rfl rfl rfl rfl;have u:(Ap s).take i=C4 s.data.toList 0:=Sd (G8 _ _) (by
  obtain⟨t,r,g,h⟩:=UV m n (by rw[o];rfl);exact⟨t,r,by rw[<-g,p];rfl,h⟩)
 rw[u]at e;have c:BI 1000 1000 (Ap s) [] []=some q:=j;have f:=FZ (M:=120) 1000 (Ap s) [] [] q (fun t y=>Qq (Cz s t y) w) Ys c;obtain⟨a,b,_⟩:=FO 1000 0 1000 (Ap s) [] [] q (Da s) Ys rfl c;have D:=GI 1000 q.1 a;have E:q.1.flatten.length<=121:=by have:=f.1;simp only[List.flatten_nil,Qt]at this;omega
 obtain⟨_,b2,_⟩:=Ds _ _ _ b;have d:=Kf 1000 q.1 a 0 _ [] b;simp only[List.range_zero]at d;have F:=FT 1000 q.1 a (fun x z=>Qq (f.2.1 x z) Yo) [] [] Ys (by simp only[Qt];omega);refine⟨q,c,?_,d,Yo,Tj 1000 q.1 0 _ a b Yo Yo,?_⟩
 ·rw[B h0,e,k];rfl
 ·rw[d];omega
theorem Vz(cs:Lc)(h:∀c∈cs,(BG c).length<=4110*Dh c):(cs.flatMap BG).length<=4110*(cs.map Dh).sum:=by
 induction cs with
 |nil=>simp
 |cons c cs b=>
  have d:=b (fun x a=>h x (by simp[a]));have e:=h c Ys;simp only[List.flatMap_cons,Qg,Qx,List.sum_cons];omega
theorem Pv(cs:Lc)(c:Dt)(h:c∈cs):Dh c<=(cs.map Dh).sum:=by
 induction cs with
 |nil=>simp at h
 |cons x cs a=>
  simp only[Qp]at h;simp only[Qx,List.sum_cons];rcases h with rfl|h
  ·omega
  ·have:=a h;omega
theorem Oh(s:ByteArray)(w:s.size<=800)(h0:(Ct s false).1=0):
  ∃cs,C2 1000 (Ap s) []=some cs/\(HR (Ct s false).2.2.clauses)=cs.flatMap BG/\(Ct s false).2.2.clauses.length<=4000/\(∀c∈(Ct s false).2.2.clauses,c.body.length<=4000/\Hk c.head/\∀l∈c.body,Hk l)/\(cs.flatMap BG).length<=100000000:=by
 obtain⟨B,_,C⟩:=BV s false;have hl:=BP s;have v:Jo (Ap s) (AD false):=B.symm.trans h0;obtain⟨cs,i,ex,e,r,k,m⟩:=O7 1000 (Ap s) (AD false) [] (H6 false) Yo Yo v (Jc _ _) rfl rfl rfl rfl ⟨rfl,rfl,rfl,rfl,rfl,rfl,rfl,rfl⟩;rw[show(Ap s).take i=C4 s.data.toList 0 from Sd (G8 _ _) r]at m;rw[Qz]at k;subst k;have u:(Ct s false).2.2.clauses=cs:=by
  rw[C h0,m];rfl
 have f:=Nd 1000 (Ap s) [] cs (Da s) Ys e;obtain⟨p,A,q⟩:=L1 (M:=800) 1000 (Ap s) [] cs (fun t y=>Qq (Cz s t y) w) Ys e;simp only[List.map_nil,List.sum_nil,Qt]at p A;rw[u];refine⟨cs,e,QS cs f,Yo,?_,?_⟩
 ·intro c a;obtain⟨d,b,o,z,h,j⟩:=f c a;have n:=Qq (Pv cs c a) p;unfold Dh at n;have D:=GI 1000 c.body b;obtain⟨_,b1,_⟩:=Ds _ _ _ h;obtain⟨_,b2,_⟩:=Ds _ _ _ j;exact⟨Yo,Vo 1000 c.head 0 o d h Yo Yo,Tj 1000 c.body o z b j Yo Yo⟩
 ·have:=Vz cs (fun c a=>by
   obtain⟨d,b,_⟩:=f c a;have n:=Pv cs c a;exact J3 c d b (fun x g=>Qq ((q c a).1 x g) Yo) (fun x g=>Qq ((q c a).2 x g) Yo) Yo)
  omega
def AN(q:Ll×At):ND:=⟨q.1.map (fun t=>(t,0)),(List.range q.2.length).map vr,[],[],q.2.length⟩
def Ev(n:Nat)(met:List Nat):List Nat:=if met.idxOf n=met.length then met++[n]else met
def AC:Ly->List Nat->Ly×List Nat
 |[],met=>([],met)
 |s::r,met=>if s.name=[]then(⟨[],met.idxOf s.num,s.args⟩::(AC r (Ev s.num met)).1,(AC r (Ev s.num met)).2)else(s::(AC r met).1,(AC r met).2)
def Aw:Ll->List Nat->Ll×List Nat
 |[],met=>([],met)
 |t::ts,met=>((AC t met).1::(Aw ts (AC t met).2).1,(Aw ts (AC t met).2).2)
theorem It(a b:Ly)(met:List Nat):AC (a++b) met=((AC a met).1++(AC b (AC a met).2).1,(AC b (AC a met).2).2):=by
 induction a generalizing met with
 |nil=>rfl
 |cons s a c=>simp only[Qy,AC,c];split<;>rfl
theorem Mv(a b:Ll)(met:List Nat):Aw (a++b) met=((Aw a met).1++(Aw b (Aw a met).2).1,(Aw b (Aw a met).2).2):=by
 induction a generalizing met with
 |nil=>rfl
 |cons s a c=>simp only[Qy,Aw,c]
theorem EX(ts:Ll)(met:List Nat):(Aw ts met).1.length=ts.length:=by
 induction ts generalizing met with
 |nil=>rfl
 |cons t ts a=>simp[Aw,a]
theorem Iw(l:Ly)(met:List Nat):(AC l met).1.length=l.length:=by
 induction l generalizing met with
 |nil=>rfl
 |cons s l a=>simp only[AC];split<;>simp[a]
theorem Mz{f:Nat->Nat}{met:List Nat}{n:Nat}(h:∀m∈met,f m=f n->m=n):(met.map f).idxOf (f n)=met.idxOf n:=by
 induction met with
 |nil=>rfl
 |cons m met c=>
  simp only[Qx,List.idxOf_cons]
  by_cases e:m=n
  ·subst e;simp
  ·have e':¬f m=f n:=fun a=>e (h m Ys a);have b1:(f m==f n)=false:=by rw[Qu];exact e'
   have b2:(m==n)=false:=by rw[Qu];exact e
   rw[b1,b2];simp only[cond_false];rw[c (fun x b=>h x (by simp[b]))]
theorem V3{f:Nat->Nat}{met:List Nat}{n:Nat}(h:∀m∈met,f m=f n->m=n):Ev (f n) (met.map f)=(Ev n met).map f:=by
 unfold Ev;rw[Mz h];simp only[Ql];split<;>simp
theorem P2{n m:Nat}{met:List Nat}(h:m∈Ev n met):m∈met\/m=n:=by
 unfold Ev at h;split at h
 ·simpa using h
 ·exact Or.inl h
theorem RB{l:Ly}{met:List Nat}{m:Nat}(h:m∈(AC l met).2):m∈met\/Cj m l:=by
 induction l generalizing met with
 |nil=>exact Or.inl h
 |cons s l d=>
  simp only[AC]at h;split at h
  ·rename_i e;rcases d h with h|h
   ·rcases P2 h with h|rfl
    ·exact Or.inl h
    ·exact Or.inr ⟨s,Ys,e,rfl⟩
   ·obtain⟨t,c,a,b⟩:=h;exact Or.inr ⟨t,by simp[c],a,b⟩
  ·rcases d h with h|h
   ·exact Or.inl h
   ·obtain⟨t,c,a,b⟩:=h;exact Or.inr ⟨t,by simp[c],a,b⟩
theorem Rb{f:Nat->Nat}{V:Nat->Prop}(r:∀a b,V a->V b->f a=f b->a=b):∀{l:Ly}{met:List Nat},(∀s∈l,s.name=[]->s.args=0)->(∀m∈met,V m)->(∀v,Cj v l->V v)->
  AC (l.map (ren f)) (met.map f)=((AC l met).1,(AC l met).2.map f):=by
 intro l
 induction l with
 |nil=>intro met _ _ _;rfl
 |cons s l o=>
  intro met ha d k;have n:∀v,Cj v l->V v:=fun v ⟨t,g,p,q⟩=>k v ⟨t,by simp[g],p,q⟩;have j:∀s∈l,s.name=[]->s.args=0:=fun t g=>ha t (by simp[g])
  by_cases c:s.name=[]
  ·have i:V s.num:=k s.num ⟨s,Ys,c,rfl⟩;have e:ren f s=⟨[],f s.num,0⟩:=by simp[ren,c]
   have hi:∀m∈met,f m=f s.num->m=s.num:=fun m u h=>r m s.num (d m u) i h;simp only[Qx,AC,e,c,if_true];rw[Mz hi,V3 hi,o j (fun m h=>by
    rcases P2 h with h|rfl
    ·exact d m h
    ·exact i) n,ha s Ys c]
  ·have e:ren f s=s:=by simp[ren,c]
   simp only[Qx,AC,e,c,if_false];rw[o j d n]
theorem SV{f:Nat->Nat}{V:Nat->Prop}(e:∀a b,V a->V b->f a=f b->a=b):∀{ts:Ll}{met:List Nat},(∀t∈ts,∀s∈t,s.name=[]->s.args=0)->(∀m∈met,V m)->(∀t∈ts,∀v,Cj v t->V v)->
  Aw (ts.map (List.map (ren f))) (met.map f)=((Aw ts met).1,(Aw ts met).2.map f):=by
 intro ts
 induction ts with
 |nil=>intro met _ _ _;rfl
 |cons t ts g=>
  intro met ha d c;simp only[Qx,Aw];rw[Rb e (ha t Ys) d (c t Ys)];simp only;rw[g (fun t h=>ha t (by simp[h])) (fun m h=>by
   rcases RB h with h|h
   ·exact d m h
   ·exact c t Ys m h) (fun t h=>c t (by simp[h]))]
theorem Nv:∀{l:Ly}{k:Nat},Wf k l->∀s∈l,s.name=[]->s.args=0:=by
 intro l
 induction l with
 |nil=>intro k _ s a;simp at a
 |cons t l d=>
  intro k h s a;obtain⟨_,b,_,c⟩:=h;rcases Qp.1 a with rfl|a
  ·exact b
  ·exact d c s a
theorem IV{xs i:Ll}(h:DQ xs i)(k:∀x∈xs,Wf 1 x):(Aw i []).1=(Aw xs []).1:=by
 obtain⟨f,g,e,d⟩:=h.ren;have:=SV (f:=f) (V:=fun v=>∃x∈xs,Cj v x) (fun a b ⟨x,l,ha⟩ ⟨y,m,hb⟩ e=>by rw[<-d x l a ha,<-d y m b hb,e]) (ts:=xs) (met:=[]) (fun t c=>Nv (k t c)) Ys (fun t c v j=>⟨t,c,j⟩);simp only[List.map_nil]at this;rw[<-e]at this;rw[this]
theorem HL.part{a b c d:Ll}(h:HL (a++b) (c++d))(hl:a.length=c.length):HL a c/\HL b d:=by
 obtain⟨g,f,e⟩:=h;obtain⟨i,j⟩:=MB e hl.symm;exact⟨⟨g,f,i⟩,g,f,j⟩
theorem DQ.part{a b c d:Ll}(h:DQ (a++b) (c++d))(hl:a.length=c.length):DQ a c/\DQ b d:=
 ⟨⟨(h.1.part hl).1,(h.2.part hl.symm).1⟩,(h.1.part hl).2,(h.2.part hl.symm).2⟩
theorem Co.vals{n m:ND}(h:Co n m):DQ n.vals m.vals:=by
 have:=(h.al.part (by simp[h.gl])).2;exact(this.part h.vl).1
theorem Co.done{n m:ND}(h:Co n m):DQ (n.done.map (·.1)) (m.done.map (·.1)):=by
 have:=(h.al.part (by simp[h.gl])).2;exact(this.part h.vl).2
theorem Co.valsC{n m:ND}(h:Co n m)(hn:FU n):(Aw n.vals []).1=(Aw m.vals []).1:=
 (IV h.vals (fun x a=>hn.wf x (by simp[ND.terms,a]))).symm
theorem Co.doneC{n m:ND}(h:Co n m)(hn:FU n):(Aw (n.done.map (·.1)) []).1=(Aw (m.done.map (·.1)) []).1:=
 (IV h.done (fun x a=>hn.wf x (by simp only[ND.terms,Qk];exact Or.inr (Or.inr a)))).symm
theorem Sw(n:Nat)(seen:List Nat):Gj n seen=(CS (seen.idxOf n),Ev n seen):=by
 unfold Gj Ev
 by_cases h:n∈seen
 ·have:=List.idxOf_lt_length_of_mem h;rw[if_pos h,if_neg Yo]
 ·have e:seen.idxOf n=seen.length:=List.idxOf_eq_length h;rw[if_neg h,if_pos e,e]
theorem Rj(f:Nat)(e:∀l,GL f l->∀seen,(AO f l seen).2.1=(AC l seen).2/\∀rest miss,A3 ((AC l seen).1++rest) miss=(AO f l seen).1++((Bm miss).1++A3 rest (Bm miss).2)):
  ∀(ls:Ll),ls≠[]->(∀l∈ls,GL f l)->∀(seen:List Nat)(a:UInt8),(BH f a ls seen).2=(AC ls.flatten seen).2/\
   ∀rest miss,a::A3 ((AC ls.flatten seen).1++rest) (ls.length::miss)=(BH f a ls seen).1++(41::((Bm miss).1++A3 rest (Bm miss).2)):=by
 intro ls
 induction ls with
 |nil=>intro h;exact absurd rfl h
 |cons l ls k=>
  intro _ d seen a;rw[Q4,It];obtain⟨w1,w2⟩:=e l (d l Ys) seen
  cases ls with
  |nil=>
   simp only[List.flatten_nil,AC,BH,w1,Qs];refine⟨trivial,fun rest miss=> ?_⟩;rw[w2];simp[Bm]
  |cons b c=>
   obtain⟨m,n⟩:=k Ys (fun x j=>d x (by simp[j])) (AC l seen).2 44;have i:BH f a (l::b::c) seen=(a::((AO f l seen).1++(BH f 44 (b::c) (AC l seen).2).1),(BH f 44 (b::c) (AC l seen).2).2):=by
    rw[BH,w1]
   rw[i];refine⟨m,fun rest miss=> ?_⟩;simp only[Qi];rw[w2];have g:Bm ((l::b::c).length::miss)=([44],(b::c).length::miss):=by simp[Bm]
   rw[g];have:=n rest miss;simp only[Qy,Qz,Qi];rw[this]
theorem Oe:∀(f:Nat)(l:Ly),GL f l->∀seen,(AO f l seen).2.1=(AC l seen).2/\∀rest miss,A3 ((AC l seen).1++rest) miss=(AO f l seen).1++((Bm miss).1++A3 rest (Bm miss).2):=by
 intro f
 induction f with
 |zero=>intro l h;exact h.elim
 |succ f j=>
  intro l h seen;rcases h with⟨n,rfl⟩|⟨nm,ls,a,rfl,c⟩
  ·simp[AO,Sw,AC,A3,Hn]
  ·have e:AC (⟨nm,0,ls.length⟩::ls.flatten) seen=(⟨nm,0,ls.length⟩::(AC ls.flatten seen).1,(AC ls.flatten seen).2):=by
    simp[AC,a]
   rw[e]
   cases b:ls with
   |nil=>simp[AO,A3,Hn,a,AC]
   |cons o p=>
    rw[<-b];have d:ls≠[]:=by rw[b];simp
    have i:=GO f nm ls a c d seen;obtain⟨k,m⟩:=Rj f j ls d c seen 40;rw[i];refine⟨k,fun rest miss=> ?_⟩;have g:0<ls.length:=by rw[b];simp
    have:=m rest miss;simp only[Qy,A3,g,if_true,Hn,a,if_false,Qi];rw[this];simp
theorem HW{f:Nat}(h:GL f l)(seen:List Nat):(AO f l seen).1=A3 (AC l seen).1 []/\(AO f l seen).2.1=(AC l seen).2:=by
 obtain⟨a,b⟩:=Oe f l h seen;have:=b [] [];simp only[Qs,Bm,A3]at this;exact⟨this.symm,a⟩
theorem Sg:∀(n:Nat){l:Ly},l.length<=n->Wf 1 l->GL n l:=by
 intro n
 induction n with
 |zero=>intro l hl h;have:=BN h;omega
 |succ n i=>
  intro l hl h;obtain⟨s,r,rfl,f,g⟩:=KN h
  by_cases a:s.name=[]
  ·exact Or.inl ⟨s.num,g a⟩
  ·obtain⟨_,_,d,_⟩:=h;obtain⟨ls,c,rfl,e⟩:=N9 _ f;refine Or.inr ⟨s.name,ls,a,?_,fun j b=> ?_⟩
   ·rw[c,<-d a]
   ·have:=Bf b;simp only[Qf]at hl;exact i Yo (e j b)
def BD(s:ByteArray):Option (Lc):=
 if 800<s.size then none else if(Bb (Ap s) (AD false)).1≠0 then none else C2 1000 (Ap s) []
def Cr(s:ByteArray):Option (Ll×At):=
 if 120<s.size then none else if(Bb (Ap s) (AD true)).1≠0 then none else(BI 1000 1000 (Ap s) [] []).map (fun q=>(q.1,q.2.2))
def DK:Lu->At->Ll->Lu
 |sep,x::xs,t::ts=>sep++(x++(61::(A3 t []++DK [44] xs ts)))
 |_,_,_=>[]
def AU(names:At)(n:ND):Lu:=if names=[]then[121,101,115]else DK [] names (Aw n.vals []).1
def CW:Lu->List Nat->Lu
 |_,[]=>[]
 |sep,k::ks=>sep++(Lib.decDigits k++CW [46] ks)
def FQ(n:ND):Lu:=CW [] n.used
def CL:Ll->List Nat->List Nat->Lu
 |t::ts,d::ds,k::ks=>List.replicate (2*d) 32++(A3 t []++([32,98,121,32]++(Lib.decDigits k++(10::CL ts ds ks))))
 |_,_,_=>[]
def HH(n:ND):Lu:=CL (Aw (n.done.map (·.1)) []).1 (n.done.map (·.2)) n.used
def Fh(c:UInt8):Bool:=decide (48<=c.toNat/\c.toNat<=57)
def As:Lu->Nat×Nat
 |[]=>(0,0)
 |a::r=>if Fh a then(if a.toNat=48 then(0,1)else match r with
   |[]=>(a.toNat-48,1)
   |b::_=>if Fh b then(10*(a.toNat-48)+(b.toNat-48),2)else(a.toNat-48,1))else(0,0)
theorem Ci(l:Lu):(As l).2<=l.length/\(As l).2<=2/\(As l).1<=99:=by
 cases l with
 |nil=>simp[As]
 |cons a r=>
  simp only[As]
  by_cases c:Fh a
  ·rw[if_pos c];have ha:a.toNat<=57:=by simp[Fh]at c;exact c.2
   by_cases e:a.toNat=48
   ·rw[if_pos e];simp
   ·rw[if_neg e]
    cases r with
    |nil=>simp;omega
    |cons b r=>
     simp only
     by_cases d:Fh b
     ·have hb:b.toNat<=57:=by simp[Fh]at d;exact d.2
      rw[if_pos d];simp;omega
     ·rw[if_neg d];simp;omega
  ·rw[if_neg c];simp
def D9:Nat->Lu->Nat->List Nat->Option (List Nat)×Nat
 |0,_,_,_=>(none,0)
 |f+1,l,p,acc=>
  if(As l).2=0 then(none,p)
  else match l.drop (As l).2 with
   |[]=>(some (acc++[(As l).1]),0)
   |c::r=>if c=46 then D9 f r (p+(As l).2+1) (acc++[(As l).1])else(none,p+(As l).2)
def Bn(s:ByteArray):Option (List Nat)×Nat:=D9 (s.size+1) s.data.toList 0 []
noncomputable def AA(cs:Lc):ND->List Nat->Nat->ND×Nat×Nat
 |n,[],i=>if n.goals=[]then(n,0,0)else(n,7,i)
 |n,k::ks,i=>match cs[k]? with
  |none=>(n,7,i)
  |some c=>if n.goals=[]then(n,7,i)else if(Ax n c k).2=1\/(Ax n c k).2=2 then AA cs (Ax n c k).1 ks (i+1)else(n,7,i)
noncomputable def Bo(p q x:ByteArray):At×ND×Nat×Nat:=
 match BD p with
 |none=>([],⟨[],[],[],[],0⟩,4,0)
 |some cs=>match Cr q with
  |none=>([],⟨[],[],[],[],0⟩,5,0)
  |some a=>if 400<x.size then([],⟨[],[],[],[],0⟩,1,0)else match Bn x with
   | (none,at')=>([],⟨[],[],[],[],0⟩,6,at')
   | (some ks,_)=>(a.2,AA cs (AN a) ks 0)
noncomputable def JK(p q x:ByteArray):Lu×Nat×Nat:=if(Bo p q x).2.2.1=0 then(AU (Bo p q x).1 (Bo p q x).2.1,0,0)else([],(Bo p q x).2.2.1,(Bo p q x).2.2.2)
noncomputable def GH(p q x:ByteArray):Lu×Nat×Nat:=if(Bo p q x).2.2.1=0 then(HH (Bo p q x).2.1,0,0)else([],(Bo p q x).2.2.1,(Bo p q x).2.2.2)
theorem KQ{b:Nat->Ly}(f:Ts b){c:BL->BL}:∀{l:Ly},ap b l=l.map c->∀s∈l,s.name≠[]->c s=s:=by
 intro l
 induction l with
 |nil=>intro _ s a;simp at a
 |cons t l g=>
  intro e s a hn;rw[Bw,Qx]at e;have i:1<=(EG b t).length:=by
   unfold EG;split
   ·exact BN (f _)
   ·simp
  have j:=Fe f l;have h:=congrArg List.length e;simp only[Qg,Qf,Ql]at h;have d:=List.append_inj (s₁:=EG b t) (s₂:=[c t]) (t₁:=ap b l) (t₂:=l.map c) (by simpa using e) Yp;rcases Qp.1 a with rfl|a
  ·have:=d.1;unfold EG at this;rw[if_neg hn]at this;simpa using this.symm
  ·exact g d.2 s a hn
def Jq(N:List (Lu))(s:BL):BL:=if s.name=[]\/s.name∈N then s else⟨s.name++[0],s.num,s.args⟩
theorem Xr{N:List (Lu)}:∀{l:Ly}{k:Nat},Wf k l->Wf k (l.map (Jq N)):=by
 intro l
 induction l with
 |nil=>intro k h;exact h
 |cons s l j=>
  intro k h;obtain⟨e,f,g,i⟩:=h;have a:(Jq N s).args=s.args:=by unfold Jq;split<;>rfl
  have b:(Jq N s).name=[]↔s.name=[]:=by
   unfold Jq;split
   ·exact Iff.rfl
   ·rename_i h;simp at h⊢;exact h.1
  have c:(Jq N s).num=s.num:=by unfold Jq;split<;>rfl
  refine⟨e,fun h=>by rw[a];exact f (b.1 h),fun h=>by rw[c];exact g (fun d=>h (b.2 d)),?_⟩;rw[a];exact j i
theorem I5.nm{σ:Nat->Ly}{a b:Ly}(h:I5 σ a b)(n:Nat):∀s∈σ n,s.name≠[]->∃t∈a++b,t.name=s.name:=by
 intro s m hn;refine Classical.byContradiction (fun g=> ?_);have g:∀t∈a++b,t.name≠s.name:=fun t c e=>g ⟨t,c,e⟩;obtain⟨N,d⟩:∃N,N=(a++b).map (·.name):=⟨_,rfl⟩;have i:Ts (fun n=>(σ n).map (Jq N)):=fun n=>Xr (h.ts n);have j:∀l:Ly,(∀t∈l,t.name∈N)->ap (fun n=>(σ n).map (Jq N)) l=(ap σ l).map (Jq N):=by
  intro l
  induction l with
  |nil=>intro _;rfl
  |cons t l q=>
   intro c;rw[Bw,Bw,Qr,q (fun u o=>c u (by simp[o]))]
   congr 1
   unfold EG;split
   ·rfl
   ·have:Jq N t=t:=by unfold Jq;rw[if_pos (Or.inr (c t Ys))]
    simp[this]
 have ha:=j a (fun t c=>by rw[d];exact Q0.2 ⟨t,by simp[c],rfl⟩);have hb:=j b (fun t c=>by rw[d];exact Q0.2 ⟨t,by simp[c],rfl⟩);have p:=h.wide _ i (by rw[ha,hb,h.unif]) n;have f:=KQ i p s m hn;have k:¬(s.name=[]\/s.name∈N):=by
  rintro(h|h)
  ·exact hn h
  ·rw[d]at h;obtain⟨t,c,e⟩:=Q0.1 h;exact g t c e
 unfold Jq at f;rw[if_neg k]at f;have:=congrArg (fun s=>s.name.length) f;simp at this
def EC(l:Ly):Prop:=∀s∈l,s.name.length<=800
def NK(n:ND):Prop:=∀t∈n.terms,EC t
def QU(c:Dt):Prop:=EC c.head/\∀t∈c.body,EC t
theorem MR(n:Nat):EC (vr n):=fun s a=>by simp[vr]at a;subst a;simp
theorem EC.ap{σ:Nat->Ly}{l:Ly}(h:EC l)(c:∀n,EC (σ n)):EC (ap σ l):=by
 intro s a;simp only[YtlmjilpjmgjjcaaGreatDoor.ap,List.mem_flatMap]at a;obtain⟨t,b,a⟩:=a;unfold EG at a;split at a
 ·exact c _ s a
 ·simp at a;subst a;exact h s b
theorem IS(v n:Nat):EC (AX v n):=MR _
theorem I5.shorts{σ:Nat->Ly}{a b:Ly}(h:I5 σ a b)(ha:EC a)(hb:EC b)(n:Nat):EC (σ n):=by
 intro s d
 by_cases hn:s.name=[]
 ·rw[hn];simp
 ·obtain⟨t,c,e⟩:=h.nm n s d hn;rw[<-e];rcases Qk.1 c with c|c
  ·exact ha t c
  ·exact hb t c
theorem Ol{n:ND}{c:Dt}{k q:Nat}{i:ND}(h:Kb n c k q i)(r:q=1\/q=2)(hn:NK n)(j:QU c):NK i:=by
 obtain⟨g,gs,l,h⟩:=h;rcases h with⟨rfl,_⟩|⟨rfl,_⟩|⟨σ,o,_,_,rfl⟩
 ·omega
 ·omega
 ·have m:EC g.1:=hn g.1 (by simp[ND.terms,l]);have p:EC (ap (AX n.vars) c.head):=j.1.ap (IS _);have d:=o.shorts m p;intro t e;rw[E5]at e;simp only[Qk,Q0]at e;rcases e with⟨u,a,rfl⟩|⟨u,a,rfl⟩|⟨u,a,rfl⟩
  ·rcases a with⟨b,hb,rfl⟩|⟨x,f,rfl⟩
   ·exact((j.2 b hb).ap (IS _)).ap d
   ·exact(hn x.1 (by simp only[ND.terms,l,Qx,Qy,Qp,Qk,Q0];exact Or.inr (Or.inl ⟨x,f,rfl⟩))).ap d
  ·exact(hn u (by simp[ND.terms,a])).ap d
  ·rcases a with⟨x,f,rfl⟩|a
   ·exact(hn x.1 (by simp only[ND.terms,Qk,Q0];exact Or.inr (Or.inr ⟨x,f,rfl⟩))).ap d
   ·simp at a;subst a;exact m.ap d
theorem RO:∀(f:Nat){l:Ly},GL f l->Wf 1 l:=by
 intro f
 induction f with
 |zero=>intro l h;exact h.elim
 |succ f c=>
  intro l h;rcases h with⟨n,rfl⟩|⟨nm,ls,a,rfl,b⟩
  ·exact KJ n
  ·refine⟨Yo,fun e=>absurd e a,fun _=>rfl,?_⟩;have:=CF (fun l hl=>c (b l hl));simpa using this
theorem U4:∀(l:Ly)(k b:Nat),CM l k=some b->∀i,k<=i->i<b->Cj i l:=by
 intro l
 induction l with
 |nil=>intro k b h i c a;simp[CM]at h;omega
 |cons s l d=>
  intro k b h i c a;simp only[CM]at h;have up:Cj i l->Cj i (s::l):=fun⟨t,j,f,g⟩=>⟨t,by simp[j],f,g⟩;split at h
  ·rename_i hn;split at h
   ·exact up (d _ _ h i c a)
   ·split at h
    ·rename_i m;rcases QB k i with e|e
     ·exact up (d _ _ h i e a)
     ·exact⟨s,Ys,hn,Yo⟩
    ·simp at h
  ·exact up (d _ _ h i c a)
theorem O8{f:Nat}:∀{g:Nat}{ts:List BZ}{names:At}{a:Ll} {q},BI f g ts names a=some q->a.length<q.1.length:=by
 intro g
 induction g with
 |zero=>intro ts names a q h;simp[BI]at h
 |succ g d=>
  intro ts names a q h;rw[BI]at h
  cases b:Bq f ts names with
  |none=>rw[b]at h;simp at h
  |some r=>
   rw[b]at h;simp only at h
   cases c:r.2.1 with
   |nil=>rw[c]at h;simp at h
   |cons x rest=>
    rw[c]at h;simp only at h;split at h
    ·simp at h;subst h;simp
    ·have:=d h;simp at this;omega
def VI(c:Dt):Prop:=∃k1,CM c.head 0=some k1/\CM c.body.flatten k1=some c.n
theorem OD(ts:List BZ)(c:Dt×List BZ)(d:Dc ts)(h:Dn ts=some c):VI c.1:=by
 rw[Dn]at h
 cases a:Bq 1000 ts []with
 |none=>rw[a]at h;simp at h
 |some r=>
  rw[a]at h;simp only at h;obtain⟨m,f⟩:=JH 1000 ts [] r d a;obtain⟨n,_,_,hn,_⟩:=Dk 1000 ts [] r a;have e:Dc r.2.1:=by rw[hn];exact d.drop n
  cases b:r.2.1 with
  |nil=>rw[b]at h;simp at h
  |cons y j=>
   rw[b]at h e;simp only at h;split at h
   ·rw[Option.map_eq_some_iff]at h;obtain⟨q,i,rfl⟩:=h;obtain⟨k,g,l⟩:=FO 1000 r.2.2.length 1000 j r.2.2 [] q e.tail Ys rfl i;exact⟨_,f,g⟩
   ·simp at h;subst h;exact⟨_,f,rfl⟩
theorem Sm:∀(g:Nat)(ts:List BZ)(a cs:Lc),Dc ts->(∀c∈a,VI c)->C2 g ts a=some cs->∀c∈cs,VI c:=by
 intro g
 induction g with
 |zero=>intro ts a cs _ _ h;simp[C2]at h
 |succ g j=>
  intro ts a cs e ha h
  cases ts with
  |nil=>simp[C2]at h
  |cons t ts=>
   rw[C2]at h;split at h
   ·simp at h;subst h;exact ha
   ·cases b:Dn (t::ts)with
    |none=>rw[b]at h;simp at h
    |some c=>
     rw[b]at h;simp only at h;obtain⟨_,i⟩:=JW _ c e b;have f:=OD _ c e b;refine j c.2 (a++[c.1]) cs i ?_ h;intro x d;simp at d;rcases d with d|rfl
     ·exact ha x d
     ·exact f
theorem Jx(s:ByteArray)(h:s.size<=800)(h0:(Ct s false).1=0):∃cs,C2 1000 (Ap s) []=some cs/\(Ct s false).2.2.clauses=cs:=by
 obtain⟨f,_,g⟩:=BV s false;have hl:=BP s;have e:Jo (Ap s) (AD false):=f.symm.trans h0;obtain⟨cs,i,ex,c,d,a,b⟩:=O7 1000 (Ap s) (AD false) [] (H6 false) Yo Yo e (Jc _ _) rfl rfl rfl rfl ⟨rfl,rfl,rfl,rfl,rfl,rfl,rfl,rfl⟩;rw[show(Ap s).take i=C4 s.data.toList 0 from Sd (G8 _ _) d]at b;rw[Qz]at a;subst a;refine⟨cs,c,?_⟩;rw[g h0,b];rfl
theorem CA(h:BD s=some cs):s.size<=800/\(Ct s false).1=0/\(Ct s false).2.2.clauses=cs/\(∀c∈cs,Kl c/\QU c)/\cs.length<=24:=by
 unfold BD at h;split at h
 ·simp at h
 ·split at h
  ·simp at h
  ·rename_i i H;have i:s.size<=800:=Yo
   obtain⟨B,_,_⟩:=BV s false;have h0:(Ct s false).1=0:=by rw[B];omega
   obtain⟨j,a,d⟩:=Jx s i h0;rw[a]at h;simp at h;subst h;have g:SB (Ct s false).2.2:=(SB.start false).run h0;have p:=Nd 1000 (Ap s) [] j (Da s) Ys a;have q:=Sm 1000 (Ap s) [] j (Da s) Ys a;refine⟨i,h0,d,fun c f=> ?_,by rw[<-d];exact g.clsn⟩;obtain⟨n,o,_⟩:=p c f;obtain⟨J,z,A⟩:=q c f;obtain⟨b1,b2,k⟩:=g.cls c (by rw[d];exact f);obtain⟨l,m,E⟩:=g.cn c (by rw[d];exact f);obtain⟨K,L,C⟩:=Ds _ _ _ z;obtain⟨M,N,D⟩:=Ds _ _ _ A;have I:c.body.flatten.length<=180:=by
    have w:∀ls:Ll,(∀t∈ls,t.length<=30)->ls.flatten.length<=30*ls.length:=by
     intro ls
     induction ls with
     |nil=>intro _;simp
     |cons t ts u=>
      intro h;have F:=h t Ys;have G:=u (fun y r=>h y (by simp[r]));simp only[Q4,Qg,Qf];omega
    have:=w c.body b2;omega
   refine⟨⟨RO 1000 n,fun t e=>RO 1000 (o t e),?_,?_,Yo,b1,b2,k⟩,fun x b=>Qq (l x b) Yo,fun t e x b=>Qq (m t e x b) Yo⟩
   ·rintro v ⟨x,b,a,d⟩;have:=C x b a;omega
   ·rintro t e v ⟨x,b,a,d⟩;have:=D x (List.mem_flatten.2 ⟨t,e,b⟩) a;omega
theorem Cs(h:Cr s=some a):s.size<=120/\(Ct s true).1=0/\(Ct s true).2.2.clauses=[⟨[],a.1,a.2⟩]/\FU (AN a)/\NK (AN a)/\a.1.length<=6/\a.1≠[]/\a.2.length<=121/\(∀x∈a.2,x.length<=8):=by
 unfold Cr at h;split at h
 ·simp at h
 ·split at h
  ·simp at h
  ·rename_i k O;have k:s.size<=120:=Yo
   obtain⟨K,_,_⟩:=BV s true;have h0:(Ct s true).1=0:=by rw[K];omega
   obtain⟨q,j,l,_⟩:=Ek s k h0;rw[j]at h;simp at h;subst h;have z:SB (Ct s true).2.2:=(SB.start true).run h0;obtain⟨G,y,_⟩:=FO 1000 0 1000 (Ap s) [] [] q (Da s) Ys rfl j;obtain⟨b1,b2,n⟩:=z.cls ⟨[],q.1,q.2.2⟩ (by rw[l];simp);obtain⟨N,o,w⟩:=z.cn ⟨[],q.1,q.2.2⟩ (by rw[l];simp);obtain⟨P,Q,L⟩:=Ds _ _ _ y;have hl:=BP s;have H:=FZ (M:=120) 1000 (Ap s) [] [] q (fun t b=>Qq (Cz s t b) k) Ys j;have I:=H.1;simp only[List.flatten_nil,Qt]at I;simp only at b2 n o w;have D:∀t∈q.1,Wf 1 t:=fun t b=>RO 1000 (G t b);have J:q.1≠[]:=by
    intro e;have:=O8 j;rw[e]at this;simp at this
   refine⟨k,h0,l,⟨?_,?_,?_,by simp[AN],?_,by simp[AN];omega,by simp[AN],by simp[AN],by simp[AN];omega,by simp[AN];omega⟩,?_,n,J,by simp only;omega,w⟩
   ·intro t b;simp only[ND.terms,AN,QK,List.map_nil,Qs,Qk,Q0,Function.comp]at b;rcases b with⟨u,c,rfl⟩|⟨i,_,rfl⟩
    ·exact D u c
    ·exact KJ i
   ·intro t b v C;simp only[ND.terms,AN,QK,List.map_nil,Qs,Qk,Q0,Function.comp,List.mem_range]at b;show v<q.2.2.length;rcases b with⟨u,c,rfl⟩|⟨i,hi,rfl⟩
    ·obtain⟨x,f,d,m⟩:=C;have:=L x (List.mem_flatten.2 ⟨_,c,f⟩) d;omega
    ·have:=Ez.1 C;omega
   ·intro g B;simp only[AN,Q0]at B;obtain⟨t,b,rfl⟩:=B;exact⟨b2 t b,by simp[AN]⟩
   ·intro t b;simp only[AN,Q0,List.mem_range]at b;obtain⟨i,hi,rfl⟩:=b;obtain⟨x,f,d,m⟩:=U4 _ _ _ y i (Qm _) hi;obtain⟨u,c,E⟩:=List.mem_flatten.1 f;obtain⟨p,r,F⟩:=List.append_of_mem E;have A:=Nv (D u c) x E d;have ex:x=⟨[],i,0⟩:=by
     cases x
     simp only at d m A;subst d m A;rfl
    refine⟨(u,0),by simp only[AN,Qs,Q0];exact⟨u,c,rfl⟩,p,r,?_⟩;show u=p++vr i++r;rw[F,ex];simp[vr]
   ·intro t b;simp only[ND.terms,AN,QK,List.map_nil,Qs,Qk,Q0,Function.comp]at b;rcases b with⟨u,c,rfl⟩|⟨i,_,rfl⟩
    ·exact fun x f=>Qq (o u c x f) Yo
    ·exact MR i
abbrev Ao(w w':World):Prop:=Below w.heap.size w w'
section inv
variable {P:Program} {ops:Array Oper} {Q:Exit->Act->World->Prop} {md:Region.Mode}
def Xn(ops:Array Oper)(L:Array Bool):Nat:=((List.range ops.size).filter (fun i=> !L.getD i true)).length
theorem Ju{d:Type}{p q:d->Bool}{l:List d}(h:∀x∈l,q x=true->p x=true){x:d}(b:x∈l)(f:p x=true)(g:q x=false):(l.filter q).length<(l.filter p).length:=by
 induction l with
 |nil=>simp at b
 |cons y l c=>
  have m:(l.filter q).length<=(l.filter p).length:=by
   clear c b
   induction l with
   |nil=>simp
   |cons j l c=>
    have e:=h j Ys;have k:=c (fun u a=>h u (by
     rcases Qp.1 a with rfl|a
     ·simp
     ·simp[a]))
    simp only[List.filter_cons];split
    ·rename_i hz;rw[if_pos (e hz)];simp;omega
    ·split<;>simp<;>omega
  simp only[List.filter_cons];rcases Qp.1 b with rfl|b
  ·rw[f,g];simp;omega
  ·have:=c (fun u a=>h u (by simp[a])) b;split
   ·rename_i i;rw[if_pos (h y Ys i)];simp;omega
   ·split<;>simp<;>omega
theorem S4{L:Array Bool}(hi:i<ops.size)(hl:L.getD i true=false):Xn ops (L.setIfInBounds i true)<Xn ops L:=by
 have b:i<L.size:=by
  rcases QB i L.size with h|h
  ·exact h
  ·simp[Array.getElem?_eq_none h]at hl
 refine Ju (x:=i) (fun j _ a=> ?_) (List.mem_range.2 hi) (by simp at hl⊢;exact hl) (by simp[b])
 by_cases e:i=j
 ·subst e;simp[b]at a
 ·rw[getD_set_ne true e]at a;exact a
theorem Gz{J:Array Bool->Act->World->Prop}(g:∀L a w i,i∈Region.ready md ops L->J L a w->wpOp P ops Q i (J (L.setIfInBounds i true)) a w)
  (e:∀L a w,Region.ready md ops L=[]->J L a w->Q .normal a w):∀(fuel:Nat)(L:Array Bool)(a:Act)(w:World),Xn ops L<=fuel->J L a w->wpAny P md ops Q fuel L a w:=by
 intro fuel
 induction fuel with
 |zero=>
  intro L a w j b;have c:Region.ready md ops L=[]:=by
   cases h:Region.ready md ops L with
   |nil=>rfl
   |cons i r=>
    have hi:i∈Region.ready md ops L:=by rw[h];simp
    obtain⟨h0,o,d,_⟩:=mem_ready.1 hi;have:=S4 (ops:=ops) (Array.getElem?_eq_some_iff.1 d).1 h0;omega
  exact⟨c,e L a w c b⟩
 |succ fuel k=>
  intro L a w j b;refine⟨fun c=>e L a w c b,fun i hi=>wpOp_mono (fun f w' h=>k _ f w' ?_ h) (g L a w i hi b)⟩;obtain⟨h0,o,d,_⟩:=mem_ready.1 hi;have:=S4 (ops:=ops) (Array.getElem?_eq_some_iff.1 d).1 h0;omega
end inv
inductive Kd where
 |pur (c:Value)
 |post (g:Value->Value)
 |cal
 |alo (t:TypeId) (z:Array Value) (s:Nat) (cs:Value->Array Value)
 |sto (i:Nat)
def Kd.val(vc:Value)(β:Nat->Nat)(i:Nat):Kd->Value
 | .pur c=>c
 | .post g=>g vc
 | .cal=>vc
 | .alo .. => .pointer (some ⟨β i,0,none⟩)
 | .sto _=>undef
def pa(a0:Act)(vc:Value)(β:Nat->Nat)(lst:Nat->Bool):Nat->List Oper->List Kd->Act
 |_,[],_=>a0
 |_,_,[]=>a0
 |k,o::os,q::qs=>if lst k then(pa a0 vc β lst (k+1) os qs).put o.dst (q.val vc β k)else pa a0 vc β lst (k+1) os qs
abbrev B4(a0:Act)(ops:List Oper)(kd:List Kd)(vc:Value)(β:Nat->Nat):Act:=pa a0 vc β (fun _=>true) 0 ops kd
def B9:Kd->Bool
 | .post _=>true
 | .sto _=>true
 |_=>false
def Cu:Kd->Bool
 | .post _=>true
 | .cal=>true
 |_=>false
def Bl(o:Oper)(j:Nat):Bool:=o.after.any fun e=>Region.binds .any e&&e.on==j
def GD(ops:List Oper)(kd:List Kd)(ic:Nat):Bool:=
 ops.length==kd.length&&
 (List.range ops.length).all fun i=>match ops[i]?,kd[i]? with
  |some o,some q=>
   o.guard.isNone&&(match o.op with| .select .. =>false|_=>true)&&
   (o.after.all fun e=> !Region.binds .any e||e.on<i)&&
   ((List.range ops.length).all fun j=>match ops[j]? with
    |some p=>match p.dst with
     |some d=>((j==i)||(o.dst !=some d))&&(!(o.looksAt ops.toArray).contains d||Bl o j)
     |none=>true
    |none=>true)&&
   (match q with
    | .pur _=>true
    | .cal=>i==ic
    | .post _=>(List.range i).any fun j=>Bl o j&&(match kd[j]? with|some r=>Cu r|none=>false)
    | .alo _ _ s _=>match kd[s]? with|some (.sto k)=>k==i|_=>false
    | .sto k=>o.dst.isNone&&Bl o k&&((List.range i).any fun j=>Bl o j&&(match kd[j]? with|some r=>Cu r|none=>false))&&(match kd[k]? with|some (.alo _ _ s _)=>s==i|_=>false))
  |_,_=>false
theorem CV{a0:Act}{vc b:Value}{β c:Nat->Nat}{lst a:Nat->Bool}:∀{ops:List Oper}{kd:List Kd}{k:Nat},(∀j q,kd[j]?=some q->lst (k+j)=a (k+j)/\(lst (k+j)=true->q.val vc β (k+j)=q.val b c (k+j)))->
  pa a0 vc β lst k ops kd=pa a0 b c a k ops kd:=by
 intro ops
 induction ops with
 |nil=>intro kd k _;simp[pa]
 |cons o os g=>
  intro kd k h
  cases kd with
  |nil=>simp[pa]
  |cons q l=>
   have h0:=h 0 q rfl;simp only[Nat.add_zero]at h0;have i:=g (kd:=l) (k:=k+1) (fun j r f=>by
    have:=h (j+1) r (by simpa using f);have e:k+1+j=k+(j+1):=Yo
    rw[e];exact this)
   rw[pa,pa,i,<-h0.1];split
   ·rename_i d;rw[h0.2 d]
   ·rfl
theorem Kt{a0:Act}{vc:Value}{β:Nat->Nat}{lst:Nat->Bool}{x:Operand}:∀{ops:List Oper}{kd:List Kd}{k:Nat},(∀j o,ops[j]?=some o->lst (k+j)=false->∀d,o.dst=some d->x≠.tmp d)->
  (pa a0 vc β lst k ops kd).eval x=(pa a0 vc β (fun _=>true) k ops kd).eval x:=by
 intro ops
 induction ops with
 |nil=>intro kd k _;simp[pa]
 |cons o os u=>
  intro kd k h
  cases kd with
  |nil=>simp[pa]
  |cons q w=>
   have m:=u (kd:=w) (k:=k+1) (fun j r t hl=>by
    have e:k+1+j=k+(j+1):=Yo
    rw[e]at hl;exact h (j+1) r (by simpa using t) hl)
   rw[pa,pa];simp only[if_true]
   by_cases l:∃d,o.dst=some d/\x= .tmp d
   ·obtain⟨d,hd,rfl⟩:=l
    cases s:lst k
    ·exact absurd rfl (h 0 o rfl s d hd)
    ·simp only[if_true];rw[hd];have b:∀(p:Nat->Bool)(g:Nat)(c:List Oper)(a:List Kd),(pa a0 vc β p g c a).tmps.size=a0.tmps.size:=by
      intro p g c
      induction c generalizing g with
      |nil=>intro a;simp[pa]
      |cons v c n=>
       intro a
       cases a with
       |nil=>simp[pa]
       |cons y a=>
        rw[pa];split
        ·cases v.dst<;>simp[Act.put,n]
        ·exact n _ _
     simp only[Act.eval,Act.put,Array.getD_eq_getD_getElem?];rcases QB d a0.tmps.size with f|f
     ·rw[Array.getElem?_setIfInBounds_self_of_lt (by rw[b];exact f),Array.getElem?_setIfInBounds_self_of_lt (by rw[b];exact f)]
     ·rw[Array.getElem?_eq_none (by simp[b];omega),Array.getElem?_eq_none (by simp[b];omega)]
   ·have i:∀d,o.dst=some d->x≠.tmp d:=fun d hd e=>l ⟨d,hd,e⟩;rw[Act.eval_put i];split
    ·rw[Act.eval_put i];exact m
    ·exact m
theorem Lq{a0:Act}{vc:Value}{β:Nat->Nat}{lst:Nat->Bool}:∀{ops:List Oper}{kd:List Kd}{k i:Nat}{o:Oper}{q:Kd},ops[i]?=some o->kd[i]?=some q->lst (k+i)=false->
  (∀j p d,ops[j]?=some p->p.dst=some d->j=i\/o.dst≠some d)->pa a0 vc β (fun j=>lst j||j==k+i) k ops kd=(pa a0 vc β lst k ops kd).put o.dst (q.val vc β (k+i)):=by
 intro ops
 induction ops with
 |nil=>intro kd k i o q h;simp at h
 |cons p os l=>
  intro kd k i o q c a hl hd
  cases kd with
  |nil=>simp at a
  |cons r n=>
   cases i with
   |zero=>
    simp at c a;subst c a;simp only[Nat.add_zero]at hl⊢;rw[pa,pa];simp only[hl,Bool.false_or,BEq.rfl,if_true,Bool.false_eq_true,if_false]
    congr 1
    refine CV (fun j s t=>⟨?_,fun _=>rfl⟩);have:(k+1+j==k)=false:=by rw[Qu];omega
    simp[this]
   |succ i=>
    have e:k+(i+1)=k+1+i:=Yo
    have m:=l (kd:=n) (k:=k+1) (i:=i) (o:=o) (q:=q) (by simpa using c) (by simpa using a) (by rw[<-e];exact hl) (fun j p' d g b=>by
     rcases hd (j+1) p' d (by simpa using g) b with h|h
     ·exact Or.inl Yo
     ·exact Or.inr h)
    rw[e];rw[pa,pa,m];have f:(k==k+1+i)=false:=by rw[Qu];omega
    simp only[f,Bool.or_false];split
    ·refine Act.put_comm _ _ _ (fun d b e'=> ?_);rcases hd 0 p d rfl e' with h|h
     ·omega
     ·exact h b
    ·rfl
def Ob(P:Program)(kd:List Kd)(w0:World)(FA:Value->(Nat->Nat)->Act)(R:(Nat->Prop)->Value->World->Prop)(f:FuncId)(args:Av)(o:Oper):Kd->Prop
 | .pur c=>∀vc β w,Ao w0 w->(execOp (FA vc β).eval o).run P w= .ok (.value c) w
 | .post g=>∀vc β X w,R X vc w->(execOp (FA vc β).eval o).run P w= .ok (.value (g vc)) w
 | .cal=>∀vc β w,(execOp (FA vc β).eval o).run P w= .ok (.enter f args) w
 | .alo t z _ _=>∀vc β w,(execOp (FA vc β).eval o).run P w= .ok (.value (.pointer (some ⟨w.heap.size,0,none⟩))) (w.alloc (.cells z t))
 | .sto i=>∀vc β X w t z s cs,kd[i]?=some (.alo t z s cs)->R X vc w->w.heap[β i]?=some (.cells z t (0,0))->
   ∃w',(execOp (FA vc β).eval o).run P w= .ok .skip w'/\w'.heap[β i]?=some (.cells (cs vc) t (0,0))/\Ad (fun k=>k=β i) w w'
def QG(P:Program)(kd:List Kd)(w0:World)(FA:Value->(Nat->Nat)->Act)(R:(Nat->Prop)->Value->World->Prop)(f:FuncId)(args:Av):List Oper->List Kd->Prop
 |o::os,q::qs=>Ob P kd w0 FA R f args o q/\QG P kd w0 FA R f args os qs
 |_,_=>True
theorem QG.at{kd:List Kd}{c:Value->(Nat->Nat)->Act}{d:(Nat->Prop)->Value->World->Prop}{f:FuncId}{args:Av}:∀{ops:List Oper}{ks:List Kd},QG P kd w0 c d f args ops ks->
  ∀{i:Nat}{o:Oper}{q:Kd},ops[i]?=some o->ks[i]?=some q->Ob P kd w0 c d f args o q:=by
 intro ops
 induction ops with
 |nil=>intro ks _ i o q h;simp at h
 |cons p os e=>
  intro ks h i o q b a
  cases ks with
  |nil=>simp at a
  |cons r g=>
   cases i with
   |zero=>simp at b a;subst b a;exact h.1
   |succ i=>exact e h.2 (by simpa using b) (by simpa using a)
def GF(kd:List Kd)(β:Nat->Nat)(lst:Nat->Bool):Nat->Prop:=fun k=>∃i t z s cs,kd[i]?=some (.alo t z s cs)/\lst i=true/\k=β i
structure XX(P:Program)(ops:List Oper)(kd:List Kd)(ic:Nat)(a0:Act)(w0:World)(R:(Nat->Prop)->Value->World->Prop)(L:Array Bool)(a:Act)(w:World):Prop where
 size:L.size=ops.length
 ext:Ao w0 w
 st:∃vc β,a=pa a0 vc β (fun j=>L.getD j false) 0 ops kd/\(L.getD ic false=true->R (GF kd β (fun j=>L.getD j false)) vc w)/\
  (∀(i:Nat) q,kd[i]?=some q->L.getD i false=true->B9 q=true->L.getD ic false=true)/\
  (∀(i:Nat) t z s cs,kd[i]?=some (.alo t z s cs)->L.getD i false=true->w0.heap.size<=β i/\w.heap[β i]?=some (.cells (if L.getD s false then cs vc else z) t (0,0)))/\
  (∀(i j:Nat) t z s cs t' z' s' cs',kd[i]?=some (.alo t z s cs)->kd[j]?=some (.alo t' z' s' cs')->L.getD i false=true->L.getD j false=true->i≠j->β i≠β j)/\
  (∀(i k:Nat),kd[i]?=some (.sto k)->L.getD i false=true->L.getD k false=true)
theorem E7{L:Array Bool}(hi:i<L.size)(j:Nat):(L.setIfInBounds i true).getD j false=(L.getD j false||j==i):=by
 by_cases e:i=j
 ·subst e;simp[hi]
 ·rw[getD_set_ne false e];have:(j==i)=false:=by rw[Qu];omega
  simp[this]
structure VZ(ops:List Oper)(kd:List Kd)(ic i:Nat)(o:Oper)(q:Kd):Prop where
 gd:o.guard=none
 sel:∀cs b,o.op≠.select cs b
 low:∀e∈o.after,Region.binds .any e=true->e.on<i
 dst:∀j p d,ops[j]?=some p->p.dst=some d->j=i\/o.dst≠some d
 look:∀j p d,ops[j]?=some p->p.dst=some d->d∈o.looksAt ops.toArray->Bl o j=true
 cal:q= .cal->i=ic
 post:B9 q=true->∃j r,Bl o j=true/\kd[j]?=some r/\Cu r=true
 alo:∀t z s cs,q= .alo t z s cs->kd[s]?=some (.sto i)
 sto:∀k,q= .sto k->o.dst=none/\Bl o k=true/\∃t z cs,kd[k]?=some (.alo t z i cs)
theorem KA{ops:List Oper}{kd:List Kd}{z:Nat}(h:GD ops kd z=true){o:Oper}(x:ops[i]?=some o):∃q,kd[i]?=some q/\VZ ops kd z i o q:=by
 unfold GD at h;simp only[Q6,List.all_eq_true,List.mem_range,beq_iff_eq]at h;obtain⟨hl,h⟩:=h;have hi:=(Qa.1 x).1;have h:=h i hi;rw[x]at h
 cases y:kd[i]? with
 |none=>rw[y]at h;simp at h
 |some q=>
  rw[y]at h;simp only[Q6,List.all_eq_true,List.mem_range]at h;obtain⟨⟨⟨⟨B,v⟩,C⟩,w⟩,a⟩:=h;refine⟨q,rfl,?_,?_,?_,?_,?_,?_,?_,?_,?_⟩
  ·simpa using B
  ·intro cs b e;rw[e]at v;simp at v
  ·intro e D hb;have:=Array.all_eq_true_iff_forall_mem.1 C e D;simpa[hb]using this
  ·intro j p d f hd;have:=w j (Qa.1 f).1;rw[f]at this;simp only[hd,Q6,Bool.or_eq_true,beq_iff_eq,bne_iff_ne]at this;exact this.1
  ·intro j p d f hd E;have:=w j (Qa.1 f).1;rw[f]at this;simp only[hd,Q6,Bool.or_eq_true,beq_iff_eq,bne_iff_ne]at this;rcases this.2 with h|h
   ·simp[E]at h
   ·exact h
  ·intro e;subst e;simpa using a
  ·intro f
   cases q with
   |post g=>
    simp only[List.any_eq_true,List.mem_range,Q6]at a;obtain⟨j,_,m,c⟩:=a
    cases l:kd[j]? with
    |none=>rw[l]at c;simp at c
    |some r=>rw[l]at c;exact⟨j,r,m,l,c⟩
   |sto k=>
    simp only[List.any_eq_true,List.mem_range,Q6]at a;obtain⟨⟨_,j,_,m,c⟩,_⟩:=a
    cases l:kd[j]? with
    |none=>rw[l]at c;simp at c
    |some r=>rw[l]at c;exact⟨j,r,m,l,c⟩
   |_=>simp[B9]at f
  ·intro t A s cs e;subst e;simp only at a;split at a
   ·rename_i k u;simp at a;subst a;exact u
   ·simp at a
  ·intro k e;subst e;simp only[List.any_eq_true,List.mem_range,Q6]at a;obtain⟨⟨⟨m,c⟩,_⟩,n⟩:=a;refine⟨by simpa using m,c,?_⟩;split at n
   ·rename_i t A s cs u;simp at n;subst n;exact⟨t,A,cs,u⟩
   ·simp at n
theorem Be{ops:List Oper}{L:Array Bool}{j:Nat}{o:Oper}(d:i∈Region.ready .any ops.toArray L)(b:ops[i]?=some o)(f:Bl o j=true):L.getD j false=true:=by
 obtain⟨_,g,c,h⟩:=mem_ready.1 d;have:g=o:=by simpa[b]using c.symm
 subst this;obtain⟨e,a,hb⟩:=Array.any_eq_true'.1 f;simp only[Q6,beq_iff_eq]at hb;rw[<-hb.2];exact h e a hb.1
theorem SQ{ops:List Oper}{kd:List Kd}{h:Nat}(c:GD ops kd h=true){L:Array Bool}(l:L.size=ops.length)(g:Region.ready .any ops.toArray L=[]):∀i,i<ops.length->L.getD i false=true:=by
 intro i
 induction i using Nat.strongRecOn with
 |_ i j=>
  intro hi
  cases hl:L.getD i false with
  |true=>rfl
  |false=>
   exfalso;have f:ops[i]?=some ops[i]:=Qb hi;obtain⟨q,k,a⟩:=KA c f;have:i∈Region.ready .any ops.toArray L:=by
    refine mem_ready.2 ⟨?_,ops[i],Ys,fun e b hb=>j e.on (a.low e b hb) (by have:=a.low e b hb;omega)⟩;have d:i<L.size:=Yo
    simp[d]at hl⊢;exact hl
   rw[g]at this;simp at this
theorem I0{ops:List Oper}{cb:Nat}{bk:Exit->Act->World->Prop}{a0:Act}(b1:P.follows .mixedOrders=true)(kd:List Kd)(H:Nat)(W:GD ops kd H=true)
  (ad:(Nat->Prop)->Value->World->Prop) (f:FuncId) (args:Av)
  (ae:∀X bl v u R,ad X v u->(∀k,k<u.hz->¬X k->R.heap[k]?=u.heap[k]?)->u.hz<=R.hz->(∀k,k<u.hz->bl k->X k)->ad bl v R)
  (bw:∀X u,Ao w.drew u->(∀k,X k->w.hz<=k/\k<u.hz/\∃(i:Nat)(t:TypeId)(n:Av)(s:Nat)(cs:Value->Av)(cl:Av),kd[i]?=some (.alo t n s cs)/\u.heap[k]?=some (.cells cl t (0,0)))->Calls P f args u (fun e R=>∃v,e= .returned v/\Ao u R/\ad X v R))
  (b3:QG P kd w.drew (B4 a0 ops kd) ad f args ops kd)
  (bf:kd[H]?=some .cal) (a6:H<ops.length)
  (bx:∀vc β u,Ao w.drew u->ad (GF kd β (fun _=>true)) vc u->(∀(i:Nat) t n s cs,kd[i]?=some (.alo t n s cs)->w.hz<=β i/\u.heap[β i]?=some (.cells (cs vc) t (0,0)))->
   (∀(i j:Nat) t n s cs E F A C,kd[i]?=some (.alo t n s cs)->kd[j]?=some (.alo E F A C)->i≠j->β i≠β j)->bk .normal (B4 a0 ops kd vc β) u):
  (Code.region cb ops.toArray true).wp P bk a0 w:=by
 have cj:ops.length=kd.length:=by
  unfold GD at W;simp only[Q6,beq_iff_eq]at W;exact W.1
 refine wp_region_any b1 (Gz (J:=XX P ops kd H a0 w.drew ad) ?_ ?_ _ _ _ _ ?_ ?_)
 ·intro L a u i al be;obtain⟨aa,K,vc,β,rfl,T,aw,O,au,a9⟩:=be;obtain⟨h0,o,bt,_⟩:=mem_ready.1 al;have Y:ops[i]?=some o:=by simpa using bt
  have hi:i<ops.length:=(Qa.1 Y).1;have a6:i<L.size:=Yo
  have ab:L.getD i false=false:=by simp[a6]at h0⊢;exact h0
  obtain⟨q,ak,S⟩:=KA W Y;have ar:=b3.at Y ak;have bz:execOp (pa a0 vc β (fun j=>L.getD j false) 0 ops kd).eval o=execOp (B4 a0 ops kd vc β).eval o:=by
   refine execOp_congr o S.sel (fun x ca=>Kt (fun j p U hl d hd e=> ?_));subst e;have b7:=S.look j p d U hd (Q9 _ (List.mem_filterMap.2 ⟨.tmp d,by simpa using ca,rfl⟩));have:=Be al Y b7;simp only[Nat.zero_add]at hl;rw[hl]at this;simp at this
  have b8:Region.wanted o (yielded ops.toArray (pa a0 vc β (fun j=>L.getD j false) 0 ops kd).tmps)=true:=by simp[Region.wanted,S.gd]
  have aq:=E7 a6;have ax:∀an ao,(∀j r,kd[j]?=some r->L.getD j false=true->r.val vc β j=r.val an ao j)->
    (pa a0 vc β (fun j=>L.getD j false) 0 ops kd).put o.dst (q.val an ao i)=pa a0 an ao (fun j=>(L.setIfInBounds i true).getD j false) 0 ops kd:=by
   intro an ao b6;have bv:pa a0 vc β (fun j=>L.getD j false) 0 ops kd=pa a0 an ao (fun j=>L.getD j false) 0 ops kd:=CV (fun j r am=>by
    simp only[Nat.zero_add];exact⟨trivial,fun hl=>b6 j r am hl⟩)
   rw[bv];have bm:=Lq (a0:=a0) (vc:=an) (β:=ao) (lst:=fun j=>L.getD j false) (k:=0) Y ak (by simpa using ab) S.dst;simp only[Nat.zero_add]at bm;rw[<-bm];exact CV (fun j r am=>⟨by simp only[Nat.zero_add,aq],fun _=>rfl⟩)
  have ch:∀r,kd[H]?=some r->r= .cal:=fun r h=>by rw[bf]at h;exact(Option.some.inj h).symm
  have aj:∀j,L.getD j false=true->(L.setIfInBounds i true).getD j false=true:=fun j h=>by rw[aq,h];rfl
  have z:∀j,j≠i->(L.setIfInBounds i true).getD j false=L.getD j false:=fun j h=>by
   rw[aq];have:(j==i)=false:=by rw[Qu];exact h
   simp[this]
  unfold wpOp;simp only[bt];rw[if_pos b8];refine Or.inl ?_;unfold Oper.wp;rw[bz];have b4:∀(b:Nat) B,kd[b]?=some B->(L.setIfInBounds i true).getD b false=true->B9 B=true->b≠i->(L.setIfInBounds i true).getD H false=true:=fun b B m y I D=>
   aj _ (aw b B m (by rw[z b D]at y;exact y) I)
  have ag:∀{b:Nat}{B:Kd},kd[b]?=some B->∃ac,VZ ops kd H b ac B:=fun{b B} m=>by
   obtain⟨ce,Z,bd⟩:=KA W (Qb (l:=ops) (i:=b) (by have:=(Qa.1 m).1;omega));rw[m]at Z;simp at Z;subst Z;exact⟨_,bd⟩
  have D:∀{b:Nat}{B:Kd},kd[b]?=some B->B≠q->b≠i:=fun{b B} m y e=>by
   subst e;rw[ak]at m;exact y (Option.some.inj m).symm
  have bb:(∀t n s cs,q≠.alo t n s cs)->∀k,GF kd β (fun j=>(L.setIfInBounds i true).getD j false) k->GF kd β (fun j=>L.getD j false) k:=by
   rintro ai k ⟨b,t,n,s,cs,m,y,rfl⟩;have:b≠i:=D m (fun e=>ai t n s cs e.symm);exact⟨b,t,n,s,cs,m,(z b this).symm.trans y,rfl⟩
  have a4:(∀t n s cs,q≠.alo t n s cs)->∀(b G:Nat) t n s cs E F A C,kd[b]?=some (.alo t n s cs)->kd[G]?=some (.alo E F A C)->(L.setIfInBounds i true).getD b false=true->(L.setIfInBounds i true).getD G false=true->b≠G->β b≠β G:=by
   intro ai b G t n s cs E F A C m y I ap;rw[z b (D m (fun e=>ai _ _ _ _ e.symm))]at I;rw[z G (D y (fun e=>ai _ _ _ _ e.symm))]at ap;exact au b G t n s cs E F A C m y I ap
  have bn:(∀t n s cs,q≠.alo t n s cs)->(∀k,q≠.sto k)->∀(b:Nat) t n s cs,kd[b]?=some (.alo t n s cs)->(L.setIfInBounds i true).getD b false=true->w.drew.hz<=β b/\u.heap[β b]?=some (.cells (if(L.setIfInBounds i true).getD s false then cs vc else n) t (0,0)):=by
   intro ai bh b t n s cs m y;obtain⟨ac,M⟩:=ag m;have ay:s≠i:=D (M.alo t n s cs rfl) (fun e=>bh _ e.symm);rw[z s ay];exact O b t n s cs m ((z b (D m (fun e=>ai _ _ _ _ e.symm))).symm.trans y)
  have ba:(∀k,q≠.sto k)->∀(b k:Nat),kd[b]?=some (.sto k)->(L.setIfInBounds i true).getD b false=true->(L.setIfInBounds i true).getD k false=true:=fun bh b k m y=>
   aj _ (a9 b k m ((z b (D m (fun e=>bh _ e.symm))).symm.trans y))
  have bu:B9 q=false->∀(b:Nat) B,kd[b]?=some B->(L.setIfInBounds i true).getD b false=true->B9 B=true->(L.setIfInBounds i true).getD H false=true:=fun U b B m y I=>
   b4 b B m y I (D m (fun e=>by rw[e,U]at I;simp at I))
  have bo:B9 q=true->L.getD H false=true:=fun U=>by
   obtain⟨j,r,m,y,I⟩:=S.post U;have af:=Be al Y m
   cases r with
   |post g=>exact aw j _ y af rfl
   |cal=>
    obtain⟨ac,M⟩:=ag y;have:=M.cal rfl;rw[<-this];exact af
   |_=>simp[Cu]at I
  cases q with
  |pur c=>
   rw[ar vc β u K];have N:H≠i:=D bf Ys;refine⟨by simpa using aa,K,vc,β,ax vc β (fun _ _ _ _=>rfl),?_,bu rfl,bn Ys Ys,a4 Ys,ba Ys⟩;intro h;rw[z H N]at h;exact ae _ _ vc u u (T h) (fun _ _ _=>rfl) (Qe _) (fun k _=>bb Ys k)
  |post g=>
   have N:=bo rfl;rw[ar vc β _ u (T N)];refine⟨by simpa using aa,K,vc,β,ax vc β (fun _ _ _ _=>rfl),?_,fun b B _ _ _=>aj _ N,bn Ys Ys,a4 Ys,ba Ys⟩;intro h;exact ae _ _ vc u u (T N) (fun _ _ _=>rfl) (Qe _) (fun k _=>bb Ys k)
  |cal=>
   have a5:=S.cal rfl;rw[ar vc β u];refine(bw (GF kd β (fun j=>L.getD j false)) u K ?_).mono ?_
   ·rintro k ⟨b,t,n,s,cs,m,y,rfl⟩;have:=O b t n s cs m y;exact⟨this.1,(Array.getElem?_eq_some_iff.1 this.2).1,b,t,n,s,cs,_,m,this.2⟩
   ·rintro e R ⟨v,rfl,bp,am⟩;refine⟨by simpa using aa,K.trans (bp.mono K.size),v,β,ax v β ?_,?_,?_,?_,a4 Ys,ba Ys⟩
    ·intro j r m y
     cases r with
     |post g=>
      have:=aw j _ m y rfl;rw[<-a5,ab]at this;simp at this
     |cal=>
      obtain⟨ac,M⟩:=ag m;have:=M.cal rfl;rw[this,<-a5,ab]at y;simp at y
     |_=>rfl
    ·intro _;exact ae _ _ v R R am (fun _ _ _=>rfl) (Qe _) (fun k _=>bb Ys k)
    ·intro b B _ _ _;rw[<-a5,aq];simp
    ·intro b t n s cs m y;have b0:=D m Ys;have hb:=O b t n s cs m ((z b b0).symm.trans y);refine⟨hb.1,(bp.block _ (Array.getElem?_eq_some_iff.1 hb.2).1).trans ?_⟩;obtain⟨ac,M⟩:=ag m;have bs:=M.alo t n s cs rfl;have ay:s≠i:=D bs Ys;have V:L.getD s false=false:=by
      cases V:L.getD s false with
      |false=>rfl
      |true=>
       have:=aw s _ bs V rfl;rw[<-a5,ab]at this;simp at this
     rw[z s ay,V];rw[V]at hb;exact hb.2
  |alo t n s cs=>
   have N:H≠i:=D bf Ys;rw[ar vc β u];have br:=S.alo t n s cs rfl;have ay:s≠i:=D br Ys;have V:L.getD s false=false:=by
    cases V:L.getD s false with
    |false=>rfl
    |true=>
     have:=a9 s i br V;rw[ab]at this;simp at this
   have az:∀j,j≠i->(fun j=>if j=i then u.hz else β j) j=β j:=fun j h=>by simp[h]
   have bj:(fun j=>if j=i then u.hz else β j) i=u.hz:=Ys
   have U:=ax vc (fun j=>if j=i then u.hz else β j) (fun j r m y=>by
    have af:j≠i:=fun e=>by rw[e,ab]at y;simp at y
    cases r with
    |alo=>simp only[Kd.val];rw[if_neg af]
    |_=>rfl)
   simp only[Kd.val,if_true]at U;have bg:∀(b:Nat) t n s cs,kd[b]?=some (.alo t n s cs)->L.getD b false=true->β b<u.hz:=fun b t n s cs m y=>(Array.getElem?_eq_some_iff.1 (O b t n s cs m y).2).1;refine⟨by simpa using aa,K.alloc K.size _,vc,(fun j=>if j=i then u.hz else β j),U,?_,?_,?_,?_,ba Ys⟩
   ·intro h;rw[z H N]at h;refine ae _ _ vc u _ (T h) (fun k Q _=>Below.heap_alloc _ _ _ Q) Ys ?_;rintro k Q ⟨b,t,n,s,cs,m,y,rfl⟩
    by_cases e:b=i
    ·subst e;simp at Q
    ·rw[az b e];exact⟨b,t,n,s,cs,m,(z b e).symm.trans y,rfl⟩
   ·exact bu rfl
   ·intro b E F A C m y
    by_cases e:b=i
    ·subst e;rw[ak]at m;simp only[Qo,Kd.alo.injEq]at m;obtain⟨rfl,rfl,rfl,rfl⟩:=m;rw[bj,z s ay,V];exact⟨K.size,QL u _⟩
    ·rw[az b e];have av:=(z b e).symm.trans y;have hb:=O b E F A C m av;have bi:A≠i:=by
      obtain⟨ac,M⟩:=ag m;exact D (M.alo E F A C rfl) Ys
     rw[z A bi];exact⟨hb.1,(Below.heap_alloc _ _ _ (bg b E F A C m av)).trans hb.2⟩
   ·intro b G E F A C cm cn ck cf m y I ap bq
    by_cases e:b=i
    ·have e':G≠i:=fun h=>bq (e.trans h.symm);rw[e,bj,az G e'];have:=bg G _ _ _ _ y ((z G e').symm.trans ap);omega
    ·rw[az b e]
     by_cases e':G=i
     ·rw[e',bj];have:=bg b _ _ _ _ m ((z b e).symm.trans I);omega
     ·rw[az G e'];exact au b G _ _ _ _ _ _ _ _ m y ((z b e).symm.trans I) ((z G e').symm.trans ap) bq
  |sto k=>
   have N:=bo rfl;obtain⟨cg,b9,t,n,cs,ah⟩:=S.sto k rfl;have a8:=Be al Y b9;have a3:=O k t n i cs ah a8;rw[ab]at a3;obtain⟨w',b5,b2,a7⟩:=ar vc β _ u t n i cs ah (T N) a3.2;rw[b5];have ci:k≠i:=D ah Ys;refine⟨by simpa using aa,K.trans (a7.below K.size (fun j e=>by rw[e];exact a3.1)),vc,β,ax vc β (fun _ _ _ _=>rfl),?_,fun b B _ _ _=>aj _ N,?_,a4 Ys,?_⟩
   ·intro _;refine ae _ _ vc u w' (T N) (fun j af hn=>a7.block j af (fun e=>hn ⟨k,t,n,i,cs,ah,a8,e⟩)) a7.size (fun j _=>bb Ys j)
   ·intro b E F A C m y;have e:b≠i:=D m Ys;have av:=(z b e).symm.trans y
    by_cases bc:b=k
    ·subst bc;rw[ah]at m;simp only[Qo,Kd.alo.injEq]at m;obtain⟨rfl,rfl,rfl,rfl⟩:=m;rw[aq];simp only[BEq.rfl,Bool.or_true,if_true];exact⟨a3.1,b2⟩
    ·have hb:=O b E F A C m av;have bi:A≠i:=fun e'=>by
      obtain⟨ac,M⟩:=ag m;have:=M.alo E F A C rfl;rw[e',ak]at this;simp at this;exact bc this.symm
     rw[z A bi];exact⟨hb.1,(a7.block _ (Array.getElem?_eq_some_iff.1 hb.2).1 (au b k _ _ _ _ _ _ _ _ m ah av a8 bc)).trans hb.2⟩
   ·intro b cd m y
    by_cases e:b=i
    ·subst e;rw[ak]at m;simp at m;subst m;exact aj _ a8
    ·exact aj _ (a9 b cd m ((z b e).symm.trans y))
 ·intro L a u al be;obtain⟨aa,K,vc,β,rfl,T,aw,O,au,a9⟩:=be;have a2:=SQ W aa al;have e:pa a0 vc β (fun j=>L.getD j false) 0 ops kd=B4 a0 ops kd vc β:=CV (fun j r am=>⟨by
   simp only[Nat.zero_add];exact a2 j (by have:=(Qa.1 am).1;omega),fun _=>rfl⟩)
  rw[e];have Q:∀(i:Nat) t n s cs,kd[i]?=some (.alo t n s cs)->L.getD i false=true/\L.getD s false=true:=fun i t n s cs h=>by
   have hi:=(Qa.1 h).1;obtain⟨ce,Z,bd⟩:=KA W (Qb (l:=ops) (i:=i) Yo);rw[h]at Z;simp at Z;subst Z;have:=(Qa.1 (bd.alo t n s cs rfl)).1;exact⟨a2 i Yo,a2 s Yo⟩
  refine bx vc β u K ?_ ?_ ?_
  ·refine ae _ _ vc u u (T (a2 H a6)) (fun _ _ _=>rfl) (Qe _) ?_;rintro k _ ⟨b,t,n,s,cs,m,y,rfl⟩;exact⟨b,t,n,s,cs,m,(Q b t n s cs m).1,rfl⟩
  ·intro i t n s cs h;have:=O i t n s cs h (Q i t n s cs h).1;rw[(Q i t n s cs h).2]at this;exact this
  ·intro i j t n s cs E F A C m y;exact au i j t n s cs E F A C m y (Q i t n s cs m).1 (Q j E F A C y).1
 ·have:(ops.toArray).size=ops.length:=Ys
  unfold Xn;exact Qq (List.length_filter_le _ _) Ys
 ·have hz:∀j,(Array.replicate ops.toArray.size false).getD j false=false:=fun j=>by
   simp only[Array.getD_eq_getD_getElem?,Array.getElem?_replicate];split<;>rfl
  refine⟨Ys,Below.refl _ _,undef,fun _=>0,?_,?_,?_,?_,?_,?_⟩
  ·have:∀(k:Nat)(os:List Oper)(a1:List Kd),pa a0 undef (fun _=>0) (fun j=>(Array.replicate ops.toArray.size false).getD j false) k os a1=a0:=by
    intro k os
    induction os generalizing k with
    |nil=>intro a1;simp[pa]
    |cons o os cc=>
     intro a1
     cases a1 with
     |nil=>simp[pa]
     |cons q a1=>rw[pa,hz];simp only[Bool.false_eq_true,if_false];exact cc _ _
   exact(this _ _ _).symm
  ·intro h;rw[hz]at h;simp at h
  ·intro i q _ h;rw[hz]at h;simp at h
  ·intro i t n s cs _ h;rw[hz]at h;simp at h
  ·intro i j t n s cs E F A C _ _ h;rw[hz]at h;simp at h
  ·intro i k _ h;rw[hz]at h;simp at h
theorem DM{ops:List Oper}{B:Nat}{d:Exit->Act->World->Prop}{a0:Act}(x:P.follows .mixedOrders=true)(kd:List Kd)(c:Nat)(q:GD ops kd c=true)
  (a:(Nat->Prop)->Value->World->Prop) (f:FuncId) (args:Av)
  (o:∀X g v u b,a X v u->(∀k,k<u.hz->¬X k->b.heap[k]?=u.heap[k]?)->u.hz<=b.hz->(∀k,k<u.hz->g k->X k)->a g v b)
  (m:∀X u,Ao w.drew u->(∀k,X k->w.hz<=k/\k<u.hz)->Calls P f args u (fun e b=>∃v,e= .returned v/\Ao u b/\a X v b))
  (y:QG P kd w.drew (B4 a0 ops kd) a f args ops kd)
  (p:kd[c]?=some .cal) (r:c<ops.length)
  (n:∀vc β u,Ao w.drew u->a (GF kd β (fun _=>true)) vc u->(∀(i:Nat) t z s cs,kd[i]?=some (.alo t z s cs)->w.hz<=β i/\u.heap[β i]?=some (.cells (cs vc) t (0,0)))->
   (∀(i j:Nat) t z s cs t' z' s' cs',kd[i]?=some (.alo t z s cs)->kd[j]?=some (.alo t' z' s' cs')->i≠j->β i≠β j)->d .normal (B4 a0 ops kd vc β) u):
  (Code.region B ops.toArray true).wp P d a0 w:=
 I0 x kd c q a f args o (fun X u A h=>m X u A (fun k l=>⟨(h k l).1,(h k l).2.1⟩)) y p r n
def Je(X:Np):Nat->World->Value->Value->Value->Ly->Prop
 |0,_,_,_,_,_=>False
 |f+1,w,a,b,c,l=>
  (∃n:Nat,a= .string ⟨#[]⟩/\b= .int .i64 n/\c= .slice none 0 0/\l=[⟨[],n,0⟩])\/
  (∃(nm:Lu)(ls:Ll)(xs:Lv),nm≠[]/\a= .string ⟨nm.toArray⟩/\b= .int .i64 0/\l=⟨nm,0,ls.length⟩::ls.flatten/\
   w.ownsRow 0 183 3 c ls.length xs/\(∀k,c.ownBlock=some k->¬X k)/\
   ∀(i:Nat)(l':Ly),ls[i]?=some l'->∃a' b' c',xs[i*3]?=some a'/\xs[i*3+1]?=some b'/\xs[i*3+2]?=some c'/\Je X f w a' b' c' l')
def CH(X:Np)(w:World)(a b c:Value)(l:Ly):Prop:=∃f,Je X f w a b c l
def Eh(X:Np)(w:World)(c:Value)(ls:Ll)(xs:Lv):Prop:=
 w.ownsRow 0 183 3 c ls.length xs/\(∀k,c.ownBlock=some k->¬X k)/\
   ∀(i:Nat)(l':Ly),ls[i]?=some l'->∃a' b' c',xs[i*3]?=some a'/\xs[i*3+1]?=some b'/\xs[i*3+2]?=some c'/\CH X w a' b' c' l'
theorem Je.mono:∀{f g:Nat}{w:World}{a b c:Value}{l:Ly},Je X f w a b c l->f<=g->Je X g w a b c l:=by
 intro f
 induction f with
 |zero=>intro g w a b c l h;exact h.elim
 |succ f x=>
  intro g w a b c l h z
  cases g with
  |zero=>omega
  |succ g=>
   rcases h with h|⟨nm,ls,xs,p,q,r,s,t,u,v⟩
   ·exact Or.inl h
   ·refine Or.inr ⟨nm,ls,xs,p,q,r,s,t,u,fun i y hl=> ?_⟩;obtain⟨d,e,j,k,m,n,o⟩:=v i y hl;exact⟨d,e,j,k,m,n,x o Yo⟩
theorem Je.len:∀{f:Nat}{w:World}{a b c:Value}{l:Ly},Je X f w a b c l->Je X l.length w a b c l:=by
 intro f
 induction f with
 |zero=>intro w a b c l h;exact h.elim
 |succ f v=>
  intro w a b c l h;rcases h with⟨n,d,e,g,rfl⟩|⟨nm,ls,xs,d,e,g,rfl,s,t,u⟩
  ·exact Or.inl ⟨n,d,e,g,rfl⟩
  ·refine Or.inr ⟨nm,ls,xs,d,e,g,rfl,s,t,fun i x hl=> ?_⟩;obtain⟨j,k,m,o,p,q,r⟩:=u i x hl;exact⟨j,k,m,o,p,q,(v r).mono (Bf (Qh hl))⟩
theorem CH.o{a b c:Value}(h:CH X w a b c l):
  (∃n:Nat,a= .string ⟨#[]⟩/\b=Vi n/\c=Nl/\l=[⟨[],n,0⟩])\/
  (∃(nm:Lu)(ls:Ll)(xs:Lv),nm≠[]/\a= .string ⟨nm.toArray⟩/\b=Vi 0/\l=⟨nm,0,ls.length⟩::ls.flatten/\Eh X w c ls xs):=by
 obtain⟨f,h⟩:=h
 cases f with
 |zero=>exact h.elim
 |succ f=>
  rcases h with h|⟨nm,ls,xs,q,r,s,t,u,v,x⟩
  ·exact Or.inl h
  ·refine Or.inr ⟨nm,ls,xs,q,r,s,t,u,v,fun i y hl=> ?_⟩;obtain⟨d,e,g,j,k,m,p⟩:=x i y hl;exact⟨d,e,g,j,k,m,f,p⟩
theorem CH.var(X:Np)(w:World)(n:Nat):CH X w (.string ⟨#[]⟩) (Vi n) Nl (vr n):=⟨1,Or.inl ⟨n,rfl,rfl,rfl,rfl⟩⟩
theorem CH.name{nm:Lu}{c:Value}(hn:nm≠[])(h:Eh X w c ls xs):CH X w (.string ⟨nm.toArray⟩) (Vi 0) c (⟨nm,0,ls.length⟩::ls.flatten):=by
 refine⟨ls.flatten.length+1,Or.inr ⟨nm,ls,xs,hn,rfl,rfl,rfl,h.1,h.2.1,fun i l hl=> ?_⟩⟩;obtain⟨a,b,d,e,g,j,f,k⟩:=h.2.2 i l hl;exact⟨a,b,d,e,g,j,k.len.mono (Bf (Qh hl))⟩
theorem Je.on:∀{f:Nat}{w w':World}{a b c:Value}{l:Ly},Je X f w a b c l->(∀k,k<w.hz->¬X k->CG w k->w'.heap[k]?=w.heap[k]?/\¬Y k)->Je Y f w' a b c l:=by
 intro f
 induction f with
 |zero=>intro w w' a b c l h;exact h.elim
 |succ f z=>
  intro w w' a b c l h g;rcases h with h|⟨nm,ls,xs,t,u,v,x,d,j,y⟩
  ·exact Or.inl h
  ·refine Or.inr ⟨nm,ls,xs,t,u,v,x,Aj d (fun k e=>(g k (d.lt k e).2 (j k e) (Ay d k e)).1),fun k e=>(g k (d.lt k e).2 (j k e) (Ay d k e)).2,fun i A hl=> ?_⟩;obtain⟨m,n,o,p,q,r,s⟩:=y i A hl;exact⟨m,n,o,p,q,r,z s g⟩
theorem CH.on{a b c:Value}(h:CH X w a b c l)(d:∀k,k<w.hz->¬X k->CG w k->w'.heap[k]?=w.heap[k]?/\¬Y k):CH Y w' a b c l:=by
 obtain⟨f,h⟩:=h;exact⟨f,h.on d⟩
theorem Eh.on{c:Value}(h:Eh X w c ls xs)(a:∀k,k<w.hz->¬X k->CG w k->w'.heap[k]?=w.heap[k]?/\¬Y k):Eh Y w' c ls xs:=by
 refine⟨Aj h.1 (fun k e=>(a k (h.1.lt k e).2 (h.2.1 k e) (Ay h.1 k e)).1),fun k e=>(a k (h.1.lt k e).2 (h.2.1 k e) (Ay h.1 k e)).2,fun i n hl=> ?_⟩;obtain⟨b,d,f,g,j,l,m⟩:=h.2.2 i n hl;exact⟨b,d,f,g,j,l,m.on a⟩
theorem Ao.of(h:Ad A4 w w'):Ao w w':=h.below (Qe _) (fun _ e=>e.elim)
theorem CH.ext{a b c:Value}(h:CH X w a b c l)(e:Ao w w')(g:∀k,k<w.hz->Y k->X k):CH Y w' a b c l:=
 h.on (fun k d f _=>⟨e.block k d,fun i=>f (g k d i)⟩)
theorem Eh.ext{c:Value}(h:Eh X w c ls xs)(e:Ao w w')(d:∀k,k<w.hz->Y k->X k):Eh Y w' c ls xs:=
 h.on (fun k a b _=>⟨e.block k a,fun f=>b (d k a f)⟩)
theorem CH.shape{a b c:Value}(h:CH X w a b c l):∃(s:ByteArray)(n:Nat)(ca:Oa)(cl cc:Nat),a= .string s/\b=Vi n/\c= .slice ca cl cc:=by
 rcases h.o with⟨n,rfl,rfl,rfl,_⟩|⟨nm,ls,xs,_,rfl,rfl,_,d⟩
 ·exact⟨_,_,_,_,_,rfl,rfl,rfl⟩
 ·obtain⟨a,e,rfl⟩:=Ac d.1;exact⟨_,0,_,_,_,rfl,rfl,rfl⟩
theorem CH.wf:∀(n:Nat){a b c:Value}{l:Ly},l.length<=n->CH X w a b c l->Wf 1 l:=by
 intro n
 induction n with
 |zero=>
  intro a b c l hl h;rcases h.o with⟨m,_,_,_,rfl⟩|⟨nm,ls,xs,_,_,_,rfl,_⟩<;>simp at hl
 |succ n k=>
  intro a b c l hl h;rcases h.o with⟨m,_,_,_,rfl⟩|⟨nm,ls,xs,f,_,_,rfl,j⟩
  ·exact KJ m
  ·refine⟨Yo,fun e=>absurd e f,fun _=>rfl,?_⟩;have:=CF (ls:=ls) (fun s d=>by
    obtain⟨i,hi,rfl⟩:=Q8 d;obtain⟨p,q,r,_,_,_,g⟩:=j.2.2 i _ (Qb hi);have:=Bf d;simp only[Qf]at hl;exact k Yo g)
   simpa using this
theorem Eh.wf{c:Value}(h:Eh X w c ls xs):∀l∈ls,Wf 1 l:=fun l hl=>by
 obtain⟨i,hi,rfl⟩:=Q8 hl;obtain⟨a,b,d,_,_,_,g⟩:=h.2.2 i _ (Qb hi);exact g.wf _ (Qe _)
theorem G6(h:ls[i]?=some l)(a:∀l∈ls,Wf 1 l):i<ls.length/\ls.drop i=l::ls.drop (i+1)/\l.length<=ls.flatten.length/\ls.length<=ls.flatten.length:=by
 obtain⟨hi,e⟩:=Qa.1 h;refine⟨hi,by rw[QC hi,e],Bf (Qh h),?_⟩;exact BN (CF a)
theorem Ao.undrew{u:World}(h:Ao w.drew u):Ao w u:=⟨h.os,h.tape,h.output,h.size,h.block⟩
theorem Ao.up{u:World}(h:Ao w.drew u){p:Addr}(a:w.cell? p=some v):u.cell? p=some v:=(h.cell (World.block_lt_of_cell? w p a)).trans a
def cellsOf:Value->Av
 | .agg cs=>cs
 |_=>#[]
theorem GP{c d e:Value}(h:w.heap[b]?=some (.cells #[c,d,e] t (0,0)))(x y a:Value):
  (((w.setCell ⟨b,0,none⟩ x).setCell ⟨b,1,none⟩ y).setCell ⟨b,2,none⟩ a).heap[b]?=some (.cells #[x,y,a] t (0,0))/\Ad (fun k=>k=b) w (((w.setCell ⟨b,0,none⟩ x).setCell ⟨b,1,none⟩ y).setCell ⟨b,2,none⟩ a):=
 ⟨Af (Af (Af h 0 x) 1 y) 2 a,(((Ad.refl (only b) w).put 0 x).put 1 y).put 2 a⟩
theorem BB{a c d:Value}(h:w.heap[b]?=some (.cells #[a,c,d] t (0,0))):
  w.cell? ⟨b,0,none⟩=some a/\w.cell? ⟨b,1,none⟩=some c/\w.cell? ⟨b,2,none⟩=some d/\∀i,w.frozen? ⟨b,i,none⟩=false:=
 ⟨Aa h 0 _ rfl,Aa h 1 _ rfl,Aa h 2 _ rfl,fun i=>Ae h i⟩
def RT(Y:Np)(l:Ly):(Nat->Prop)->Value->World->Prop:=fun Z r u=>∃(s:ByteArray)(n:Nat)(ca:Oa)(cl cc:Nat),r= .agg #[.string s,.int .i64 n,.slice ca cl cc]/\CH (fun k=>Y k\/Z k) u (.string s) (.int .i64 n) (.slice ca cl cc) l
theorem CH.plan{d:Np}{u f:World}{a b c:Value}(h:CH (fun k=>Y k\/X k) u a b c l)(g:∀k,k<u.hz->¬X k->f.heap[k]?=u.heap[k]?)(i:∀k,k<u.hz->d k->X k):CH (fun k=>Y k\/d k) f a b c l:=
 h.on (fun k e hn _=>⟨g k e (fun hz=>hn (Or.inr hz)),fun h=>hn (by
  rcases h with h|h
  ·exact Or.inl h
  ·exact Or.inr (i k e h))⟩)
theorem RT.stable:∀X b v u a,RT Y l X v u->(∀k,k<u.hz->¬X k->a.heap[k]?=u.heap[k]?)->u.hz<=a.hz->(∀k,k<u.hz->b k->X k)->RT Y l b v a:=by
 rintro X b v u a ⟨s,n,ca,cl,cc,rfl,h⟩ c _ d;exact⟨s,n,ca,cl,cc,rfl,h.plan c d⟩
theorem RT.of{d:Np}{a b c:Value}{u:World}(h:CH (fun k=>Y k\/d k) u a b c l):RT Y l d (.agg #[a,b,c]) u:=by
 obtain⟨s,n,ca,cl,cc,rfl,rfl,rfl⟩:=h.shape;exact⟨s,n,ca,cl,cc,rfl,h⟩
theorem Mxt{w w':World}(h:Ad A4 w w':=by repeat'(first|with_reducible exact Ad.refl _ _|with_reducible apply Ad.drew|with_reducible apply Ad.drewN|with_reducible apply Ad.alloc|with_reducible refine Ad.setCell ?_ ?_ _|exact fun h=>absurd h (by simp<;>omega))):Ao w w':=Ao.of h
structure OM(Y:Nat->Prop)(w:World)(B:Nat)(cv:Value)(n:Nat)(acc:List (List BL))(xs:List Value):Prop where
 owns:w.ownsRow B 183 3 cv n xs
 len:acc.length=n
 all:∀(i:Nat)(l':List BL),acc[i]?=some l'->∃a b c,xs[i*3]?=some a/\xs[i*3+1]?=some b/\xs[i*3+2]?=some c/\CH (fun k=>Y k\/Ak cv k) w a b c l'
theorem OM.nil(Y:Np)(w:World)(B:Nat):OM Y w B Nl 0 [] []:=⟨Q2 _ _ _ _,rfl,fun i a h=>by simp at h⟩
theorem OM.step{w3 w4:World}{cv':Value}{f:Ll}{a b c:Value}
  (h:OM Y w B cv n f xs) (e:Ao w w1) (m:CH (fun k=>Y k\/Ak cv k) w1 a b c l) (ha:Ar w1 B 183 3 cv (n+1) (xs++[a,b,c]) cv' w3)
  (r:Ad Y w3 w4) (z:∀k,Y k->k<B):OM Y w4 B cv' (n+1) (f++[l]) (xs++[a,b,c])/\Ad (fun k=>Y k\/Ak cv k) w1 w4:=by
 have u:Ad (fun k=>Y k\/Ak cv k) w1 w4:=(ha.kept.mono (fun _ _ e=>Or.inr e)).then r (fun _ _ e=>Or.inl e)
 have p:xs.length=n*3:=h.owns.1;have q:=h.len;have A:∀k,k<w1.hz->Ak cv' k->Ak cv k:=by
  intro k j s;rcases ha.where_ with o|⟨g,o,C⟩
  ·exact o.symm.trans s
  ·have:some g=some k:=o.symm.trans s;simp at this C;omega
 have t:∀{a b c:Value}{l:Ly},CH (fun k=>Y k\/Ak cv k) w1 a b c l->CH (fun k=>Y k\/Ak cv' k) w4 a b c l:=fun m=>
  m.on (fun k j hn _=>⟨u.block k j hn,fun d=>hn (by
   rcases d with d|d
   ·exact Or.inl d
   ·exact Or.inr (A k j d))⟩)
 refine⟨⟨?_,by simp[q],?_⟩,u⟩
 ·exact r.owns ha.owns (fun k j d=>by
   have I:=(ha.owns.lt k j).1;have J:=z k d;omega)
 ·intro i E hl;rcases QB i f.length with hi|hi
  ·rw[Qc hi]at hl;obtain⟨v,x,y,F,G,H,g⟩:=h.all i E hl;refine⟨v,x,y,?_,?_,?_,t (g.ext e (fun k _ h=>h))⟩
   ·rw[Qc Yo];exact F
   ·rw[Qc Yo];exact G
   ·rw[Qc Yo];exact H
  ·have D:i=f.length:=by
    have:i<(f++[l]).length:=(Qa.1 hl).1;simp at this;omega
   subst D;simp at hl;subst hl;rw[q];refine⟨a,b,c,?_,?_,?_,t m⟩
   ·rw[Qd Yo,p];simp
   ·rw[Qd Yo,p];simp
   ·rw[Qd Yo,p];simp
theorem OM.row{c:Ll}(h:OM Y w B cv n c xs)(f:Ad Y w w')(d:∀k,X k->Y k)(p:∀k,Y k->k<B):Eh X w' cv c xs:=by
 have j:∀k,cv.ownBlock=some k->¬Y k:=fun k e b=>by
  have v:=(h.owns.lt k e).1;have x:=p k b;omega
 refine⟨h.len▸AI (f.owns h.owns j) (Qm _),fun k e a=>j k e (d k a),fun i r hl=> ?_⟩;obtain⟨l,m,o,s,t,u,g⟩:=h.all i r hl;exact⟨l,m,o,s,t,u,g.on (fun k q hn _=>⟨f.block k q (fun b=>hn (Or.inl b)),fun a=>hn (Or.inl (d k a))⟩)⟩
theorem Ar.under{w3:World}{d:Value}(h:Ar w1 B e size v n xs d w3)(b:Ao w w1){N:Nat}(c:∀j,Ak v j->N<=j)(a:N<=w.hz)(i:Nat)(u:Value):
  Below N w (w3.setCell ⟨N,i,none⟩ u):=
 (b.mono a).trans (Ad.below (S:=fun j=>N<=j) ((h.kept.mono (fun j _ e=>c j e)).setCell (p:=⟨N,i,none⟩) (fun _=>Qe _) u) (Qq a b.size) (fun _ h=>h))
abbrev A9(X:Nat->Prop)(B n:Nat):Nat->Prop:=fun k=>X k\/(B<=k/\k<B+n)
theorem Dd(a:∀k,X k->k<w.hz)(k:Nat)(h:A9 X w.hz n k):k<w.hz+n:=by
 rcases h with h|h
 ·have:=a k h;omega
 ·omega
theorem MJ{a:Np}{m:Nat}{b:Ll}(ha:OM Y wr (w.hz+n) cv m b xs)(hz:∀k,a k->wr.hz<=k)(d:w.hz<=wr.hz)(k:Nat)(c:k<w.hz)(h:(A9 X w.hz n k\/Ak cv k)\/a k):X k:=by
 rcases h with((h|h)|h)|h
 ·exact h
 ·omega
 ·have:=(ha.owns.lt k h).1;omega
 ·have:=hz k h;omega
theorem Lp{m:Nat}{a:Ll}(ha:OM Y wr (w.hz+n) cv m a xs)(b:∀k,X k->k<w.hz)(c:w.hz+n<=wr.hz)(k:Nat)(h:A9 X w.hz n k\/Ak cv k):k<wr.hz:=by
 rcases h with(h|h)|h
 ·have:=b k h;omega
 ·omega
 ·exact(ha.owns.lt k h).2
def Tf(n:Nat):Prop:=∀(w:World)(X:Np)(a b c:Value)(l:Ly)(v:Nat)(ta tb tc:Value)(m:Ly),l.length<=n->CH X w a b c l->CH X w ta tb tc m->(∀k,X k->k<w.heap.size)->(ap (Bv v m) l).length<=4000->
 Calls prog 204 #[.agg #[a,b,c],.agg #[.int .i64 v,ta,tb,tc]] w fun e w'=>∃a' b' c',e= .returned (.agg #[a',b',c'])/\Ao w w'/\CH X w' a' b' c' (ap (Bv v m) l)
theorem WF(w:World)(X:Np)(n v:Nat)(ta tb g:Value)(m:Ly)(a:CH X w ta tb g m):
  Calls prog 204 #[.agg #[.string ⟨#[]⟩,Vi n,Nl],.agg #[Vi v,ta,tb,g]] w fun e w'=>∃b c d,e= .returned (.agg #[b,c,d])/\Ao w w'/\CH X w' b c d (Bv v m n):=by
 obtain⟨r,q,j,l,k,rfl,rfl,rfl⟩:=a.shape;have i:=hd a;clear a
 by_cases f:n=v
 ·have p:((n:Int)==(v:Int))=true:=by rw[beq_iff_eq];omega
  have e:Bv v m n=m:=by unfold Bv;rw[if_pos f]
  rw[e];go_enter func204,ntmps204;go_wp2;refine bodyPost_ret (v:= .agg #[.string r,Vi q,.slice j l k]) (by simp[results,results204,go_sem]) rfl ?_;exact⟨_,_,_,rfl,Mxt,i.o.ext (Mxt) (fun _ _ h=>h)⟩
 ·have p:((n:Int)==(v:Int))=false:=by rw[Qu];omega
  have e:Bv v m n=vr n:=by unfold Bv;rw[if_neg f]
  rw[e];go_enter func204,ntmps204;go_wp2;refine bodyPost_ret (v:= .agg #[.string ⟨#[]⟩,Vi n,Nl]) (by simp[results,results204,go_sem]) rfl ?_;exact⟨_,_,_,rfl,Mxt,CH.var _ _ _⟩
theorem Wr(n:Nat)(aw:Tf n)(w:World)(X:Np)(nm:Lu)(bc:nm≠[])(c:Value)(ls:Ll)(xs:Lv)(v:Nat)(ta tb bi:Value)(m:Ly)
  (Q:Eh X w c ls xs) (P:CH X w ta tb bi m) (a3:∀k,X k->k<w.hz) (hn:ls.flatten.length<=n) (ct:(ap (Bv v m) ls.flatten).length<=3999):
  Calls prog 204 #[.agg #[.string ⟨nm.toArray⟩,Vi 0,c],.agg #[Vi v,ta,tb,bi]] w fun e w'=>∃V W Z,e= .returned (.agg #[V,W,Z])/\Ao w w'/\CH X w' V W Z (⟨nm,0,ls.length⟩::ap (Bv v m) ls.flatten):=by
 obtain⟨S,R,H,J,I,rfl,rfl,rfl⟩:=P.shape;obtain⟨ca,a2,rfl⟩:=Ac Q.1;have bf:=Q.wf;have b7:=P.wf _ (Qe _);have c0:ls.length<=ls.flatten.length:=BN (CF bf);have cq:=Fe (Tn (v:=v) b7) ls.flatten;have B:nm.isEmpty=false:=by simpa using bc
 have bs:=hd P;have av:=hd Q;have br:=hd aw;have T:=hd a3;clear P Q aw a3;go_enter func204,c2;go_wp2
 go_loopg [6] (ls.length+1) (fun gk i wr=>∃(k:Nat)(ad:Value)(ao:Lv),i=Vi k/\k<=ls.length/\ls.length-k<gk/\Ao w wr/\
   wr.heap[w.hz]?=some (.cells #[.string ⟨nm.toArray⟩,Vi 0,.slice ca ls.length a2] 183 (0,0))/\
   wr.heap[w.hz+1]?=some (.cells #[Vi v,.string S,Vi R,.slice H J I] 300 (0,0))/\
   wr.heap[w.hz+1+1]?=some (.cells #[.string ⟨#[]⟩,Vi 0,Nl] 183 (0,0))/\
   wr.heap[w.hz+1+1+1]?=some (.cells #[.string ⟨nm.toArray⟩,Vi 0,ad] 183 (0,0))/\
   OM (A9 X w.hz 4) wr (w.hz+4) ad k ((ls.take k).map (ap (Bv v m))) ao)
 case atStart=>
  refine⟨0,Nl,[],Yg,Qm _,Yo,Mxt,?_,?_,?_,?_,by simpa using OM.nil _ _ _⟩
  ·exact Ah (Ah (Ah (QL w _) _) _) _
  ·simpa using Ah (Ah (QL (w.alloc _) _) _) _
  ·simpa using Ah (QL ((w.alloc _).alloc _) _) _
  ·simpa using QL (((w.alloc _).alloc _).alloc _) _
 case round=>
  obtain⟨k,ad,ao,rfl,a9,cw,a7,h0,x,K,ae,ag⟩:=hrel;obtain⟨l,q,rfl⟩:=Ac ag.owns;have b6:=Ab ae;obtain⟨ci,cj,bv,cf⟩:=BB h0;have bw:wr.cell? ⟨w.hz+1,0,none⟩=some (Vi v):=Aa x 0 _ rfl;have bx:wr.cell? ⟨w.hz+1,1,none⟩=some (.string S):=Aa x 1 _ rfl;have bz:wr.cell? ⟨w.hz+1,2,none⟩=some (Vi R):=Aa x 2 _ rfl;have b0:wr.cell? ⟨w.hz+1,3,none⟩=some (.slice H J I):=Aa x 3 _ rfl;have y:=hd a7;have bm:=hd h0;have bn:=hd x;have aq:=hd K;have F:=hd ae;have A:=hd ag;clear a7 h0 x K ae ag
  by_cases bb:k<ls.length
  ·obtain⟨f,C⟩:∃f,ls[k]?=some f:=⟨_,Qb bb⟩;obtain⟨_,_,cz,_⟩:=G6 C bf;obtain⟨V,W,Z,bj,bk,bl,ai⟩:=av.o.2.2 k f C;obtain⟨am,aj,aa,ac,ab,rfl,rfl,rfl⟩:=ai.shape;have E:=av.o.ext (Y:=X) y.o (fun _ _ h=>h);obtain⟨g,ck,cl,a8,cp,b4,cv⟩:=An E.1 Yo;simp only[QH]at a8;obtain⟨rfl,_,rfl⟩:=a8;have ce:wr.cell? ⟨g,k*3,none⟩=some (.string am):=Ag E.1 _ _ bj;have cg:wr.cell? ⟨g,k*3+1,none⟩=some (Vi aj):=Ag E.1 _ _ bk;have ch:wr.cell? ⟨g,k*3+2,none⟩=some (.slice aa ac ab):=Ag E.1 _ _ bl;have b2:(ap (Bv v m) f).length<=4000:=by
    have x:ap (Bv v m) f∈ls.map (ap (Bv v m)):=Q0.2 ⟨f,Qh C,rfl⟩;have K:=Bf x;rw[<-EK]at K;omega
   have bp:Hd (∀G u,Ao wr.drew u->(∀k,G k->wr.hz<=k/\k<u.hz)->Calls prog 204 #[.agg #[.string am,Vi aj,.slice aa ac ab],.agg #[Vi v,.string S,Vi R,.slice H J I]] u fun e an=>
     ∃r,e= .returned r/\Ao u an/\RT (fun j=>A9 X w.hz 4 j\/Ak (.slice l k q) j) (ap (Bv v m) f) G r an):=fun G u d a4=>by
    have bg:Ao w u:=y.o.trans (d.undrew.mono y.o.size);have hz:=MJ (X:=X) A.o (fun k h=>(a4 k h).1) y.o.size;refine(br.o u _ _ _ _ f v _ _ _ m Yo (ai.ext bg hz) (bs.o.ext bg hz) ?_ b2).mono ?_
    ·rintro j (h|h)
     ·exact Nat.lt_of_lt_of_le (Lp A.o T.o Yo j h) d.size
     ·exact(a4 j h).2
    ·rintro e an ⟨a,b,c,rfl,B,D⟩;exact⟨_,rfl,B,RT.of D⟩
   have bu:Hd ((ls.take (k+1)).map (ap (Bv v m))=(ls.take k).map (ap (Bv v m))++[ap (Bv v m) f]):=by
    show _=_;rw[List.take_add_one,C];simp
   clear b4 E ai bj bk bl C;go_wp2_with fail;refine DM Yk [.pur (.pointer (some ⟨w.hz,2,none⟩)),.pur (.slice (some ⟨g,0,none⟩) ls.length a2),.pur (Vi k),.pur (.pointer (some ⟨g,k*3,none⟩)),
    .pur (.agg #[.string am,Vi aj,.slice aa ac ab]),.pur (.agg #[Vi v,.string S,Vi R,.slice H J I]),.cal,.alo 183 #[.string ⟨#[]⟩,Vi 0,Nl] 8 cellsOf,.sto 7] 6 Yk
    (RT (fun j=>A9 X w.hz 4 j\/Ak (.slice l k q) j) (ap (Bv v m) f)) 204 _ RT.stable bp.o ?_ rfl Yd ?_
   ·refine⟨fun vc β u d=> ?_,fun vc β u d=> ?_,fun vc β u d=> ?_,fun vc β u d=> ?_,fun vc β u d=> ?_,fun vc β u d=> ?_,fun vc β u=> ?_,fun vc β u=> ?_,?_,trivial⟩
    all_goals try simp[pa,Kd.val,go_sem,d.up bv,d.up ce,d.up cg,d.up ch,d.up bw,d.up bx,d.up bz,d.up b0,bb]
    all_goals try simp[pa,Kd.val,go_sem]
    rintro vc β G u t c5 s cs B ⟨s2,bh,ax,az,ay,rfl,D⟩ hb;simp at B;obtain⟨rfl,rfl,rfl,rfl⟩:=B;obtain⟨q0,ak,al,b8⟩:=BB hb;refine⟨_,?_,GP hb (.string s2) (Vi bh) (.slice ax az ay)⟩;simp[pa,Kd.val,go_sem,q0,ak,al,b8]
   rintro vc β w1 z ⟨s2,bh,ax,az,ay,rfl,be⟩ a6 _;have z:=z.undrew;have af:=(z.block _ b6).trans F.o;have bd:=(Ad.of_below z).owns A.o.owns (fun k a9 e=>by have:=(A.o.owns.lt k a9).2;omega);have b1:w1.cell? ⟨w.hz+1+1+1,2,none⟩=some (.slice l k q):=Aa af 2 _ rfl;obtain⟨cr,ah⟩:=a6 7 _ _ _ _ rfl;obtain⟨q0,ak,al,_⟩:=BB ah;have c1:=z.size;have cu:=Ab ah;have U:=hd bd;have au:=hd z;have bt:=hd be;have bo:=hd af;clear bd z be af a6 ah;simp only[B4,pa,Kd.val,if_true,Act.put]
   go_wp2_with (at_builtin;refine Am _ rfl (.tmp 37) (.tmp 39) 146 rfl (w.hz+4) 183 infoTerm underlying146 rfl Yd _ k ao rfl U.o _ rfl rfl rfl Gw ?_ ?_ ?_)
   ·omega
   ·omega
   intro cv' w3 L;obtain⟨a0,a1,rfl⟩:=Ac L.owns;have b5:¬Ak (.slice l k q) (w.hz+1+1+1):=fun e=>by have:=(U.o.lt _ e).1;omega
   have M:=(L.kept.block _ Yo b5).trans bo.o;have c3:w3.cell? ⟨w.hz+1+1+1,2,none⟩=some (.slice l k q):=Aa M 2 _ rfl;have c4:∀i,w3.frozen? ⟨w.hz+1+1+1,i,none⟩=false:=fun i=>Ae M i;have bq:=hd M;have ar:=hd L;clear M L b1 q0 ak al;go_wp2
   go_roundg (ls.length-k)
   case measure=>omega
   case rel=>
    obtain⟨a5,cy⟩:=A.o.step (w4:=w3.setCell ⟨w.hz+1+1+1,2,none⟩ (.slice a0 (k+1) a1)) au.o (bt.o.on (fun j cx hn _=>⟨rfl,fun h=>hn (Or.inl h)⟩)) ar.o
     (Ad.setCell (Ad.refl _ w3) (p:=⟨w.hz+1+1+1,2,none⟩) (fun _=>Or.inr (by simp only;omega)) _) (Dd T.o)
    rw[<-bu.o]at a5;have O:=ar.o.under (N:=w.hz+1+1+1) au.o (fun j e=>by have:=(U.o.lt j e).1;omega) Yo 2 (.slice a0 (k+1) a1);exact⟨k+1,_,_,Yg,Yo,Yo,y.o.trans (O.mono Yo),(O.block _ Yo).trans bm.o,(O.block _ Yo).trans bn.o,(O.block _ Yo).trans aq.o,Af bq.o 2 _,a5⟩
  ·have cm:wr.cell? ⟨w.hz+1+1+1,0,none⟩=some (.string ⟨nm.toArray⟩):=Aa F.o 0 _ rfl;have cn:wr.cell? ⟨w.hz+1+1+1,1,none⟩=some (Vi 0):=Aa F.o 1 _ rfl;have co:wr.cell? ⟨w.hz+1+1+1,2,none⟩=some (.slice l k q):=Aa F.o 2 _ rfl;obtain⟨b9,cb,cc,cd⟩:=BB aq.o;go_wp2;refine bodyPost_ret (v:= .agg #[.string ⟨nm.toArray⟩,Vi 0,.slice l k q]) (by simp[results,results204,go_sem,b9,cb,cc,cd]) rfl ?_;have b3:k=ls.length:=Yo
   subst b3;have ba:=(((Ad.refl (only (w.hz+1+1)) wr).put 0 (.string ⟨nm.toArray⟩)).put 1 (Vi 0)).put 2 (.slice l ls.length q);refine⟨_,_,_,rfl,y.o.trans (ba.below y.o.size (fun j e=>by have e:j=w.hz+1+1:=e;omega)),?_⟩;have D:=A.o.row (X:=X) (ba.mono (fun j _ e=>Or.inr (by have e:j=w.hz+1+1:=e;omega))) (fun j h=>Or.inl h) (Dd T.o);rw[List.take_length]at D;have:=CH.name bc D;rw[<-EK]at this;simpa using this
theorem Jm:∀n,Tf n:=by
 intro n
 induction n with
 |zero=>
  intro w X a b c l v ta tb d m hl h;have:=BN (h.wf _ (Qe _));omega
 |succ n q=>
  intro w X a b c l v ta tb d m hl h i p g;rcases h.o with⟨k,rfl,rfl,rfl,rfl⟩|⟨nm,ls,xs,f,rfl,rfl,rfl,j⟩
  ·have e:ap (Bv v m) [⟨[],k,0⟩]=Bv v m k:=IT _ _;rw[e];exact WF w X k v ta tb d m i
  ·have e:ap (Bv v m) (⟨nm,0,ls.length⟩::ls.flatten)=⟨nm,0,ls.length⟩::ap (Bv v m) ls.flatten:=by rw[Bw];simp[EG,f]
   rw[e]at g⊢;simp only[Qf]at hl g;exact Wr n q w X nm f c ls xs v ta tb d m j i p Yo Yo
def OZ(n:Nat):Prop:=∀(w:World)(X:Np)(a b c:Value)(l:Ly),l.length<=n->l.length<=4000->CH X w a b c l->
 Calls prog 205 #[.agg #[a,b,c]] w fun e w'=>e= .returned (.int .i64 l.length)/\Ao w w'
theorem P8(n:Nat)(t:OZ n)(w:World)(X:Np)(F:ByteArray)(nv:Int)(c:Value)(ls:Ll)(xs:Lv)(j:Eh X w c ls xs)(hn:ls.flatten.length<=n)(hl:ls.flatten.length<=3999):
  Calls prog 205 #[.agg #[.string F,Vi nv,c]] w fun e w'=>e= .returned (Vi ((ls.flatten.length+1:Nat):Int))/\Ao w w':=by
 obtain⟨ca,O,rfl⟩:=Ac j.1;have C:=j.wf;have ai:ls.length<=ls.flatten.length:=BN (CF C);have s:=hd j;have M:=hd t;clear j t;go_enter func205,ak;go_wp2
 go_loopg [3,4] (ls.length+1) (fun gk m i wr=>∃(k q:Nat),i=Vi k/\m=Vi ((q+1:Nat):Int)/\q=(ls.take k).flatten.length/\k<=ls.length/\ls.length-k<gk/\Ao w wr/\
   wr.heap[w.hz]?=some (.cells #[.string F,Vi nv,.slice ca ls.length O] 183 (0,0)))
 case atStart=>exact⟨0,0,Yg,Yg,Ys,Qm _,Yo,Mxt,QL w _⟩
 case round=>
  obtain⟨k,q,rfl,rfl,B,ag,af,y,h0⟩:=hrel;obtain⟨W,Z,aa,cf⟩:=BB h0;have b:=hd y;have J:=hd h0;have S:=Ab h0;clear y h0;have aj:q<=ls.flatten.length:=by
   have h:=congrArg List.length (congrArg List.flatten (List.take_append_drop k ls));simp only[List.flatten_append,Qg]at h;omega
  have r:=hd B;clear B
  by_cases R:k<ls.length
  ·obtain⟨a,f⟩:∃a,ls[k]?=some a:=⟨_,Qb R⟩;obtain⟨_,_,ah,_⟩:=G6 f C;obtain⟨T,U,V,G,H,I,l⟩:=s.o.2.2 k a f;obtain⟨E,D,u,x,v,rfl,rfl,rfl⟩:=l.shape;have d:=s.o.ext (Y:=X) b.o (fun _ _ h=>h);obtain⟨g,ab,ac,A,ad,Q,ae⟩:=An d.1 Yo;simp only[QH]at A;obtain⟨rfl,_,rfl⟩:=A;have al:wr.cell? ⟨g,k*3,none⟩=some (.string E):=Ag d.1 _ _ G;have am:wr.cell? ⟨g,k*3+1,none⟩=some (Vi D):=Ag d.1 _ _ H;have an:wr.cell? ⟨g,k*3+2,none⟩=some (.slice u x v):=Ag d.1 _ _ I;have K:=hd (M.o wr X (.string E) (Vi D) (.slice u x v) a Yo Yo (l.ext b.o (fun _ _ h=>h)));have N:Hd (q+a.length=(ls.take (k+1)).flatten.length):=by
    show _=_;rw[List.take_add_one,f,r.o];simp
   clear Q d l G H I f;go_wp2_with fail;apply K.o.mono;rintro e w1 ⟨rfl,z⟩;have p:=hd z;clear z;go_wp2
   go_roundg (ls.length-k)
   case measure=>omega
   case rel=>exact⟨k+1,q+a.length,Yg,Yg,N.o,Yo,Yo,b.o.trans (p.o.mono b.o.size),(p.o.block _ S).trans J.o⟩
  ·have P:k=ls.length:=Yo
   subst P;have L:Hd (q=ls.flatten.length):=by have:=r.o;rw[List.take_length]at this;exact this
   go_wp2;go_ret;exact⟨by rw[<-L.o];rfl,b.o⟩
theorem GJ:∀n,OZ n:=by
 intro n
 induction n with
 |zero=>
  intro w X a b c l hl _ h;have:=BN (h.wf _ (Qe _));omega
 |succ n d=>
  intro w X a b c l hl g h;rcases h.o with⟨k,rfl,rfl,rfl,rfl⟩|⟨nm,ls,xs,j,rfl,rfl,rfl,f⟩
  ·exact P8 n d w X _ _ Nl [] [] ⟨Q2 _ _ _ _,fun k e=>by simp[Value.ownBlock]at e,fun i m h=>by simp at h⟩ Ys Ys
  ·simp only[Qf]at hl g⊢;exact P8 n d w X _ _ c ls xs f Yo Yo
def LC(n:Nat):Prop:=∀(w:World)(X:Np)(a b c:Value)(l:Ly)(v:Nat),l.length<=n->l.length<=4000->CH X w a b c l->
 Calls prog 203 #[.int .i64 v,.agg #[a,b,c]] w fun e w'=>∃r:Bool,e= .returned (.bool r)/\Ao w w'/\(r=true↔Cj v l)
theorem R0(w:World)(n v:Nat):
  Calls prog 203 #[Vi v,.agg #[.string ⟨#[]⟩,Vi n,Nl]] w fun e w'=>∃r:Bool,e= .returned (.bool r)/\Ao w w'/\(r=true↔Cj v (vr n)):=by
 by_cases a:n=v
 ·have b:((n:Int)==(v:Int))=true:=by rw[beq_iff_eq];omega
  go_enter func203,ntmps203;go_wp2;go_ret;exact⟨_,rfl,Mxt,by simp[Ez,a]⟩
 ·have b:((n:Int)==(v:Int))=false:=by rw[Qu];omega
  go_enter func203,ntmps203;go_wp2;go_ret;exact⟨_,rfl,Mxt,by simp[Ez];omega⟩
theorem RR(n:Nat)(x:LC n)(w:World)(X:Np)(nm:Lu)(aa:nm≠[])(c:Value)(ls:Ll)(xs:Lv)(v:Nat)(j:Eh X w c ls xs)(hn:ls.flatten.length<=n)(hl:ls.flatten.length<=3999):
  Calls prog 203 #[Vi v,.agg #[.string ⟨nm.toArray⟩,Vi 0,c]] w fun e w'=>∃r:Bool,e= .returned (.bool r)/\Ao w w'/\(r=true↔Cj v ls.flatten):=by
 obtain⟨ca,S,rfl⟩:=Ac j.1;have G:=j.wf;have aq:ls.length<=ls.flatten.length:=BN (CF G);have am:nm.isEmpty=false:=by simpa using aa
 have u:=hd j;have P:=hd x;clear j x;go_enter func203,ar;go_wp2
 go_loopg [5] (ls.length+1) (fun gk i wr=>∃(k:Nat),i=Vi k/\k<=ls.length/\ls.length-k<gk/\Ao w wr/\¬Cj v (ls.take k).flatten/\
   wr.heap[w.hz]?=some (.cells #[.string ⟨nm.toArray⟩,Vi 0,.slice ca ls.length S] 183 (0,0)))
 case atStart=>exact⟨0,Yg,Qm _,Yo,Mxt,by rintro⟨s,h,_⟩;simp at h,QL w _⟩
 case round=>
  obtain⟨k,rfl,ao,an,B,E,h0⟩:=hrel;obtain⟨af,ag,ah,cf⟩:=BB h0;have a:=hd B;have M:=hd h0;have q:=hd E;have ab:=Ab h0;clear B h0 E
  by_cases Z:k<ls.length
  ·obtain⟨b,d⟩:∃b,ls[k]?=some b:=⟨_,Qb Z⟩;obtain⟨_,_,ap,_⟩:=G6 d G;obtain⟨ac,ad,ae,J,K,L,p⟩:=u.o.2.2 k b d;obtain⟨I,H,y,A,z,rfl,rfl,rfl⟩:=p.shape;have f:=u.o.ext (Y:=X) a.o (fun _ _ h=>h);obtain⟨g,ai,aj,D,ak,W,al⟩:=An f.1 Yo;simp only[QH]at D;obtain⟨rfl,_,rfl⟩:=D;have au:wr.cell? ⟨g,k*3,none⟩=some (.string I):=Ag f.1 _ _ J;have av:wr.cell? ⟨g,k*3+1,none⟩=some (Vi H):=Ag f.1 _ _ K;have aw:wr.cell? ⟨g,k*3+2,none⟩=some (.slice y A z):=Ag f.1 _ _ L;have N:=hd (P.o wr X (.string I) (Vi H) (.slice y A z) b v Yo Yo (p.ext a.o (fun _ _ h=>h)));have Q:Hd (Cj v b->Cj v ls.flatten):=fun⟨s,T,U⟩=>⟨s,List.mem_flatten.2 ⟨b,Qh d,T⟩,U⟩;have R:Hd (¬Cj v b->¬Cj v (ls.take (k+1)).flatten):=fun h=>by
    rw[List.take_add_one,d];simp only[Option.toList_some,List.flatten_append,Q4,List.flatten_nil,Qs,Ca];rintro(m|m)
    ·exact q.o m
    ·exact h m
   clear W f p J K L d;go_wp2_with fail;apply N.o.mono;rintro e w1 ⟨r,rfl,C,F⟩;have l:=hd C;have t:=hd F;clear C F
   cases r
   ·go_wp2
    go_roundg (ls.length-k)
    case measure=>omega
    case rel=>exact⟨k+1,Yg,Yo,Yo,a.o.trans (l.o.mono a.o.size),R.o (fun h=>by simpa using t.o.2 h),(l.o.block _ ab).trans M.o⟩
   ·go_wp2;go_ret;exact⟨_,rfl,a.o.trans (l.o.mono a.o.size),by simp only[true_iff];exact Q.o (t.o.1 trivial)⟩
  ·have V:k=ls.length:=Yo
   subst V;have O:Hd (¬Cj v ls.flatten):=by have:=q.o;rw[List.take_length]at this;exact this
   go_wp2;go_ret;exact⟨_,rfl,a.o,by simp only[Bool.false_eq_true,false_iff];exact O.o⟩
theorem L6:∀n,LC n:=by
 intro n
 induction n with
 |zero=>
  intro w X a b c l v hl _ h;have:=BN (h.wf _ (Qe _));omega
 |succ n p=>
  intro w X a b c l v hl j h;rcases h.o with⟨k,rfl,rfl,rfl,rfl⟩|⟨nm,ls,xs,f,rfl,rfl,rfl,g⟩
  ·exact R0 w k v
  ·simp only[Qf]at hl j;apply(RR n p w X nm f c ls xs v g Yo Yo).mono;rintro e w' ⟨r,rfl,i,m⟩;refine⟨r,rfl,i,m.trans ?_⟩;constructor
   ·rintro⟨s,h,d⟩;exact⟨s,QD _ h,d⟩
   ·rintro⟨s,h,d⟩;rcases Qp.1 h with rfl|h
    ·exact absurd d.1 f
    ·exact⟨s,h,d⟩
def RD(X:Np)(l m:Ly):(Nat->Prop)->Value->World->Prop:=fun Z r u=>∃(s:ByteArray)(n:Nat)(ca:Oa)(cl cc:Nat)(s':ByteArray)(n':Nat)(ca':Oa)(cl' cc':Nat)(q:Bool),
 r= .tuple #[.agg #[.string s,.int .i64 n,.slice ca cl cc],.agg #[.string s',.int .i64 n',.slice ca' cl' cc'],.bool q]/\(q=false->l=m)/\
 (q=true->∃x y,CH (fun k=>X k\/Z k) u (.string s) (.int .i64 n) (.slice ca cl cc) x/\CH (fun k=>X k\/Z k) u (.string s') (.int .i64 n') (.slice ca' cl' cc') y/\DY l m x y)
theorem RD.stable{m:Ly}:∀X b v u a,RD Y l m X v u->(∀k,k<u.hz->¬X k->a.heap[k]?=u.heap[k]?)->u.hz<=a.hz->(∀k,k<u.hz->b k->X k)->RD Y l m b v a:=by
 rintro X b v u a ⟨s,n,ca,cl,cc,w,t,e,g,f,q,rfl,h,i⟩ c _ d;refine⟨s,n,ca,cl,cc,w,t,e,g,f,q,rfl,h,fun r=> ?_⟩;obtain⟨x,y,j,o,p⟩:=i r;exact⟨x,y,j.plan c d,o.plan c d,p⟩
def KP(n:Nat):Prop:=∀(w:World)(X:Np)(a b c a' b' c':Value)(l m:Ly),l.length<=n->l.length<=4000->m.length<=4000->CH X w a b c l->CH X w a' b' c' m->(∀k,X k->k<w.heap.size)->
 Calls prog 202 #[.agg #[a,b,c],.agg #[a',b',c']] w fun e w'=>∃r,e= .returned r/\Ao w w'/\RD X l m (fun _=>False) r w'
theorem GB{m:Ly}(a:Wf 1 l)(b:Wf 1 m)(h:l.head?≠m.head?):DY l m l m:=⟨⟨[],[],[],Ys,Ys⟩,a,b,h⟩
theorem FJ(w:World)(X:Np)(s a:ByteArray)(n c:Nat)(ca d:Oa)(cl b cc f:Nat)(l m:Ly)(q:CH X w (.string s) (Vi n) (.slice ca cl cc) l)(t:CH X w (.string a) (Vi c) (.slice d b f) m)
  (u:DY l m l m) (y:(¬s.toList=a.toList)\/(s.toList=a.toList/\¬(cl:Int)=b)\/(s.toList=a.toList/\(cl:Int)=b/\a.toList=[]/\((n:Int) !=(c:Int))=true)):
  Calls prog 202 #[.agg #[.string s,Vi n,.slice ca cl cc],.agg #[.string a,Vi c,.slice d b f]] w fun e w'=>∃r,e= .returned r/\Ao w w'/\RD X l m (fun _=>False) r w':=by
 have g:=hd q;have i:=hd t;have j:=hd u;clear q t u;rcases y with p|⟨p,x⟩|⟨p,x,z,A⟩
 ·go_enter func202,ntmps202;go_wp2;go_region;go_wp2;refine bodyPost_ret (v:= .tuple #[.agg #[.string s,Vi n,.slice ca cl cc],.agg #[.string a,Vi c,.slice d b f],.bool true]) (by simp[results,results202,go_sem]) rfl ?_;refine⟨_,rfl,Mxt,s,n,ca,cl,cc,a,c,d,b,f,true,rfl,Ys,fun _=>⟨l,m,g.o.ext Mxt (fun k _ h=>by simpa using h),i.o.ext Mxt (fun k _ h=>by simpa using h),j.o⟩⟩
 ·go_enter func202,ntmps202;go_wp2;go_region;go_wp2;refine bodyPost_ret (v:= .tuple #[.agg #[.string s,Vi n,.slice ca cl cc],.agg #[.string a,Vi c,.slice d b f],.bool true]) (by simp[results,results202,go_sem]) rfl ?_;refine⟨_,rfl,Mxt,s,n,ca,cl,cc,a,c,d,b,f,true,rfl,Ys,fun _=>⟨l,m,g.o.ext Mxt (fun k _ h=>by simpa using h),i.o.ext Mxt (fun k _ h=>by simpa using h),j.o⟩⟩
 ·go_enter func202,ntmps202;go_wp2;go_region;go_wp2;refine bodyPost_ret (v:= .tuple #[.agg #[.string s,Vi n,.slice ca cl cc],.agg #[.string a,Vi c,.slice d b f],.bool true]) (by simp[results,results202,go_sem]) rfl ?_;refine⟨_,rfl,Mxt,s,n,ca,cl,cc,a,c,d,b,f,true,rfl,Ys,fun _=>⟨l,m,g.o.ext Mxt (fun k _ h=>by simpa using h),i.o.ext Mxt (fun k _ h=>by simpa using h),j.o⟩⟩
theorem DA(l:Lu):(⟨l.toArray⟩:ByteArray).toList=l:=Ys
def A7(i:Nat):Value->Value
 | .tuple xs=>xs.getD i undef
 |_=>undef
theorem CH.boxes{d:Np}{a b c:Value}(h:CH (fun k=>A9 X B n k\/d k) w a b c l)(f:Ad (fun k=>B<=k/\k<B+n) w w'):CH (fun k=>X k\/False) w' a b c l:=
 h.on (fun k g hn _=>⟨f.block k g (fun e=>hn (Or.inl (Or.inr e))),fun i=>hn (Or.inl (Or.inl (by simpa using i)))⟩)
theorem DY.under{m x y:Ly}(h:DY l m x y)(p a b:Ly):DY (p++l++a) (p++m++b) x y:=by
 obtain⟨q,e,f,c,d⟩:=h.ex;refine⟨⟨p++q,e++a,f++b,?_,?_⟩,h.wx,h.wy,h.ne⟩
 ·rw[c];simp
 ·rw[d];simp
theorem R8(n:Nat)(ay:KP n)(w:World)(X:Np)(s d:ByteArray)(nv R:Nat)(c M:Value)(ls b:Ll)(xs df:Lv)(hd:BL)(C:Eh X w c ls xs)(m:Eh X w M b df)(a8:∀k,X k->k<w.hz)
  (ai:ls.length=b.length) (hn:ls.flatten.length<=n) (hl:ls.flatten.length<=3999) (dz:b.flatten.length<=3999) (dh:s.toList=d.toList) (dj:¬d.toList=[]):
  Calls prog 202 #[.agg #[.string s,Vi nv,c],.agg #[.string d,Vi R,M]] w fun e w'=>∃r,e= .returned r/\Ao w w'/\RD X (hd::ls.flatten) (hd::b.flatten) (fun _=>False) r w':=by
 obtain⟨ca,N,rfl⟩:=Ac C.1;obtain⟨l,O,rfl⟩:=Ac m.1;rw[<-ai]at m⊢;have bl:=C.wf;have c5:=m.wf;have d1:ls.length<=ls.flatten.length:=BN (CF bl);have av:=hd C;have aw:=hd m;have ce:=hd ay;have cb:=hd a8;have V:=hd ai;clear C m ay a8 ai;go_enter func202,d5;go_wp2
 go_loopg [7] (ls.length+1) (fun gk i wr=>∃(k:Nat),i=Vi k/\k<=ls.length/\ls.length-k<gk/\Ao w wr/\ls.take k=b.take k/\
   wr.heap[w.hz]?=some (.cells #[.string s,Vi nv,.slice ca ls.length N] 183 (0,0))/\
   wr.heap[w.hz+1]?=some (.cells #[.string d,Vi R,.slice l ls.length O] 183 (0,0))/\
   wr.heap[w.hz+1+1]?=some (.cells #[.string ⟨#[]⟩,Vi 0,Nl] 183 (0,0))/\
   wr.heap[w.hz+1+1+1]?=some (.cells #[.string ⟨#[]⟩,Vi 0,Nl] 183 (0,0)))
 case atStart=>
  refine⟨0,Yg,Qm _,Yo,Mxt,rfl,?_,?_,?_,?_⟩
  ·exact Ah (Ah (Ah (QL w _) _) _) _
  ·simpa using Ah (Ah (QL (w.alloc _) _) _) _
  ·simpa using Ah (QL ((w.alloc _).alloc _) _) _
  ·simpa using QL (((w.alloc _).alloc _).alloc _) _
 case round=>
  obtain⟨k,rfl,c3,dy,be,bk,h0,C,m,E⟩:=hrel;obtain⟨cm,di,cn,cf⟩:=BB h0;obtain⟨dp,dq,co,dr⟩:=BB C;obtain⟨cp,af,ag,cq⟩:=BB m;obtain⟨cr,ct,cu,cv⟩:=BB E;have d4:=Ab E;have f:=hd be;have b4:=hd h0;have b5:=hd C;have ar:=hd m;have au:=hd E;have W:=hd bk;clear be h0 C m E bk
  by_cases aj:k<ls.length
  ·obtain⟨p,P⟩:∃p,ls[k]?=some p:=⟨_,Qb aj⟩;obtain⟨z,Q⟩:∃z,b[k]?=some z:=⟨_,Qb (V.o▸aj)⟩;obtain⟨_,bc,d0,_⟩:=G6 P bl;obtain⟨_,bd,d2,_⟩:=G6 Q c5;obtain⟨cj,ck,M,bu,bv,bw,ak⟩:=av.o.2.2 k p P;obtain⟨ap,am,Z,ab,aa,rfl,rfl,rfl⟩:=ak.shape;obtain⟨cj,ck,M,b1,b2,b3,al⟩:=aw.o.2.2 k z Q;obtain⟨s2,an,ac,ae,ad,rfl,rfl,rfl⟩:=al.shape;have K:=av.o.ext (Y:=X) f.o (fun _ _ h=>h);have bj:=aw.o.ext (Y:=X) f.o (fun _ _ h=>h);have F:=bj.1;rw[<-V.o]at F;obtain⟨g,dk,dm,bf,ds,c1,dw⟩:=An K.1 Yo;simp only[QH]at bf;obtain⟨rfl,_,rfl⟩:=bf;obtain⟨I,dl,dn,bg,dt,c2,dx⟩:=An F Yo;simp only[QH]at bg;obtain⟨rfl,_,rfl⟩:=bg;have bx:wr.cell? ⟨g,k*3,none⟩=some (.string ap):=Ag K.1 _ _ bu;have bz:wr.cell? ⟨g,k*3+1,none⟩=some (Vi am):=Ag K.1 _ _ bv;have b0:wr.cell? ⟨g,k*3+2,none⟩=some (.slice Z ab aa):=Ag K.1 _ _ bw;have br:wr.cell? ⟨I,k*3,none⟩=some (.string s2):=Ag F _ _ b1;have bs:wr.cell? ⟨I,k*3+1,none⟩=some (Vi an):=Ag F _ _ b2;have bt:wr.cell? ⟨I,k*3+2,none⟩=some (.slice ac ae ad):=Ag F _ _ b3;have b9:Hd (∀B u,Ao wr.drew u->(∀k,B k->wr.hz<=k/\k<u.hz)->Calls prog 202 #[.agg #[.string ap,Vi am,.slice Z ab aa],.agg #[.string s2,Vi an,.slice ac ae ad]] u fun e aq=>
     ∃r,e= .returned r/\Ao u aq/\RD (A9 X w.hz 4) p z B r aq):=fun B u a a9=>by
    have bm:Ao w u:=f.o.trans (a.undrew.mono f.o.size);have hz:∀k,k<w.hz->(A9 X w.hz 4 k\/B k)->X k:=fun k c3 h=>by
     rcases h with(h|h)|h
     ·exact h
     ·omega
     ·have:=(a9 k h).1;omega
    refine(ce.o u (fun k=>A9 X w.hz 4 k\/B k) _ _ _ _ _ _ p z Yo Yo Yo (ak.ext bm hz) (al.ext bm hz) ?_).mono ?_
    ·rintro j (h|h)
     ·have:=Dd cb.o j h;have:=a.size;simp only[World.drew]at this;omega
     ·exact(a9 j h).2
    ·rintro e aq ⟨r,rfl,D,s,n,ca,cl,cc,d,L,l,H,G,q,rfl,E,cw⟩;refine⟨_,rfl,D,s,n,ca,cl,cc,d,L,l,H,G,q,rfl,E,fun c4=> ?_⟩;obtain⟨x,y,cx,cy,cz⟩:=cw c4;exact⟨x,y,cx.ext (Below.refl _ _) (fun j _ h=>Or.inl h),cy.ext (Below.refl _ _) (fun j _ h=>Or.inl h),cz⟩
   have ch:Hd (∀x y,DY p z x y->DY (hd::ls.flatten) (hd::b.flatten) x y):=fun x y h=>by
    have af:hd::ls.flatten=(hd::(ls.take k).flatten)++p++(ls.drop (k+1)).flatten:=by
     have:ls.flatten=(ls.take k).flatten++(ls.drop k).flatten:=by rw[<-List.flatten_append,List.take_append_drop]
     rw[this,bc];simp
    have ag:hd::b.flatten=(hd::(ls.take k).flatten)++z++(b.drop (k+1)).flatten:=by
     have:b.flatten=(b.take k).flatten++(b.drop k).flatten:=by rw[<-List.flatten_append,List.take_append_drop]
     rw[this,bd,W.o];simp
    rw[af,ag];exact h.under _ _ _
   have cg:Hd (p=z->ls.take (k+1)=b.take (k+1)):=fun e=>by
    rw[List.take_add_one,List.take_add_one,P,Q,W.o,e]
   clear c1 c2 K bj F ak al bu bv bw b1 b2 b3 P Q bc bd;go_wp2_with fail;refine DM Yk [.pur (.pointer (some ⟨w.hz,2,none⟩)),.pur (.slice (some ⟨g,0,none⟩) ls.length N),.pur (Vi k),.pur (.pointer (some ⟨g,k*3,none⟩)),.pur (.agg #[.string ap,Vi am,.slice Z ab aa]),
    .pur (.pointer (some ⟨w.hz+1,2,none⟩)),.pur (.slice (some ⟨I,0,none⟩) ls.length O),.pur (Vi k),.pur (.pointer (some ⟨I,k*3,none⟩)),.pur (.agg #[.string s2,Vi an,.slice ac ae ad]),
    .cal,.post (fun v=>v),.post (A7 0),.post (A7 1),.post (A7 2),.alo 183 #[.string ⟨#[]⟩,Vi 0,Nl] 17 (fun v=>cellsOf (A7 0 v)),.alo 183 #[.string ⟨#[]⟩,Vi 0,Nl] 18 (fun v=>cellsOf (A7 1 v)),.sto 15,.sto 16,.post (A7 2)] 10 Yk
    (RD (A9 X w.hz 4) p z) 202 _ RD.stable b9.o ?_ rfl Yd ?_
   ·refine⟨fun vc β u a=> ?_,fun vc β u a=> ?_,fun vc β u a=> ?_,fun vc β u a=> ?_,fun vc β u a=> ?_,fun vc β u a=> ?_,fun vc β u a=> ?_,fun vc β u a=> ?_,fun vc β u a=> ?_,fun vc β u a=> ?_,fun vc β u=> ?_,?_,?_,?_,?_,fun vc β u=> ?_,fun vc β u=> ?_,?_,?_,?_,trivial⟩
    all_goals try simp[pa,Kd.val,go_sem,a.up cn,a.up bx,a.up bz,a.up b0,a.up co,a.up br,a.up bs,a.up bt,aj]
    all_goals try(simp[pa,Kd.val,go_sem];done)
    all_goals try(rintro vc β B u ⟨s,n,ca,cl,cc,d,L,l,H,G,q,rfl,_,_⟩;simp[pa,Kd.val,go_sem,A7];done)
    ·rintro vc β B u t dg de cs D ⟨s,n,ca,cl,cc,d,L,l,H,G,q,rfl,_,_⟩ hb;simp at D;obtain⟨rfl,rfl,rfl,rfl⟩:=D;obtain⟨q0,T,U,ao⟩:=BB hb;refine⟨_,?_,GP hb (.string s) (Vi n) (.slice ca cl cc)⟩;simp[pa,Kd.val,go_sem,q0,T,U,ao,A7]
    ·rintro vc β B u t dg de cs D ⟨s,n,ca,cl,cc,d,L,l,H,G,q,rfl,_,_⟩ hb;simp at D;obtain⟨rfl,rfl,rfl,rfl⟩:=D;obtain⟨q0,T,U,ao⟩:=BB hb;refine⟨_,?_,GP hb (.string d) (Vi L) (.slice l H G)⟩;simp[pa,Kd.val,go_sem,q0,T,U,ao,A7]
   rintro vc β w1 J ⟨bp,bn,az,a1,a0,bq,bo,a2,a4,a3,q,rfl,bh,bi⟩ ah _;have J:=J.undrew;obtain⟨du,ba⟩:=ah 15 _ _ _ _ rfl;obtain⟨dv,bb⟩:=ah 16 _ _ _ _ rfl;obtain⟨q0,T,U,_⟩:=BB ba;obtain⟨d6,d7,d8,_⟩:=BB bb;have d3:=J.size;have A:=hd J;have ci:=hd bh;have ax:=hd bi;clear J ah ba bb bh bi bx bz b0 br bs bt;simp only[B4,pa,Kd.val,if_true,Act.put,A7]
   cases q
   ·go_wp2
    go_roundg (ls.length-k)
    case measure=>omega
    case rel=>
     exact⟨k+1,Yg,Yo,Yo,f.o.trans (A.o.mono f.o.size),cg.o (ci.o trivial),(A.o.block _ Yo).trans b4.o,(A.o.block _ Yo).trans b5.o,(A.o.block _ Yo).trans ar.o,(A.o.block _ Yo).trans au.o⟩
   ·obtain⟨x,y,a5,a6,a7⟩:=ax.o rfl;have b6:=hd a5;have b7:=hd a6;have b8:=hd (ch.o x y a7);obtain⟨da,db,dc,dd⟩:=BB ((A.o.block _ Yo).trans ar.o);obtain⟨c6,c7,c8,c9⟩:=BB ((A.o.block _ Yo).trans au.o);clear a5 a6 a7 ax;go_wp2;go_region;go_wp2;refine bodyPost_ret (v:= .tuple #[.agg #[.string bp,Vi bn,.slice az a1 a0],.agg #[.string bq,Vi bo,.slice a2 a4 a3],.bool true]) (by simp[results,results202,go_sem,da,db,dc,dd,c6,c7,c8,c9]) rfl ?_;refine⟨_,rfl,(f.o.trans (A.o.mono f.o.size)).trans (Ad.below (S:=fun k=>w.hz<=k/\k<w.hz+4) Mst Yo (fun j h=>h.1)),bp,bn,az,a1,a0,bq,bo,a2,a4,a3,true,rfl,Ys,fun _=>⟨x,y,b6.o.boxes Mst,b7.o.boxes Mst,b8.o⟩⟩
  ·have c0:k=ls.length:=Yo
   subst c0;have cd:Hd (ls=b):=by have:=W.o;rw[List.take_length,V.o,List.take_length]at this;exact this
   have q0:=cm;go_wp2;go_region;go_wp2;refine bodyPost_ret (v:= .tuple #[.agg #[.string s,Vi nv,.slice ca ls.length N],.agg #[.string d,Vi R,.slice l ls.length O],.bool false]) (by simp[results,results202,go_sem,cp,af,ag,cq,cr,ct,cu,cv]) rfl ?_;refine⟨_,rfl,f.o.trans (Ad.below (S:=fun k=>w.hz<=k/\k<w.hz+4) Mst Yo (fun j h=>h.1)),s,nv,ca,_,N,d,R,l,_,O,false,rfl,fun _=>by rw[cd.o],Ys⟩
theorem P7(w:World)(X:Np)(n:Nat):
  Calls prog 202 #[.agg #[.string ⟨#[]⟩,Vi n,Nl],.agg #[.string ⟨#[]⟩,Vi n,Nl]] w fun e w'=>∃r,e= .returned r/\Ao w w'/\RD X (vr n) (vr n) (fun _=>False) r w':=by
 go_enter func202,G;go_wp2
 go_loopg [7] 1 (fun gk i wr=>i=Vi 0/\0<gk/\Ao w wr/\
   wr.heap[w.hz]?=some (.cells #[.string ⟨#[]⟩,Vi n,Nl] 183 (0,0))/\
   wr.heap[w.hz+1]?=some (.cells #[.string ⟨#[]⟩,Vi n,Nl] 183 (0,0))/\
   wr.heap[w.hz+1+1]?=some (.cells #[.string ⟨#[]⟩,Vi 0,Nl] 183 (0,0))/\
   wr.heap[w.hz+1+1+1]?=some (.cells #[.string ⟨#[]⟩,Vi 0,Nl] 183 (0,0)))
 case atStart=>
  refine⟨rfl,Yo,Mxt,?_,?_,?_,?_⟩
  ·exact Ah (Ah (Ah (QL w _) _) _) _
  ·simpa using Ah (Ah (QL (w.alloc _) _) _) _
  ·simpa using Ah (QL ((w.alloc _).alloc _) _) _
  ·simpa using QL (((w.alloc _).alloc _).alloc _) _
 case round=>
  obtain⟨rfl,E,a,h0,b,c,d⟩:=hrel;obtain⟨x,y,z,cf⟩:=BB h0;obtain⟨A,B,C,D⟩:=BB b;obtain⟨g,l,m,p⟩:=BB c;obtain⟨q,s,t,u⟩:=BB d;have f:=hd a;have F:=a.size;clear a h0 b c d;go_wp2;go_region;go_wp2;refine bodyPost_ret (v:= .tuple #[.agg #[.string ⟨#[]⟩,Vi n,Nl],.agg #[.string ⟨#[]⟩,Vi n,Nl],.bool false]) (by simp[results,results202,go_sem,g,l,m,p,q,s,t,u]) rfl ?_;refine⟨_,rfl,f.o.trans (Ad.below (S:=fun k=>w.hz<=k/\k<w.hz+4) Mst Yo (fun j h=>h.1)),⟨#[]⟩,n,none,0,0,⟨#[]⟩,n,none,0,0,false,rfl,fun _=>rfl,Ys⟩
theorem Rx:∀n,KP n:=by
 intro n
 induction n with
 |zero=>
  intro w X a b c v x y l m hl _ _ h;have:=BN (h.wf _ (Qe _));omega
 |succ n E=>
  intro w X a b c v x y l m hl C D h d B;have w1:=h.wf _ (Qe _);have w2:=d.wf _ (Qe _);rcases h.o with⟨k,rfl,rfl,rfl,rfl⟩|⟨nm,ls,xs,p,rfl,rfl,rfl,s⟩
  ·rcases d.o with⟨g,rfl,rfl,rfl,rfl⟩|⟨j,i,u,q,rfl,rfl,rfl,f⟩
   ·by_cases t:k=g
    ·subst t;exact P7 w X k
    ·exact FJ w X _ _ k g _ _ _ _ _ _ _ _ h d (GB w1 w2 (by simp;exact t)) (Or.inr (Or.inr ⟨rfl,rfl,DA [],by rw[bne_iff_ne];omega⟩))
   ·obtain⟨ca,z,rfl⟩:=Ac f.1;refine FJ w X _ _ k 0 _ _ _ _ _ _ _ _ h d (GB w1 w2 (by simp;intro e;exact absurd e q)) (Or.inl ?_);intro e;have A:([]:Lu)=j:=(DA []).symm.trans (e.trans (DA j));exact q A.symm
  ·obtain⟨ca,z,rfl⟩:=Ac s.1;rcases d.o with⟨g,rfl,rfl,rfl,rfl⟩|⟨j,i,u,q,rfl,rfl,rfl,f⟩
   ·refine FJ w X _ _ 0 g _ _ _ _ _ _ _ _ h d (GB w1 w2 (by simp;intro e;exact absurd e p)) (Or.inl ?_);intro e;exact p ((DA nm).symm.trans (e.trans (DA [])))
   ·obtain⟨F,G,rfl⟩:=Ac f.1
    by_cases hn:nm=j
    ·subst hn
     by_cases r:ls.length=i.length
     ·have:=R8 n E w X ⟨nm.toArray⟩ ⟨nm.toArray⟩ 0 0 _ _ ls i xs u ⟨nm,0,ls.length⟩ s f B r (by simp only[Qf]at hl;omega) (by simp only[Qf]at C;omega) (by simp only[Qf]at D;omega) rfl (by rw[DA];exact p);have e:(⟨nm,0,i.length⟩:BL)=⟨nm,0,ls.length⟩:=by rw[r]
      rw[e];exact this
     ·exact FJ w X _ _ 0 0 _ _ _ _ _ _ _ _ h d (GB w1 w2 (by simp;exact r)) (Or.inr (Or.inl ⟨rfl,Yo⟩))
    ·refine FJ w X _ _ 0 0 _ _ _ _ _ _ _ _ h d (GB w1 w2 (by simp;intro e;exact absurd e hn)) (Or.inl ?_);rw[DA,DA];exact hn
def M6:Kd->Bool
 | .pur _=>true
 | .cal=>true
 |_=>false
def IX(ops:List Oper)(kd:List Kd)(ic fi:Nat):Bool:=
 ops.length==kd.length&&
 (List.range ops.length).all fun i=>match ops[i]?,kd[i]? with
  |some o,some q=>
   o.guard.isNone&&(match o.op with| .select .. =>false|_=>true)&&
   (o.after.all fun e=> !Region.binds .any e||e.on<i)&&
   ((List.range ops.length).all fun j=>match ops[j]? with
    |some p=>match p.dst with
     |some d=>((j==i)||(o.dst !=some d))&&(!(o.looksAt ops.toArray).contains d||Bl o j)
     |none=>true
    |none=>true)&&
   (match q with
    | .pur _=>(List.range ops.length).any fun j=>i<j&&(match ops[j]?,kd[j]? with|some p,some r=>Bl p i&&M6 r|_,_=>false)
    | .cal=>i==ic
    | .post _=>(List.range i).any fun j=>Bl o j&&(match kd[j]? with|some r=>Cu r|none=>false)
    | .alo .. =>false
    | .sto _=>i==fi&&o.dst.isNone&&((List.range i).any fun j=>Bl o j&&(match kd[j]? with|some r=>Cu r|none=>false)))
  |_,_=>false
structure U9(ops:List Oper)(kd:List Kd)(ic fi i:Nat)(o:Oper)(q:Kd):Prop where
 gd:o.guard=none
 sel:∀cs b,o.op≠.select cs b
 low:∀e∈o.after,Region.binds .any e=true->e.on<i
 dst:∀j p d,ops[j]?=some p->p.dst=some d->j=i\/o.dst≠some d
 look:∀j p d,ops[j]?=some p->p.dst=some d->d∈o.looksAt ops.toArray->Bl o j=true
 pur:∀c,q= .pur c->∃j p r,i<j/\ops[j]?=some p/\kd[j]?=some r/\Bl p i=true/\M6 r=true
 cal:q= .cal->i=ic
 post:B9 q=true->∃j r,Bl o j=true/\kd[j]?=some r/\Cu r=true
 alo:∀t z s cs,q≠.alo t z s cs
 sto:∀k,q= .sto k->i=fi/\o.dst=none
theorem Of{ops:List Oper}{kd:List Kd}{A u:Nat}(h:IX ops kd A u=true){o:Oper}(x:ops[i]?=some o):∃q,kd[i]?=some q/\U9 ops kd A u i o q:=by
 unfold IX at h;simp only[Q6,List.all_eq_true,List.mem_range,beq_iff_eq]at h;obtain⟨hl,h⟩:=h;have hi:=(Qa.1 x).1;have h:=h i hi;rw[x]at h
 cases z:kd[i]? with
 |none=>rw[z]at h;simp at h
 |some q=>
  rw[z]at h;simp only[Q6,List.all_eq_true,List.mem_range]at h;obtain⟨⟨⟨⟨B,v⟩,C⟩,w⟩,l⟩:=h;have y:∀(b:Bool),((List.range i).any fun j=>Bl o j&&(match kd[j]? with|some r=>Cu r|none=>false))=true->∃j r,Bl o j=true/\kd[j]?=some r/\Cu r=true:=by
   intro _ h;simp only[List.any_eq_true,List.mem_range,Q6]at h;obtain⟨j,_,n,a⟩:=h
   cases m:kd[j]? with
   |none=>rw[m]at a;simp at a
   |some r=>rw[m]at a;exact⟨j,r,n,m,a⟩
  refine⟨q,rfl,?_,?_,?_,?_,?_,?_,?_,?_,?_,?_⟩
  ·simpa using B
  ·intro cs b e;rw[e]at v;simp at v
  ·intro e D hb;have:=Array.all_eq_true_iff_forall_mem.1 C e D;simpa[hb]using this
  ·intro j p d f hd;have:=w j (Qa.1 f).1;rw[f]at this;simp only[hd,Q6,Bool.or_eq_true,beq_iff_eq,bne_iff_ne]at this;exact this.1
  ·intro j p d f hd F;have:=w j (Qa.1 f).1;rw[f]at this;simp only[hd,Q6,Bool.or_eq_true,beq_iff_eq,bne_iff_ne]at this;rcases this.2 with h|h
   ·simp[F]at h
   ·exact h
  ·intro c e;subst e;simp only[List.any_eq_true,List.mem_range,Q6]at l;obtain⟨j,E,n,a⟩:=l;have f:ops[j]?=some ops[j]:=Qb E
   cases m:kd[j]? with
   |none=>rw[f,m]at a;simp at a
   |some r=>
    rw[f,m]at a;simp only[Q6]at a;exact⟨j,_,r,by simpa using n,f,m,a.1,a.2⟩
  ·intro e;subst e;simpa using l
  ·intro f
   cases q with
   |post g=>exact y true l
   |sto k=>
    simp only[Q6]at l;exact y true l.2
   |_=>simp[B9]at f
  ·intro t G s cs e;subst e;simp at l
  ·intro k e;subst e;simp only[Q6,beq_iff_eq]at l;exact⟨l.1.1,by simpa using l.1.2⟩
def X0(P:Program)(w0:World)(FA:Value->Act)(R R':Value->World->Prop)(f:FuncId)(args:Av)(o:Oper):Kd->Prop
 | .pur c=>∀vc,(execOp (FA vc).eval o).run P w0= .ok (.value c) w0
 | .post g=>∀vc w,R vc w\/R' vc w->(execOp (FA vc).eval o).run P w= .ok (.value (g vc)) w
 | .cal=>∀vc,(execOp (FA vc).eval o).run P w0= .ok (.enter f args) w0
 | .alo .. =>True
 | .sto _=>∀vc w,R vc w->∃w',(execOp (FA vc).eval o).run P w= .ok .skip w'/\R' vc w'
def KR(P:Program)(w0:World)(FA:Value->Act)(R R':Value->World->Prop)(f:FuncId)(args:Av):List Oper->List Kd->Prop
 |o::os,q::qs=>X0 P w0 FA R R' f args o q/\KR P w0 FA R R' f args os qs
 |_,_=>True
theorem KR.at{c:Value->Act}{d e:Value->World->Prop}{f:FuncId}{args:Av}:∀{ops:List Oper}{ks:List Kd},KR P w0 c d e f args ops ks->
  ∀{i:Nat}{o:Oper}{q:Kd},ops[i]?=some o->ks[i]?=some q->X0 P w0 c d e f args o q:=by
 intro ops
 induction ops with
 |nil=>intro ks _ i o q h;simp at h
 |cons p os g=>
  intro ks h i o q b a
  cases ks with
  |nil=>simp at a
  |cons r j=>
   cases i with
   |zero=>simp at b a;subst b a;exact h.1
   |succ i=>exact g h.2 (by simpa using b) (by simpa using a)
abbrev Fn:Nat->Nat:=fun _=>0
structure P0(ops:List Oper)(kd:List Kd)(ic fi:Nat)(a0:Act)(w0:World)(R R':Value->World->Prop)(L:Array Bool)(a:Act)(w:World):Prop where
 size:L.size=ops.length
 closed:∀(i:Nat) o,ops[i]?=some o->L.getD i false=true->∀j,Bl o j=true->L.getD j false=true
 st:∃vc,a=pa a0 vc Fn (fun j=>L.getD j false) 0 ops kd/\(L.getD ic false=false->w=w0)/\(L.getD ic false=true->(L.getD fi false=false->R vc w)/\(L.getD fi false=true->R vc w\/R' vc w)/\(L.getD fi false=true->(∃k,kd[fi]?=some (.sto k))->R' vc w))/\
  (∀(i:Nat) q,kd[i]?=some q->L.getD i false=true->B9 q=true->L.getD ic false=true)
theorem Xh{ops:List Oper}{bv:Nat}{ax:Exit->Act->World->Prop}{a0:Act}(bn:P.follows .mixedOrders=true)(kd:List Kd)(B y:Nat)(O:IX ops kd B y=true)
  (T U:Value->World->Prop) (f:FuncId) (args:Av)
  (bd:Calls P f args w.drew (fun e a7=>∃v,e= .returned v/\T v a7))
  (bo:KR P w.drew (fun vc=>B4 a0 ops kd vc Fn) T U f args ops kd)
  (bi:kd[B]?=some .cal) (ah:B<ops.length) (ag:(∃k,kd[y]?=some (.sto k))\/(ops.length<=y/\∀v u,T v u->U v u))
  (be:∀vc u,U vc u->ax .normal (B4 a0 ops kd vc Fn) u):
  (Code.region bv ops.toArray true).wp P ax a0 w:=by
 have bz:ops.length=kd.length:=by
  unfold IX at O;simp only[Q6,beq_iff_eq]at O;exact O.1
 have ai:∀{b:Nat}{A:Kd},kd[b]?=some A->∃G,ops[b]?=some G/\U9 ops kd B y b G A:=fun{b A} m=>by
  have C:=Qb (l:=ops) (i:=b) (by have:=(Qa.1 m).1;omega);obtain⟨b1,au,am⟩:=Of O C;rw[m]at au;simp at au;subst au;exact⟨_,C,am⟩
 refine wp_region_any bn (Gz (J:=P0 ops kd B y a0 w.drew T U) ?_ ?_ _ _ _ _ ?_ ?_)
 ·intro L a u i Q an;obtain⟨ab,ap,vc,rfl,aw,N,Z⟩:=an;obtain⟨h0,o,a6,_⟩:=mem_ready.1 Q;have C:ops[i]?=some o:=by simpa using a6
  have hi:i<ops.length:=(Qa.1 C).1;have ah:i<L.size:=Yo
  have al:L.getD i false=false:=by simp[ah]at h0⊢;exact h0
  obtain⟨q,aa,E⟩:=Of O C;have ae:=bo.at C aa;have bj:execOp (pa a0 vc Fn (fun j=>L.getD j false) 0 ops kd).eval o=execOp (B4 a0 ops kd vc Fn).eval o:=by
   refine execOp_congr o E.sel (fun x bu=>Kt (fun j p Y hl d hd e=> ?_));subst e;have bs:=E.look j p d Y hd (Q9 _ (List.mem_filterMap.2 ⟨.tmp d,by simpa using bu,rfl⟩));have:=Be Q C bs;simp only[Nat.zero_add]at hl;rw[hl]at this;simp at this
  have bt:Region.wanted o (yielded ops.toArray (pa a0 vc Fn (fun j=>L.getD j false) 0 ops kd).tmps)=true:=by simp[Region.wanted,E.gd]
  have M:=E7 ah;have ak:∀S,(∀j r,kd[j]?=some r->L.getD j false=true->r.val vc Fn j=r.val S Fn j)->
    (pa a0 vc Fn (fun j=>L.getD j false) 0 ops kd).put o.dst (q.val S Fn i)=pa a0 S Fn (fun j=>(L.setIfInBounds i true).getD j false) 0 ops kd:=by
   intro S br;have a9:pa a0 vc Fn (fun j=>L.getD j false) 0 ops kd=pa a0 S Fn (fun j=>L.getD j false) 0 ops kd:=CV (fun j r R=>by
    simp only[Nat.zero_add];exact⟨trivial,fun hl=>br j r R hl⟩)
   rw[a9];have ay:=Lq (a0:=a0) (vc:=S) (β:=Fn) (lst:=fun j=>L.getD j false) (k:=0) C aa (by simpa using al) E.dst;simp only[Nat.zero_add]at ay;rw[<-ay];exact CV (fun j r R=>⟨by simp only[Nat.zero_add,M],fun _=>rfl⟩)
  have I:∀j,L.getD j false=true->(L.setIfInBounds i true).getD j false=true:=fun j h=>by rw[M,h];rfl
  have X:∀j,j≠i->(L.setIfInBounds i true).getD j false=L.getD j false:=fun j h=>by
   rw[M];have:(j==i)=false:=by rw[Qu];exact h
   simp[this]
  have aj:∀{b:Nat}{A:Kd},kd[b]?=some A->A≠q->b≠i:=fun{b A} m z e=>by
   subst e;rw[aa]at m;exact z (Option.some.inj m).symm
  have af:∀(b:Nat) G,ops[b]?=some G->(L.setIfInBounds i true).getD b false=true->∀j,Bl G j=true->(L.setIfInBounds i true).getD j false=true:=by
   intro b G m z j W
   by_cases e:b=i
   ·subst e;rw[C]at m;simp at m;subst m;exact I _ (Be Q C W)
   ·exact I _ (ap b G m ((X b e).symm.trans z) j W)
  have bp:B9 q=false->∀(b:Nat) A,kd[b]?=some A->(L.setIfInBounds i true).getD b false=true->B9 A=true->(L.setIfInBounds i true).getD B false=true:=fun Y b A m z K=>
   I _ (Z b A m ((X b (aj m (fun e=>by rw[e,Y]at K;simp at K))).symm.trans z) K)
  have a3:B9 q=true->L.getD B false=true:=fun Y=>by
   obtain⟨j,r,m,z,K⟩:=E.post Y;have W:=Be Q C m
   cases r with
   |post g=>exact Z j _ z W rfl
   |cal=>
    obtain⟨G,_,V⟩:=ai z;have:=V.cal rfl;rw[<-this];exact W
   |_=>simp[Cu]at K
  --the reads stand ahead of the call
  have bh:∀(n:Nat)(b:Nat) c,ops.length-b<=n->kd[b]?=some (.pur c)->L.getD B false=true->L.getD b false=true:=by
   intro n
   induction n with
   |zero=>
    intro b c hn m _;have:=(Qa.1 m).1;omega
   |succ n ac=>
    intro b c hn m z;obtain⟨G,_,V⟩:=ai m;obtain⟨j,p,r,K,ba,az,bb,bc⟩:=V.pur c rfl;have bm:L.getD j false=true:=by
     cases r with
     |pur a8=>exact ac j a8 Yo az z
     |cal=>
      obtain⟨b0,_,am⟩:=ai az;rw[am.cal rfl];exact z
     |_=>simp[M6]at bc
    exact ap j p ba bm b bb
  unfold wpOp;simp only[a6];rw[if_pos bt];refine Or.inl ?_;unfold Oper.wp;rw[bj]
  cases q with
  |pur c=>
   have H:L.getD B false=false:=by
    cases h:L.getD B false with
    |false=>rfl
    |true=>
     have:=bh _ i c (Qe _) aa h;rw[al]at this;simp at this
   have F:B≠i:=aj bi Ys;have av:=aw H;subst av;rw[ae vc];refine⟨by simpa using ab,af,vc,ak vc (fun _ _ _ _=>rfl),fun _=>rfl,?_,bp rfl⟩;intro h;rw[X B F,H]at h;simp at h
  |post g=>
   have F:=a3 rfl;have aq:y≠i:=by
    rcases ag with⟨k,D⟩|⟨D,_⟩
    ·exact aj D Ys
    ·omega
   have bg:T vc u\/U vc u:=by
    cases h:L.getD y false with
    |false=>exact Or.inl ((N F).1 h)
    |true=>exact(N F).2.1 h
   rw[ae vc u bg];refine⟨by simpa using ab,af,vc,ak vc (fun _ _ _ _=>rfl),?_,?_,fun b A _ _ _=>I _ F⟩
   ·intro h;have:=I _ F;rw[h]at this;simp at this
   ·intro _;rw[X y aq];exact N F
  |cal=>
   have ar:=E.cal rfl;have H:L.getD B false=false:=by rw[<-ar];exact al
   have av:=aw H;subst av;rw[ae vc];apply bd.mono;rintro e a7 ⟨v,rfl,R⟩;have bk:L.getD y false=false:=by
    rcases ag with⟨k,D⟩|⟨D,_⟩
    ·cases h:L.getD y false with
     |false=>rfl
     |true=>
      have:=Z y _ D h rfl;rw[H]at this;simp at this
    ·have:¬y<L.size:=Yo
     simp[this]
   have aq:y≠i:=by
    rcases ag with⟨k,D⟩|⟨D,_⟩
    ·exact aj D Ys
    ·omega
   refine⟨by simpa using ab,af,v,ak v ?_,?_,?_,?_⟩
   ·intro j r m z
    cases r with
    |post g=>
     have:=Z j _ m z rfl;rw[H]at this;simp at this
    |cal=>
     obtain⟨G,_,V⟩:=ai m;have:=V.cal rfl;rw[this,H]at z;simp at z
    |_=>rfl
   ·intro h;rw[<-ar,M]at h;simp at h
   ·intro _;rw[X y aq,bk];exact⟨fun _=>R,fun h=>by simp at h,fun h=>by simp at h⟩
   ·intro b A _ _ _;rw[<-ar,M];simp
  |alo t bw s cs=>exact absurd rfl (E.alo t bw s cs)
  |sto k=>
   have F:=a3 rfl;obtain⟨a5,bx⟩:=E.sto k rfl;obtain⟨w',bq,a2⟩:=ae vc u ((N F).1 (by rw[<-a5];exact al));rw[bq];refine⟨by simpa using ab,af,vc,ak vc (fun _ _ _ _=>rfl),?_,?_,fun b A _ _ _=>I _ F⟩
   ·intro h;have:=I _ F;rw[h]at this;simp at this
   ·intro _;refine⟨fun h=> ?_,fun _=>Or.inr a2,fun _ _=>a2⟩;rw[<-a5,M]at h;simp at h
 ·intro L a u Q an;obtain⟨ab,ap,vc,rfl,aw,N,Z⟩:=an;have ao:∀i,i<ops.length->L.getD i false=true:=by
   intro i
   induction i using Nat.strongRecOn with
   |_ i ac=>
    intro hi
    cases hl:L.getD i false with
    |true=>rfl
    |false=>
     exfalso;have C:ops[i]?=some ops[i]:=Qb hi;obtain⟨q,aa,E⟩:=Of O C;have:i∈Region.ready .any ops.toArray L:=by
      refine mem_ready.2 ⟨?_,ops[i],Ys,fun e a4 hb=>ac e.on (E.low e a4 hb) (by have:=E.low e a4 hb;omega)⟩;have bl:i<L.size:=Yo
      simp[bl]at hl⊢;exact hl
     rw[Q]at this;simp at this
  have e:pa a0 vc Fn (fun j=>L.getD j false) 0 ops kd=B4 a0 ops kd vc Fn:=CV (fun j r R=>⟨by
   simp only[Nat.zero_add];exact ao j (by have:=(Qa.1 R).1;omega),fun _=>rfl⟩)
  rw[e];have a1:=N (ao B ah);refine be vc u ?_;rcases ag with⟨k,D⟩|⟨D,bf⟩
  ·exact a1.2.2 (ao y (by have:=(Qa.1 D).1;omega)) ⟨k,D⟩
  ·refine bf _ _ (a1.1 ?_);have:¬y<L.size:=Yo
   simp[this]
 ·have:(ops.toArray).size=ops.length:=Ys
  unfold Xn;exact Qq (List.length_filter_le _ _) Ys
 ·have hz:∀j,(Array.replicate ops.toArray.size false).getD j false=false:=fun j=>by
   simp only[Array.getD_eq_getD_getElem?,Array.getElem?_replicate];split<;>rfl
  refine⟨Ys,?_,undef,?_,fun _=>rfl,?_,?_⟩
  ·intro i o _ h;rw[hz]at h;simp at h
  ·have:∀(k:Nat)(os:List Oper)(ad:List Kd),pa a0 undef Fn (fun j=>(Array.replicate ops.toArray.size false).getD j false) k os ad=a0:=by
    intro k os
    induction os generalizing k with
    |nil=>intro ad;simp[pa]
    |cons o os ac=>
     intro ad
     cases ad with
     |nil=>simp[pa]
     |cons q ad=>rw[pa,hz];simp only[Bool.false_eq_true,if_false];exact ac _ _
   exact(this _ _ _).symm
  ·intro h;rw[hz]at h;simp at h
  ·intro i q _ h;rw[hz]at h;simp at h
structure AR where
 sym:BL
 kids:List Nat
 up:Nat
def Hl(c:AR)(v:Value):Lv:=[.string ⟨c.sym.name.toArray⟩,.int .i64 c.sym.num,v,.int .i64 c.up]
def Cd:List AR->Lv->Lv
 |c::cs,v::vs=>Hl c v++Cd cs vs
 |_,_=>[]
structure Bd(w:World)(B:Nat)(lv:Value)(cs:List AR)(vs:List Value):Prop where
 len:vs.length=cs.length
 owns:w.ownsRow B 314 4 lv cs.length (Cd cs vs)
 kids:∀(i:Nat) c v,cs[i]?=some c->vs[i]?=some v->w.ownsRow B 3 1 v c.kids.length (AM c.kids)
theorem T5:∀{cs:List AR}{vs:Lv}{i:Nat}{c:AR}{v:Value},cs[i]?=some c->vs[i]?=some v->
  (Cd cs vs)[i*4]?=some (.string ⟨c.sym.name.toArray⟩)/\(Cd cs vs)[i*4+1]?=some (Vi c.sym.num)/\(Cd cs vs)[i*4+2]?=some v/\(Cd cs vs)[i*4+3]?=some (Vi c.up):=by
 intro cs
 induction cs with
 |nil=>intro vs i c v h;simp at h
 |cons d cs g=>
  intro vs i c v b a
  cases vs with
  |nil=>simp at a
  |cons u vs=>
   cases i with
   |zero=>
    simp at b a;subst b a;simp[Cd,Hl]
   |succ i=>
    have:=g (i:=i) (by simpa using b) (by simpa using a);have hl:(Hl d u).length=4:=rfl;rw[Cd];have e:∀j,(Hl d u++Cd cs vs)[(i+1)*4+j]?=(Cd cs vs)[i*4+j]?:=fun j=>by
     rw[Qd (by rw[hl];omega),hl]
     congr 1;omega
    have f:=e 0;simp only[Nat.add_zero]at f;rw[f,e 1,e 2,e 3];exact this
theorem Bd.at{cs:List AR}(h:Bd w B lv cs vs)(hi:i<cs.length):
  ∃g e c v,lv= .slice (some ⟨g,0,none⟩) cs.length e/\cs[i]?=some c/\vs[i]?=some v/\B<=g/\g<w.hz/\cs.length<=e/\w.cell? ⟨g,i*4,none⟩=some (.string ⟨c.sym.name.toArray⟩)/\w.cell? ⟨g,i*4+1,none⟩=some (Vi c.sym.num)/\
   w.cell? ⟨g,i*4+2,none⟩=some v/\w.cell? ⟨g,i*4+3,none⟩=some (Vi c.up)/\(∀j,w.frozen? ⟨g,j,none⟩=false)/\w.ownsRow B 3 1 v c.kids.length (AM c.kids):=by
 obtain⟨g,e,o,rfl,l,hb,m⟩:=An h.owns Yo;have n:i<vs.length:=by rw[h.len];exact hi
 have f:cs[i]?=some cs[i]:=Qb hi;have k:vs[i]?=some vs[i]:=Qb n;obtain⟨a,b,c,d⟩:=T5 f k;exact⟨g,e,cs[i],vs[i],rfl,f,k,l,Ab hb,m,Ag h.owns _ _ a,Ag h.owns _ _ b,Ag h.owns _ _ c,Ag h.owns _ _ d,fun j=>Ae hb j,h.kids i _ _ f k⟩
theorem Bd.ext{cs:List AR}(h:Bd w B lv cs vs)(d:∀k,k<w.hz->w'.heap[k]?=w.heap[k]?):Bd w' B lv cs vs:=
 ⟨h.len,Aj h.owns (fun k e=>d k (h.owns.lt k e).2),fun i c v a b=>Aj (h.kids i c v a b) (fun k e=>d k ((h.kids i c v a b).lt k e).2)⟩
def turn(cs:List AR)(x y:Nat):List AR:=cs.modify x (fun c=>{c with up:=y})
theorem Gn(cs:List AR)(x y:Nat):(turn cs x y).length=cs.length:=by simp[turn]
theorem G4(cs:List AR)(x y i:Nat):(turn cs x y)[i]?=(cs[i]?).map (fun c=>if x=i then{c with up:=y}else c):=by
 simp only[turn,List.getElem?_modify]
 cases cs[i]? with
 |none=>rfl
 |some c=>simp
theorem PQ:∀{cs:List AR}{vs:Lv}{x y:Nat},vs.length=cs.length->x<cs.length->Cd (turn cs x y) vs=(Cd cs vs).set (x*4+3) (Vi y):=by
 intro cs
 induction cs with
 |nil=>intro vs x y _ h;simp at h
 |cons d cs c=>
  intro vs x y hl b
  cases vs with
  |nil=>simp at hl
  |cons u vs=>
   cases x with
   |zero=>simp[turn,Cd,Hl]
   |succ x=>
    have e:=c (vs:=vs) (x:=x) (y:=y) (by simpa using hl) (by simpa using b);have a:turn (d::cs) (x+1) y=d::turn cs x y:=by simp[turn]
    rw[a,Cd,Cd,e,List.set_append_right _ _ (by simp[Hl];omega)]
    congr 2
    simp[Hl]
    try omega
theorem Bd.turn{g:Nat}{cs:List AR}(h:Bd w B (.slice (some ⟨g,0,none⟩) cs.length cap) cs vs)(t:x<cs.length)(y:Nat):
  Bd (w.setCell ⟨g,x*4+3,none⟩ (Vi y)) B (.slice (some ⟨g,0,none⟩) cs.length cap) (YtlmjilpjmgjjcaaGreatDoor.turn cs x y) vs:=by
 refine⟨by rw[Gn];exact h.len,?_,?_⟩
 ·rw[Gn,PQ h.len t];have m:=h.owns;refine⟨by simpa using m.1,?_⟩;rcases m.2 with⟨a,_⟩|⟨A,u,f,a,hb,p,hn,b,r,s⟩
  ·simp at a
  ·simp at a;obtain⟨rfl,rfl⟩:=a;refine .inr ⟨g,cap,f.setIfInBounds (x*4+3) (Vi y),rfl,hb,Af p _ _,hn,b,by simpa using r,?_⟩;rw[<-s];simp[List.take_set]
 ·intro i c v a n;rw[G4]at a
  cases b:cs[i]? with
  |none=>rw[b]at a;simp at a
  |some d=>
   rw[b]at a;simp only[Option.map_some,Qo]at a;have l:=h.kids i d v b n;have q:∀k,v.ownBlock=some k->k≠g:=fun k e e'=>by
    subst e';obtain⟨f,o⟩:=Ay l k e;obtain⟨z,j⟩:=Ay h.owns k rfl;rw[o]at j;simp at j
   have:c.kids=d.kids:=by rw[<-a];split<;>rfl
   rw[this];exact Aj l (fun k e=>Below.heap_setCell _ _ _ _ (q k e))
def Fa(cs:List AR)(ρ rk:Nat->Nat):Prop:=∀(i:Nat) c,cs[i]?=some c->c.up<cs.length/\ρ c.up=ρ i/\(c.up=i->ρ i=i)/\(c.up≠i->rk c.up<rk i)
theorem Fa.root{cs:List AR}{k:Nat->Nat}(h:Fa cs ρ k):∀(n i:Nat) c,k i<=n->cs[i]?=some c->∃f,cs[ρ i]?=some f/\f.up=ρ i/\ρ (ρ i)=ρ i:=by
 intro n
 induction n with
 |zero=>
  intro i c hn b;obtain⟨g,j,a,d⟩:=h i c b
  by_cases e:c.up=i
  ·rw[a e];exact⟨c,b,e,a e⟩
  ·have:=d e;omega
 |succ n l=>
  intro i c hn b;obtain⟨g,j,a,d⟩:=h i c b
  by_cases e:c.up=i
  ·rw[a e];exact⟨c,b,e,a e⟩
  ·have:=d e;rw[<-j];exact l c.up _ Yo (Qb g)
theorem Fa.rt{cs:List AR}{d:Nat->Nat}(h:Fa cs ρ d):Rt cs.length ρ:=by
 refine⟨fun i hi=> ?_,fun i hi=> ?_⟩
 ·obtain⟨a,b,_,_⟩:=h.root _ i _ (Qe _) (Qb hi);exact(Qa.1 b).1
 ·obtain⟨a,_,_,c⟩:=h.root _ i _ (Qe _) (Qb hi);exact c
def BW(cs:List AR):Nat:=((List.range cs.length).filter (fun i=>((cs[i]?).map (fun c=>c.up==i)).getD false)).length
theorem Fs{cs:List AR}{y:Nat}{c:AR}(a:cs[x]?=some c)(g:c.up=x)(f:x≠y):BW (turn cs x y)<BW cs:=by
 unfold BW;rw[Gn];refine Ju (x:=x) (fun i _ hi=> ?_) (List.mem_range.2 (Qa.1 a).1) (by simp[a,g]) ?_
 ·rw[G4]at hi
  cases b:cs[i]? with
  |none=>rw[b]at hi;simp at hi
  |some d=>
   rw[b]at hi;simp only[Option.map_some,Option.getD_some,beq_iff_eq]at hi⊢;split at hi
   ·rename_i e;subst e;simp at hi;exact absurd hi.symm f
   ·exact hi
 ·rw[G4,a];simp;exact fun e=>f e.symm
theorem Fa.turn{cs:List AR}{b:Nat->Nat}(h:Fa cs ρ b){y:Nat}(q:x<cs.length)(p:y<cs.length)(j:ρ x=x)(k:ρ y=y)(f:x≠y):
  Fa (YtlmjilpjmgjjcaaGreatDoor.turn cs x y) (mg ρ x y) (fun i=>if ρ i=x then b i+b y+1 else b i):=by
 intro i c a;rw[G4]at a
 cases hd:cs[i]? with
 |none=>rw[hd]at a;simp at a
 |some d=>
  rw[hd]at a;simp only[Option.map_some,Qo]at a;obtain⟨m,g,n,o⟩:=h i d hd;rw[Gn]
  by_cases e:x=i
  ·subst e;rw[if_pos rfl]at a;subst a;refine⟨p,?_,fun e=>absurd e.symm f,fun _=> ?_⟩
   ·unfold mg;rw[j,k,if_pos rfl,if_neg (fun e=>f e.symm)]
   ·simp only[j,k,if_true];rw[if_neg (fun e=>f e.symm)];omega
  ·rw[if_neg e]at a;subst a;refine⟨m,?_,fun e'=> ?_,fun e'=> ?_⟩
   ·unfold mg;rw[g]
   ·have:=n e';unfold mg;rw[this,if_neg (fun l=>e l.symm)]
   ·have:=o e';simp only[g];split<;>omega
theorem LT(w:World)(B:Nat)(t:Value)(cs:List AR)(vs:Lv)(d b:Nat->Nat)(i:Nat)(h:Bd w B t cs vs)(r:Fa cs d b)(hi:i<cs.length)(hl:cs.length<=4000):
  Calls prog 214 #[t,Vi i] w fun e w'=>e= .returned (Vi (d i))/\w'=w:=by
 obtain⟨g,I,_,_,rfl,_,_,_,_,M,_⟩:=h.at hi;have u:=hd h;have x:=hd r;clear h r;go_enter func214,Q;go_wp2
 go_loopg [1] (b i+1) (fun gk D wr=>∃(k:Nat),D=Vi k/\k<cs.length/\b k<gk/\d k=d i/\wr=w)
 case atStart=>exact⟨i,rfl,hi,Yo,rfl,rfl⟩
 case round=>
  obtain⟨k,rfl,C,O,a,rfl⟩:=hrel;obtain⟨K,J,c,v,p,n,s,L,P,N,E,F,G,H,cf,q⟩:=u.o.at C;simp only[QH,Qo,Addr.mk.injEq]at p;obtain⟨⟨rfl,_⟩,_,rfl⟩:=p;obtain⟨z,j,l,m⟩:=x.o k c n
  by_cases e:c.up=k
  ·have e':((c.up:Int) !=(k:Int))=false:=by rw[e];simp
   have f:=hd (l e);have y:=hd a;clear n s q j l m a;go_wp2;go_ret;exact⟨by rw[<-y.o,f.o];rfl,rfl⟩
  ·have e':((c.up:Int) !=(k:Int))=true:=by rw[bne_iff_ne];omega
   have f:=hd (j.trans a);have A:=m e;clear n s q j l m a;go_wp2
   go_roundg (b k)
   case measure=>omega
   case rel=>exact⟨c.up,rfl,z,A,f.o,rfl⟩
def skip:Nat->Ly->Nat
 |0,_=>0
 |_+1,[]=>0
 |k+1,s::r=>skip (k+s.args) r+1
theorem H9:∀{a:Ly}{j:Nat}(r:Ly),Wf j a->skip j (a++r)=a.length:=by
 intro a
 induction a with
 |nil=>intro j r h;have h:j=0:=h;subst h;simp[skip]
 |cons s a c=>
  intro j r h;obtain⟨d,_,_,b⟩:=h;obtain⟨k,rfl⟩:∃k,j=k+1:=⟨j-1,Yo⟩;simp only[Qy,skip,Qf];rw[c r (by simpa using b)]
theorem WG:∀{l:Ly}{k:Nat}(i:Nat),Wf k l->i<=l.length->∃c,Wf c (l.drop i):=by
 intro l
 induction l with
 |nil=>intro k i h hi;simp at hi;subst hi;exact⟨k,h⟩
 |cons s l b=>
  intro k i h hi
  cases i with
  |zero=>exact⟨k,h⟩
  |succ i=>
   obtain⟨_,_,_,a⟩:=h;simp only[List.drop_succ_cons];exact b i a (by simpa using hi)
def A6(l:Ly)(i:Nat):Nat:=i+skip 1 (l.drop i)
def Gb(l:Ly)(i:Nat):Ly:=(l.drop i).take (skip 1 (l.drop i))
def AW(l:Ly):Nat->Nat->List Nat
 |_,0=>[]
 |p,m+1=>p::AW l (A6 l p) m
def AJ(l:Ly):Nat->Nat->Nat
 |p,0=>p
 |p,m+1=>AJ l (A6 l p) m
theorem CO(l:Ly)(p m:Nat):(AW l p m).length=m:=by
 induction m generalizing p with
 |zero=>rfl
 |succ m a=>simp[AW,a]
theorem BX(l:Ly)(p m:Nat):AJ l p (m+1)=A6 l (AJ l p m):=by
 induction m generalizing p with
 |zero=>rfl
 |succ m a=>rw[AJ,a];rfl
theorem BQ(l:Ly)(p m i:Nat)(hi:i<m):(AW l p m)[i]?=some (AJ l p i):=by
 induction m generalizing p i with
 |zero=>omega
 |succ m a=>
  cases i with
  |zero=>rfl
  |succ i=>simp only[AW,List.getElem?_cons_succ,AJ];exact a _ _ Yo
theorem DV{l:Ly}{k i:Nat}(h:Wf k l)(hi:i<l.length):Wf 1 (Gb l i)/\∃r,l.drop i=Gb l i++r/\r=l.drop (A6 l i)/\i<A6 l i/\A6 l i<=l.length/\(Gb l i).length=skip 1 (l.drop i):=by
 obtain⟨c,d⟩:=WG i h Yo;have p:0<c:=by
  rcases Nat.eq_zero_or_pos c with rfl|m
  ·cases hd:l.drop i with
   |nil=>have:=congrArg List.length hd;simp at this;omega
   |cons s r=>rw[hd]at d;obtain⟨n,_⟩:=d;omega
  ·exact m
 obtain⟨a,b,e,ha,hb⟩:=IM (j:=1) (k:=c-1) (l:=l.drop i) (by rw[show 1+(c-1)=c by omega];exact d);have f:skip 1 (l.drop i)=a.length:=by rw[e];exact H9 b ha
 have g:Gb l i=a:=by unfold Gb;rw[f,e];simp
 have hl:a.length+b.length=l.length-i:=by
  have:=congrArg List.length e;simp at this;omega
 have o:=BN ha;refine⟨by rw[g];exact ha,b,by rw[g];exact e,?_,by unfold A6;omega,by unfold A6;omega,by rw[g,f]⟩;unfold A6;rw[f,<-List.drop_drop,e];simp
theorem WT{l:Ly}{z:Nat}(h:Wf z l):∀(m:Nat){p:Nat}{a b:Ly},l.drop p=a++b->Wf m a->p<=l.length->
  a=((AW l p m).map (Gb l)).flatten/\(∀x∈AW l p m,p<=x/\x<p+a.length)/\AJ l p m=p+a.length:=by
 intro m
 induction m with
 |zero=>
  intro p a b e g _;have:a=[]:=by
   cases a with
   |nil=>rfl
   |cons s a=>obtain⟨f,_⟩:=g;omega
  subst this;exact⟨rfl,by simp[AW],rfl⟩
 |succ m y=>
  intro p a b e g B;obtain⟨d,n,rfl,f,u⟩:=IM (j:=1) (k:=m) (l:=a) (by rw[Nat.add_comm];exact g);have A:=BN f;have C:p<l.length:=by
   have:=congrArg List.length e;simp at this;omega
  have i:skip 1 (l.drop p)=d.length:=by rw[e,Qi];exact H9 _ f
  have w:Gb l p=d:=by unfold Gb;rw[i,e];simp
  have hb:A6 l p=p+d.length:=by unfold A6;rw[i]
  have o:l.drop (A6 l p)=n++b:=by rw[hb,<-List.drop_drop,e];simp
  have v:A6 l p<=l.length:=by
   have:=congrArg List.length e;simp at this;omega
  obtain⟨q,r,t⟩:=y o u v;refine⟨?_,?_,?_⟩
  ·simp only[AW,Qx,Q4,w];rw[<-q]
  ·intro x c;simp only[AW,Qp]at c;simp only[Qg];rcases c with rfl|c
   ·omega
   ·have:=r x c;omega
  ·rw[AJ,t,hb,Qg];omega
theorem G5:∀{l:Ly}{k i:Nat}{s:BL},Wf k l->l[i]?=some s->(s.name=[]->s.args=0)/\(s.name≠[]->s.num=0):=by
 intro l
 induction l with
 |nil=>intro k i s _ a;simp at a
 |cons t l e=>
  intro k i s h a;obtain⟨_,b,c,d⟩:=h
  cases i with
  |zero=>simp at a;subst a;exact⟨b,c⟩
  |succ i=>exact e d (by simpa using a)
def AB(l:Ly)(i:Nat):BL:=l.getD i ⟨[],0,0⟩
def Cc(l:Ly):Gr:=⟨l.length,AB l,fun i=>AW l (i+1) (AB l i).args⟩
theorem Ft{l:Ly}{k i:Nat}(h:Wf k l)(hi:i<l.length):Gb l i=AB l i::((AW l (i+1) (AB l i).args).map (Gb l)).flatten/\(∀x∈AW l (i+1) (AB l i).args,i<x/\x<A6 l i)/\AJ l (i+1) (AB l i).args=A6 l i:=by
 obtain⟨n,r,e,u,p,t,b⟩:=DV h hi;obtain⟨s,q,a,j,_⟩:=KN n;have hd:l.drop i=l[i]::l.drop (i+1):=QC hi;rw[a]at e;rw[hd]at e;simp only[Qy,QI]at e;have m:AB l i=s:=by unfold AB;simp[hi,e.1]
 obtain⟨c,d,f⟩:=WT h s.args e.2 j Yo;rw[a]at b;have g:A6 l i=i+1+q.length:=by unfold A6;rw[<-b];simp;omega
 rw[m];refine⟨by rw[a,<-c],fun x o=> ?_,by rw[f,g]⟩;have:=d x o;omega
theorem IJ{a b:Ly}(h:Wf 1 a):Gb (a++b) 0=a:=by
 unfold Gb;rw[List.drop_zero,H9 b h];simp
theorem HI{a b:Ly}(h:Wf 1 b):Gb (a++b) a.length=b:=by
 unfold Gb;have e:(a++b).drop a.length=b++[]:=Ys
 rw[e,H9 [] h];simp
theorem SG{a b:Ly}(ha:Wf 1 a)(hb:Wf 1 b):Tb (Cc (a++b)) (Gb (a++b)) a b:=by
 have d:Wf 2 (a++b):=EJ ha hb;refine⟨⟨?_,?_,?_,?_⟩,?_,?_⟩
 ·intro i hi x f;have:=(Ft d hi).2.1 x f;obtain⟨_,_,_,_,_,g,_⟩:=DV d hi;show x<(a++b).length;omega
 ·intro i hi;exact(CO _ _ _).symm
 ·intro i hi hn;have e:(a++b)[i]?=some (AB (a++b) i):=by
   have hi:i<(a++b).length:=hi;unfold AB;simp only[List.getD_eq_getElem?_getD];rw[Qb hi];rfl
  have:=(G5 d e).1 hn;show AW _ _ (AB (a++b) i).args=[];rw[this];rfl
 ·intro i hi hn;have e:(a++b)[i]?=some (AB (a++b) i):=by
   have hi:i<(a++b).length:=hi;unfold AB;simp only[List.getD_eq_getElem?_getD];rw[Qb hi];rfl
  exact(G5 d e).2 hn
 ·intro i hi;exact(Ft d hi).1
 ·intro i hi hn;have hi:i<(a++b).length:=hi;have c:AB (a++b) i∈a++b:=by
   unfold AB;simp only[List.getD_eq_getElem?_getD];rw[Qb hi];exact List.getElem_mem hi
  rcases Qk.1 c with c|c
  ·exact Or.inl ⟨_,c,hn,rfl⟩
  ·exact Or.inr ⟨_,c,hn,rfl⟩
def A1(l:Ly)(i:Nat):Nat:=if(AB l i).name=[]then l.findIdx (fun s=>s.name.isEmpty&&s.num==(AB l i).num)else i
theorem Ih(l:Ly){k:Nat}(o:Wf k l):FH (Cc l) (A1 l):=by
 have d:∀i,i<l.length->(AB l i).name=[]->A1 l i<l.length/\(AB l (A1 l i)).name=[]/\(AB l (A1 l i)).num=(AB l i).num:=by
  intro i hi hn;unfold A1;rw[if_pos hn];have m:∃x∈l,(x.name.isEmpty&&x.num==(AB l i).num)=true:=by
   refine⟨AB l i,?_,by simp[hn]⟩;unfold AB;simp only[List.getD_eq_getElem?_getD];rw[Qb hi];exact List.getElem_mem hi
  have c:=List.findIdx_lt_length_of_exists m;refine⟨c,?_⟩;have:=List.findIdx_getElem (w:=c);have e:AB l (l.findIdx (fun s=>s.name.isEmpty&&s.num==(AB l i).num))=l[l.findIdx (fun s=>s.name.isEmpty&&s.num==(AB l i).num)]:=by
   generalize l.findIdx (fun s=>s.name.isEmpty&&s.num==(AB l i).num)=z at c;unfold AB;simp only[List.getD_eq_getElem?_getD];rw[Qb c];rfl
  rw[e];simpa using this
 refine⟨⟨?_,?_⟩,?_,?_,?_⟩
 ·intro i hi
  by_cases hn:(AB l i).name=[]
  ·exact(d i hi hn).1
  ·show A1 l i<_;unfold A1;rw[if_neg hn];exact hi
 ·intro i hi
  by_cases hn:(AB l i).name=[]
  ·obtain⟨b,a,h⟩:=d i hi hn;show A1 l (A1 l i)=A1 l i;have f:A1 l (A1 l i)=l.findIdx (fun s=>s.name.isEmpty&&s.num==(AB l (A1 l i)).num):=by
    generalize A1 l i=z at a;unfold A1;rw[if_pos a]
   have g:A1 l i=l.findIdx (fun s=>s.name.isEmpty&&s.num==(AB l i).num):=by unfold A1;rw[if_pos hn]
   rw[f,h,<-g]
  ·have e:A1 l i=i:=by unfold A1;rw[if_neg hn]
   rw[e,e]
 ·intro i j hi n b a e;show A1 l i=A1 l j;have b:(AB l i).name=[]:=b;have a:(AB l j).name=[]:=a;have e:(AB l i).num=(AB l j).num:=e;unfold A1;rw[if_pos b,if_pos a,e]
 ·intro i hi hn;have hn:(AB l i).name≠[]:=hn;show A1 l i=i;unfold A1;rw[if_neg hn]
 ·intro i hi hn;exact(d i hi hn).2
structure GC where
 sym:BL
 behind:Nat
 leader:Nat
 size:Int
def QV(c:GC):Lv:=[.string ⟨c.sym.name.toArray⟩,.int .i64 c.sym.num,.int .i64 c.sym.args,.int .i64 c.behind,.int .i64 c.leader,.int .i64 c.size]
def NA(l:List GC):Lv:=l.flatMap QV
theorem Xy{l:List GC}{c:GC}(h:l[i]?=some c)(j:Nat)(d:j<6):(NA l)[i*6+j]?=(QV c)[j]?:=by
 induction l generalizing i with
 |nil=>simp at h
 |cons a l b=>
  have hl:(QV a).length=6:=rfl
  cases i with
  |zero=>
   simp at h;subst h;show(QV a++NA l)[_]?=_;rw[Qc Yo];simp
  |succ i=>
   show(QV a++NA l)[_]?=_;rw[Qd Yo,<-b (by simpa using h),hl]
   congr 1;omega
theorem V9(l:List GC)(c:GC):NA (l++[c])=NA l++QV c:=by simp[NA]
theorem Sr{l:List GC}{c:GC}{f:GC->GC}{j:Nat}{u:Value}(h:l[x]?=some c)(e:j<6)(b:QV (f c)=(QV c).set j u):NA (l.modify x f)=(NA l).set (x*6+j) u:=by
 induction l generalizing x with
 |nil=>simp at h
 |cons a l d=>
  have hl:(QV a).length=6:=rfl
  cases x with
  |zero=>
   simp at h;subst h;show QV (f a)++NA l=(QV a++NA l).set _ _;rw[List.set_append_left _ _ Yo,b];simp
  |succ x=>
   show QV a++NA (l.modify x f)=(QV a++NA l).set _ _;rw[List.set_append_right _ _ Yo,d (by simpa using h),hl]
   congr 2;omega
structure F8(w:World)(gb:Nat)(v:Value)(gs:List GC):Prop where
 box:w.heap[gb]?=some (.cells #[v] 266 (0,0))
 owns:w.ownsRow 0 292 6 v gs.length (NA gs)
theorem Pn{g:Nat}(h:w.ownsRow B e size (.slice (some ⟨g,0,none⟩) n cap) n xs)(i:Nat)(u:Value):(w.setCell ⟨g,i,none⟩ u).ownsRow B e size (.slice (some ⟨g,0,none⟩) n cap) n (xs.set i u):=by
 refine⟨by simpa using h.1,?_⟩;rcases h.2 with⟨a,_⟩|⟨l,k,b,a,hb,d,hn,c,f,j⟩
 ·simp at a
 ·simp at a;obtain⟨rfl,rfl⟩:=a;refine .inr ⟨g,cap,b.setIfInBounds i u,rfl,hb,Af d _ _,hn,c,by simpa using f,?_⟩;rw[<-j];simp[List.take_set]
theorem F8.shape{b:Nat}{gs:List GC}(h:F8 w b v gs)(hi:0<gs.length):∃cb a,v= .slice (some ⟨cb,0,none⟩) gs.length a/\cb<w.hz/\gs.length<=a/\cb≠b/\(∀j,w.frozen? ⟨cb,j,none⟩=false):=by
 obtain⟨g,a,d,rfl,f,hb,c⟩:=An h.owns hi;refine⟨g,a,rfl,Ab hb,c,fun e=> ?_,fun j=>Ae hb j⟩;subst e;rw[h.box]at hb;simp at hb
theorem F8.cell{a cb:Nat}{gs:List GC}(h:F8 w a (.slice (some ⟨cb,0,none⟩) gs.length cap) gs){c:GC}(b:gs[i]?=some c):
  w.cell? ⟨cb,i*6,none⟩=some (.string ⟨c.sym.name.toArray⟩)/\w.cell? ⟨cb,i*6+1,none⟩=some (Vi c.sym.num)/\w.cell? ⟨cb,i*6+2,none⟩=some (Vi c.sym.args)/\w.cell? ⟨cb,i*6+3,none⟩=some (Vi c.behind)/\w.cell? ⟨cb,i*6+4,none⟩=some (Vi c.leader)/\w.cell? ⟨cb,i*6+5,none⟩=some (Vi c.size):=by
 have e:=fun j d=>Xy b j d;refine⟨Ag h.owns _ _ ?_,Ag h.owns _ _ (by rw[e 1 Yo];rfl),Ag h.owns _ _ (by rw[e 2 Yo];rfl),Ag h.owns _ _ (by rw[e 3 Yo];rfl),Ag h.owns _ _ (by rw[e 4 Yo];rfl),Ag h.owns _ _ (by rw[e 5 Yo];rfl)⟩;have:=e 0 Yo;simp only[Nat.add_zero]at this;rw[this];rfl
theorem F8.on{a:Nat}{gs:List GC}(h:F8 w a v gs)(b:∀k,k<w.hz->w'.heap[k]?=w.heap[k]?):F8 w' a v gs:=
 ⟨(b a (Ab h.box)).trans h.box,Aj h.owns (fun k e=>b k (h.owns.lt k e).2)⟩
theorem F8.ext{a:Nat}{gs:List GC}(h:F8 w a v gs)(e:Ao w w'):F8 w' a v gs:=h.on (fun k b=>e.block k b)
theorem F8.put{a cb:Nat}{gs:List GC}(h:F8 w a (.slice (some ⟨cb,0,none⟩) gs.length cap) gs){c:GC}(d:gs[x]?=some c){f:GC->GC}{j:Nat}{u:Value}(i:j<6)(g:QV (f c)=(QV c).set j u):
  F8 (w.setCell ⟨cb,x*6+j,none⟩ u) a (.slice (some ⟨cb,0,none⟩) gs.length cap) (gs.modify x f):=by
 have b:cb≠a:=by
  obtain⟨l,k,e,_,_,b,_⟩:=h.shape (by have:=(Qa.1 d).1;omega);simp at e;rw[e.1];exact b
 refine⟨(Below.heap_setCell _ _ _ _ (fun e=>b e.symm)).trans h.box,?_⟩;rw[Sr d i g,List.length_modify];exact Pn h.owns _ _
def GC.up(c:GC):AR:=⟨c.sym,[],c.leader⟩
def EH(gs:List GC)(x y:Nat):List GC:=gs.modify x (fun c=>{c with leader:=y})
theorem PF(gs:List GC)(x y:Nat):(EH gs x y).map GC.up=turn (gs.map GC.up) x y:=by
 apply List.ext_getElem?;intro i;rw[G4,Qj,EH,List.getElem?_modify,Qj]
 cases gs[i]? with
 |none=>rfl
 |some c=>simp;split<;>simp_all [GC.up]
theorem GA(gs:List GC)(x y:Nat):(EH gs x y).length=gs.length:=by simp[EH]
structure DU(gs:List GC)(l:List BL):Prop where
 len:gs.length=l.length
 all:∀i c,gs[i]?=some c->c.sym=AB l i/\c.behind=A6 l i
theorem DU.lead{gs:List GC}(h:DU gs l)(x y:Nat):DU (EH gs x y) l:=
 ⟨by rw[GA];exact h.len,fun i c a=>by
  rw[EH,List.getElem?_modify]at a
  cases hd:gs[i]? with
  |none=>rw[hd]at a;simp at a
  |some d=>
   rw[hd]at a;obtain⟨b,e⟩:=h.all i d hd;simp only[Option.map_eq_map,Option.map_some,Qo]at a;subst a;split<;>exact⟨b,e⟩⟩
theorem Fq(w:World)(l:Nat)(v:Value)(gs:List GC)(a g:Nat->Nat)(i:Nat)(h:F8 w l v gs)(q:Fa (gs.map GC.up) a g)(hi:i<gs.length)(hl:gs.length<=4000):
  Calls prog 189 #[Pt l,Vi i] w fun e w'=>e= .returned (Vi (a i))/\w'=w:=by
 obtain⟨cb,u,rfl,I,H,_,_⟩:=h.shape Yo;have A:w.cell? ⟨l,0,none⟩=some (.slice (some ⟨cb,0,none⟩) gs.length u):=Aa h.box 0 _ rfl;have K:=Ab h.box;have r:=hd h;have s:=hd q;clear h q;go_enter func189,L;go_wp2
 go_loopg [1] (g i+1) (fun gk z wr=>∃(k:Nat),z=Vi k/\k<gs.length/\g k<gk/\a k=a i/\wr=w)
 case atStart=>exact⟨i,rfl,hi,Yo,rfl,rfl⟩
 case round=>
  obtain⟨k,rfl,y,J,f,rfl⟩:=hrel;obtain⟨c,d⟩:∃c,gs[k]?=some c:=⟨_,Qb y⟩;obtain⟨B,C,D,E,F,G⟩:=r.o.cell d;obtain⟨m,b,n,p⟩:=s.o k c.up (by rw[Qj,d];rfl);have m:c.leader<gs.length:=by simpa[GC.up]using m
  have b:a c.leader=a k:=b
  by_cases e:c.leader=k
  ·have e':((c.leader:Int) !=(k:Int))=false:=by rw[e];simp
   have j:=hd (n e);have t:=hd f;clear d b n p f;go_wp2;go_ret;exact⟨by rw[<-t.o,j.o];rfl,rfl⟩
  ·have e':((c.leader:Int) !=(k:Int))=true:=by rw[bne_iff_ne];omega
   have j:=hd (b.trans f);have x:=p e;clear d b n p f;go_wp2
   go_roundg (g k)
   case measure=>omega
   case rel=>exact⟨c.leader,rfl,m,x,j.o,rfl⟩
theorem HF(w:World)(a:Nat)(v:Value)(gs:List GC)(i:Nat)(c:GC)(h:F8 w a v gs)(b:gs[i]?=some c)(hl:gs.length<=4000):
  Calls prog 190 #[Pt a,Vi i] w fun e w'=>e= .returned (.bool c.sym.name.isEmpty)/\w'=w:=by
 have hi:=(Qa.1 b).1;obtain⟨cb,d,rfl,p,o,_,_⟩:=h.shape Yo;have f:w.cell? ⟨a,0,none⟩=some (.slice (some ⟨cb,0,none⟩) gs.length d):=Aa h.box 0 _ rfl;have q:=Ab h.box;obtain⟨g,j,k,l,m,n⟩:=h.cell b;clear h b;go_enter func190,ntmps190;go_wp2;go_ret;exact⟨Ys,rfl⟩
def Dl(s t:BL):Bool:=s.name.isEmpty&&(t.name.isEmpty&&s.num==t.num)
theorem Sl(w:World)(s t:BL):
  Calls prog 207 #[.agg #[.string ⟨s.name.toArray⟩,Vi s.num,Vi s.args],.agg #[.string ⟨t.name.toArray⟩,Vi t.num,Vi t.args]] w fun e w'=>e= .returned (.bool (Dl s t))/\Ao w w':=by
 have g:Hd (∀a b c,a=s.name.isEmpty->b=t.name.isEmpty->c=(s.num==t.num)->Dl s t=(a&&(b&&c))):=fun a b c d f j=>by rw[d,f,j];rfl
 cases d:s.name.isEmpty with
 |false=>
  go_enter func207,h;go_wp2;go_ret;refine⟨?_,Mxt⟩;rw[g.o false _ _ d.symm rfl rfl];rfl
 |true=>
  cases f:t.name.isEmpty with
  |false=>
   go_enter func207,h;go_wp2;go_ret;refine⟨?_,Mxt⟩;rw[g.o true false _ d.symm f.symm rfl];rfl
  |true=>
   have i:Hd (((s.num:Int)==(t.num:Int))=(s.num==t.num)):=by
    show _=_;rw[Bool.eq_iff_iff,beq_iff_eq,beq_iff_eq];omega
   go_enter func207,h;go_wp2;go_ret;refine⟨?_,Mxt⟩;rw[g.o true true _ d.symm f.symm rfl,<-i.o];rfl
theorem Bg.swap{b:Nat->Nat}{xs a:List Nat}(h:Bg G ρ b xs a):Bg G ρ b a xs:=⟨h.rt,h.grow,h.eq.symm,h.cg,fun val d c e=>h.con val d c e.symm⟩
theorem Ew.swap{xs a:List Nat}(h:Ew G ρ xs a):Ew G ρ a xs:=fun val c b e=>h val c b e.symm
theorem Wz(c:Wf 2 l):∃a b,l=a++b/\Wf 1 a/\Wf 1 b/\Tb (Cc l) (Gb l) a b:=by
 obtain⟨a,b,e,ha,hb⟩:=IM (j:=1) (k:=1) c;exact⟨a,b,e,ha,hb,by rw[e];exact SG ha hb⟩
theorem S2(c:Wf 2 l):(Cc l).Ok:=by
 obtain⟨a,b,_,_,_,h⟩:=Wz c;exact h.ok
structure D6(gb:Nat)(v:Value)(gs:List GC)(l:List BL)(w w':World)(gs':List GC):Prop where
 at':F8 w' gb v gs'
 cells:DU gs' l
 sizes:gs'.map (·.size)=gs.map (·.size)
 kept:Ad (Ak v) w w'
 roots:BW (gs'.map GC.up)<=BW (gs.map GC.up)
def Wu(gb:Nat)(v:Value)(gs:List GC)(l:Ly)(ρ:Nat->Nat)(a b:Nat)(w:World)(e:Ending)(w':World):Prop:=∃gs',D6 gb v gs l w w' gs'/\∃ρ' rk',Fa (gs'.map GC.up) ρ' rk'/\
 ((e= .returned (.bool true)/\Bg (Cc l) ρ ρ' [a] [b])\/(e= .returned (.bool false)/\Ew (Cc l) ρ [a] [b]))
def Lo(m:Nat):Prop:=∀(w:World)(gb:Nat)(v:Value)(gs:List GC)(l:Ly)(ρ rk:Nat->Nat)(a b:Nat),F8 w gb v gs->DU gs l->Wf 2 l->Fa (gs.map GC.up) ρ rk->BW (gs.map GC.up)<=m->a<gs.length->b<gs.length->gs.length<=4000->
 Calls prog 158 #[.pointer (some ⟨gb,0,none⟩),.int .i64 a,.int .i64 b] w fun e w'=>Wu gb v gs l ρ a b w e w'
abbrev Jp(l:List BL)(x:Nat):List Nat:=(Cc l).kids x
def MX(gb:Nat)(v:Value)(gs:List GC)(l:Ly)(ρ:Nat->Nat)(x y:Nat)(w:World)(e:Ending)(w':World):Prop:=∃gs',D6 gb v gs l w w' gs'/\∃ρ' rk',Fa (gs'.map GC.up) ρ' rk'/\
    ((e= .returned (.bool true)/\(AB l x).name=(AB l y).name/\(AB l x).args=(AB l y).args/\Bg (Cc l) ρ ρ' (Jp l x) (Jp l y))\/
     (e= .returned (.bool false)/\((AB l x).name≠(AB l y).name\/(AB l x).args≠(AB l y).args\/Ew (Cc l) ρ (Jp l x) (Jp l y))))
def Lt(m:Nat):Prop:=∀(w:World)(gb:Nat)(v:Value)(gs:List GC)(l:Ly)(ρ rk:Nat->Nat)(x y:Nat),F8 w gb v gs->DU gs l->Wf 2 l->Fa (gs.map GC.up) ρ rk->BW (gs.map GC.up)<=m->x<gs.length->y<gs.length->gs.length<=4000->
 Calls prog 191 #[.pointer (some ⟨gb,0,none⟩),.int .i64 x,.int .i64 y] w fun e w'=>MX gb v gs l ρ x y w e w'
theorem D6.trans{a:Nat}{gs b c:List GC}(h:D6 a v gs l w w1 b)(k:D6 a v b l w1 w2 c):D6 a v gs l w w2 c:=
 ⟨k.at',k.cells,k.sizes.trans h.sizes,h.kept.trans k.kept,Qq k.roots h.roots⟩
theorem D6.len{b:Nat}{gs:List GC}{a:List GC}(h:D6 b v gs l w w' a):a.length=gs.length:=by simpa using congrArg List.length h.sizes
theorem Ug{m:Nat}(h:k<=m):(AW l x m).take k=AW l x k:=by
 induction m generalizing x k with
 |zero=>
  have:k=0:=Yo
  subst this;rfl
 |succ m a=>
  cases k with
  |zero=>rfl
  |succ k=>simp only[AW,Q5];rw[a Yo]
theorem MI(l:Ly)(x k:Nat):AW l x (k+1)=AW l x k++[AJ l x k]:=by
 induction k generalizing x with
 |zero=>rfl
 |succ k a=>
  have e:AW l x (k+1+1)=x::AW l (A6 l x) (k+1):=rfl;rw[e,a];rfl
theorem Ko{l:List Nat}(h:l[k]?=some n):l=l.take k++n::l.drop (k+1):=by
 obtain⟨a,e⟩:=Qa.1 h;have:=QC a;rw[e]at this;rw[<-this,List.take_append_drop]
theorem KY{m:Nat}(h:k<m):AW l x m=AW l x k++AJ l x k::(AW l x m).drop (k+1):=by
 have a:=BQ l x m k h;have:=Ko a;rw[Ug Yo]at this;exact this
theorem Pp(m:Nat)(ap:Lo m):Lt m:=by
 intro w p v gs l N a9 x y h F q a5 a2 cf cg hl;obtain⟨bv,ac⟩:∃c,gs[x]?=some c:=⟨_,Qb cf⟩;obtain⟨bw,ad⟩:∃c,gs[y]?=some c:=⟨_,Qb cg⟩;obtain⟨cb,n,rfl,co,cn,cw,cp⟩:=h.shape Yo;have aq:w.cell? ⟨p,0,none⟩=some (.slice (some ⟨cb,0,none⟩) gs.length n):=Aa h.box 0 _ rfl;have cq:=Ab h.box;obtain⟨bd,be,bf,_,_,_⟩:=h.cell ac;obtain⟨bg,bh,bi,_,_,_⟩:=h.cell ad;obtain⟨bb,_⟩:=F.all x bv ac;obtain⟨bc,_⟩:=F.all y bw ad;have cc:=F.len;obtain⟨ar,au,bx⟩:=Ft q (i:=x) Yo;obtain⟨bz,aw,b0⟩:=Ft q (i:=y) Yo;obtain⟨_,_,_,_,_,b4,_⟩:=DV q (i:=x) Yo;obtain⟨_,_,_,_,_,b5,_⟩:=DV q (i:=y) Yo;have H:∀k,k<(AB l x).args->AJ l (x+1) k<gs.length:=fun k f=>by
  have:=au _ (Qh (BQ l (x+1) _ k f));omega
 have ae:∀k,k<(AB l y).args->AJ l (y+1) k<gs.length:=fun k f=>by
  have:=aw _ (Qh (BQ l (y+1) _ k f));omega
 have b3:(AB l x).args<=4000:=by
  have cj:=congrArg List.length ar;have ck:=CO l (x+1) (AB l x).args;rcases QB 4000 (AB l x).args with W|W
  ·exfalso;have cl:=H 4000 W;have mono:∀k,k<=(AB l x).args->x+1+k<=AJ l (x+1) k:=by
    intro k
    induction k with
    |zero=>intro _;simp[AJ]
    |succ k ch=>
     intro f;have:=ch Yo;rw[BX];have:=H k Yo;obtain⟨_,_,_,_,cm,_⟩:=DV q (i:=AJ l (x+1) k) Yo;omega
   have:=mono 4000 Yo;omega
  ·exact W
 rw[bb]at bd be bf;rw[bc]at bg bh bi;obtain⟨s,K⟩:=Ex (AB l x);obtain⟨t,L⟩:=Ex (AB l y);rw[<-K]at bd be bf H b3;rw[<-L]at bg bh bi ae;have R:=hd K;have S:=hd L;have af:=hd h;have C:=hd F;have ao:=hd q;have T:=hd a5;have bq:=hd a2;have bo:=hd ap;have ah:=hd H;have ai:=hd ae;have aj:Hd (Jp l x=AW l (x+1) s.args):=by show _=_;rw[K];rfl
 have ak:Hd (Jp l y=AW l (y+1) t.args):=by show _=_;rw[L];rfl
 have cz:x<l.length:=Yo
 have c0:y<l.length:=Yo
 clear h F q a5 a2 ap H ae ac ad bb bc ar au bx bz aw b0 b4 b5 cc K L;have al:Hd (∀w',Ad A4 w w'->(s.name≠t.name\/s.args≠t.args)->MX p (.slice (some ⟨cb,0,none⟩) gs.length n) gs l N x y w (.returned (.bool false)) w'):=fun w' f hd=>by
  refine⟨gs,⟨af.o.on (fun k b7=>f.block k b7 (fun h=>h)),C.o,rfl,f.mono (fun _ _ h=>h.elim),Qe _⟩,N,a9,T.o,Or.inr ⟨rfl,?_⟩⟩;rw[<-R.o,<-S.o];rcases hd with hd|hd
  ·exact Or.inl hd
  ·exact Or.inr (Or.inl hd)
 by_cases g:s.name=t.name
 ·by_cases E:s.args=t.args
  ·have a3:(s.name !=t.name)=false:=by rw[g];simp
   have b2:((s.args:Int) !=(t.args:Int))=false:=by rw[E];simp
   have br:=hd g;have B:=hd E;clear g E;go_enter func191,a8;go_wp2
   go_loopg [9,10,11] (s.args+1) (fun gk av bu nv wr=>∃(k:Nat)(D:List GC)(I M:Nat->Nat),av=Vi (AJ l (x+1) k:Nat)/\bu=Vi (AJ l (y+1) k:Nat)/\nv=Vi k/\k<=s.args/\s.args-k<gk/\D6 p (.slice (some ⟨cb,0,none⟩) gs.length n) gs l w wr D/\Fa (D.map GC.up) I M/\
    Bg (Cc l) N I (AW l (x+1) k) (AW l (y+1) k)/\wr.heap[w.hz]?=some (.cells #[.string ⟨t.name.toArray⟩,Vi s.num,Vi s.args] 133 (0,0)))
   case atStart=>
    have a4:=T.o.rt;rw[Ql,C.o.len]at a4;refine⟨0,gs,N,a9,by simp[AJ],by simp[AJ],Yg,Qm _,Yo,⟨af.o.ext Mxt,C.o,rfl,((Ad.refl _ w).alloc _).alloc _,Qe _⟩,T.o,Bg.nil a4,?_⟩;have:=Ah (QL w (.cells #[.string ⟨t.name.toArray⟩,Vi s.num,Vi s.args] 133)) (.cells #[.string ⟨t.name.toArray⟩,Vi t.num,Vi t.args] 133);simpa using this
   case round=>
    obtain⟨k,D,I,M,rfl,rfl,rfl,f,ct,z,a6,A,J⟩:=hrel;obtain⟨c1,c2,s2,c3⟩:=BB J;have cy:=z.kept.size;have b8:=z.len;have aq:wr.cell? ⟨p,0,none⟩=some (.slice (some ⟨cb,0,none⟩) gs.length n):=Aa z.at'.box 0 _ rfl;have cr:=Ab z.at'.box;have ce:=Ab J;have r:=hd z;have am:=hd a6;have Q:=hd A;have bl:=hd J;clear z a6 A J
    by_cases a1:k<s.args
    ·have ha:=ah.o k a1;have hb:=ai.o k (by have:=B.o;omega);obtain⟨U,X⟩:∃a,a=AJ l (x+1) k:=⟨_,rfl⟩;obtain⟨V,Z⟩:∃b,b=AJ l (y+1) k:=⟨_,rfl⟩;rw[<-X]at ha⊢;rw[<-Z]at hb⊢;have cu:¬((gs.length:Int)<=(U:Int)):=Yo
     have cv:¬((gs.length:Int)<=(V:Int)):=Yo
     have bk:=hd (bo.o wr p (.slice (some ⟨cb,0,none⟩) gs.length n) D l I M U V r.o.at' r.o.cells ao.o am.o (Qq r.o.roots bq.o) Yo Yo Yo);have O:=hd X;have P:=hd Z;clear X Z;go_wp2_with fail;apply bk.o.mono;rintro e w1 ⟨u,d,bj,ba,a7,cd⟩;have b9:=d.len;have ax:=(d.kept.block _ ce (fun e=>by
      have e:cb=w.hz:=by simpa[Ak,Value.ownBlock]using e
      omega)).trans bl.o
     have aq:w1.cell? ⟨p,0,none⟩=some (.slice (some ⟨cb,0,none⟩) gs.length n):=Aa d.at'.box 0 _ rfl;have cs:=Ab d.at'.box;have cx:=d.kept.size;obtain⟨ca,aa⟩:∃c,u[U]?=some c:=⟨_,Qb Yo⟩;obtain⟨ci,ab⟩:∃c,u[V]?=some c:=⟨_,Qb Yo⟩;have Y:F8 w1 p (.slice (some ⟨cb,0,none⟩) u.length n) u:=by rw[b9,b8];exact d.at'
     obtain⟨_,_,_,bs,_,_⟩:=Y.cell aa;obtain⟨_,_,_,bt,_,_⟩:=Y.cell ab;rw[(d.cells.all _ _ aa).2]at bs;rw[(d.cells.all _ _ ab).2]at bt;have ag:=hd d;have an:=hd a7;have bm:=hd ax;clear d a7 ax Y aa ab;rcases cd with⟨rfl,a0⟩|⟨rfl,az⟩
     ·have bp:=hd a0;clear a0;go_wp2
      go_roundg (s.args-k)
      case measure=>omega
      case rel=>
       refine⟨k+1,u,bj,ba,by rw[BX,<-O.o],by rw[BX,<-P.o],Yg,Yo,Yo,r.o.trans ag.o,an.o,?_,bm.o⟩;rw[MI,MI,<-O.o,<-P.o];have b1:=S2 ao.o;refine Bg.snoc b1 Q.o bp.o (fun j A=> ?_) (fun j A=> ?_)
       ·obtain⟨i,hi⟩:=List.mem_iff_getElem?.1 A;have G:=(Qa.1 hi).1;rw[CO]at G;rw[BQ l (x+1) k i G]at hi;simp at hi;subst hi;have:=ah.o i Yo;show _<l.length;have:=C.o.len;omega
       ·obtain⟨i,hi⟩:=List.mem_iff_getElem?.1 A;have G:=(Qa.1 hi).1;rw[CO]at G;rw[BQ l (y+1) k i G]at hi;simp at hi;subst hi;have:=ai.o i (by have:=B.o;omega);show _<l.length;have:=C.o.len;omega
     ·have bn:=hd az;clear az;go_wp2;go_ret;refine⟨u,r.o.trans ag.o,bj,ba,an.o,Or.inr ⟨rfl,Or.inr (Or.inr ?_)⟩⟩;have ay:=bn.o;rw[O.o,P.o]at ay;have:=Ew.snoc Q.o ay ((AW l (x+1) s.args).drop (k+1)) ((AW l (y+1) t.args).drop (k+1));rw[<-KY a1,<-KY (by have:=B.o;omega)]at this;rw[aj.o,ak.o];exact this
    ·have b6:k=s.args:=Yo
     subst b6;go_wp2;go_ret;refine⟨D,r.o,I,M,am.o,Or.inl ⟨rfl,?_,?_,?_⟩⟩
     ·rw[<-R.o,<-S.o];exact br.o
     ·rw[<-R.o,<-S.o];exact B.o
     ·rw[aj.o,ak.o,<-B.o];exact Q.o
  ·have a3:(s.name !=t.name)=false:=by rw[g];simp
   have b2:((s.args:Int) !=(t.args:Int))=true:=by rw[bne_iff_ne];omega
   have Hd:=hd E;clear g E;go_enter func191,a8;go_wp2
   all_goals
    go_ret;exact al.o _ (((Ad.refl _ w).alloc _).alloc _) (Or.inr Hd.o)
 ·have a3:(s.name==t.name)=false:=by simpa using g
  have Hd:=hd g;clear g;go_enter func191,a8;go_wp2
  all_goals
   go_ret;exact al.o _ (((Ad.refl _ w).alloc _).alloc _) (Or.inl Hd.o)
theorem TW(m:Nat)(a5:∀k,k<m->Lt k):Lo m:=by
 intro w j v gs l g L a b h Q ao A bc ha hb hl;have q:=A.rt;rw[Ql]at q;have B:=q.lt a ha;have r:=q.lt b hb;have ap:=q.idem a ha;have aq:=q.idem b hb;obtain⟨x,ac⟩:=Ex (g a);obtain⟨y,ae⟩:=Ex (g b);rw[<-ac]at B ap;rw[<-ae]at r aq;obtain⟨E,R⟩:∃c,gs[x]?=some c:=⟨_,Qb B⟩;obtain⟨F,ab⟩:∃c,gs[y]?=some c:=⟨_,Qb r⟩;obtain⟨cb,D,rfl,b4,b3,b7,b5⟩:=h.shape Yo;have b1:w.cell? ⟨j,0,none⟩=some (.slice (some ⟨cb,0,none⟩) gs.length D):=Aa h.box 0 _ rfl;have b6:=Ab h.box;have b8:=(h.cell R).2.2.2.2.1;have b9:=(h.cell ab).2.2.2.2.1;obtain⟨bj,_⟩:=Q.all x E R;obtain⟨bk,_⟩:=Q.all y F ab;have bx:=Q.len;rw[bx]at q;have a8:=S2 ao;have N:=hd (Fq w j _ gs g L a h A ha hl);have O:=hd (Fq w j _ gs g L b h A hb hl);rw[<-ac]at N;rw[<-ae]at O;have M:=hd (HF w j _ gs x E h R hl);have I:a<(Cc l).n:=by show a<l.length;omega
 have J:b<(Cc l).n:=by show b<l.length;omega
 have bg:∀x y,x<gs.length->y<gs.length->g x=x->g y=y->x≠y->Fa ((EH gs x y).map GC.up) (mg g x y) (fun i=>if g i=x then L i+L y+1 else L i):=fun x y d ak G bw al=>by
  rw[PF];exact A.turn (by simpa using d) (by simpa using ak) G bw al
 have bd:∀x y,x<gs.length->g x=x->x≠y->BW ((EH gs x y).map GC.up)<BW (gs.map GC.up):=fun x y d G al=>by
  rw[PF];obtain⟨b2,a6,a7,_⟩:=A.root _ x _ (Qe _) (Qb (by simpa using d));rw[G]at a6 a7;exact Fs a6 a7 al
 have bb:∀(x y:Nat) c,gs[x]?=some c->F8 (w.setCell ⟨cb,x*6+4,none⟩ (Vi y)) j (.slice (some ⟨cb,0,none⟩) gs.length D) (EH gs x y):=fun x y c d=>h.put d (f:=fun c=>{c with leader:=y}) Yo rfl;have bf:∀x y,(EH gs x y).map (·.size)=gs.map (·.size):=fun x y=>by
  apply List.ext_getElem?;intro i;rw[Qj,Qj,EH,List.getElem?_modify]
  cases gs[i]? with
  |none=>rfl
  |some c=>simp;split<;>rfl
 have ba:∀i u,Ad (Ak (.slice (some ⟨cb,0,none⟩) gs.length D)) w (w.setCell ⟨cb,i,none⟩ u):=fun i u=>(Ad.refl _ w).setCell (p:=⟨cb,i,none⟩) (fun _=>(rfl:some cb=some cb)) u;have bl:=hd h;have W:=hd Q;have bu:=hd ao;have bt:=hd A;have br:=hd bc;have s:=hd q;have U:=hd a8;have bp:=hd a5;have t:=hd ac;have z:=hd ae;have Y:=hd ap;have P:=hd aq;have bo:=hd R;have ax:=hd ab;have ah:=hd bg;have af:=hd bd;have az:=hd bb;have ag:=hd bf;have ay:=hd ba;have a2:=hd bj;have a3:=hd bk;clear h Q ao A bc q a8 a5 ac ae ap aq R ab bg bd bb bf ba bj bk
 by_cases ad:x=y
 ·have b0:((x:Int)==(y:Int))=true:=by rw[beq_iff_eq];omega
  have C:=hd ad;clear ad;go_enter func158,ntmps158;go_wp2_with fail;apply N.o.mono;rintro e w1 ⟨rfl,rfl⟩;go_wp2_with fail;apply O.o.mono;rintro e w1 ⟨rfl,rfl⟩;go_wp2;go_ret;exact⟨gs,⟨bl.o,W.o,rfl,Ad.refl _ _,Qe _⟩,g,L,bt.o,Or.inl ⟨rfl,Bg.same s.o (t.o.symm.trans (C.o.trans z.o))⟩⟩
 ·have b0:((x:Int)==(y:Int))=false:=by rw[Qu];omega
  have C:=hd ad;clear ad
  by_cases S:E.sym.name=[]
  ·have am:E.sym.name.isEmpty=true:=by simpa using S
   rw[am]at M;go_enter func158,ntmps158;go_wp2_with fail;apply N.o.mono;rintro e w1 ⟨rfl,rfl⟩;go_wp2_with fail;apply O.o.mono;rintro e w1 ⟨rfl,rfl⟩;go_wp2_with fail;apply M.o.mono;rintro e w1 ⟨rfl,rfl⟩;go_wp2;go_ret;exact⟨EH gs x y,⟨az.o x y E bo.o,W.o.lead _ _,ag.o _ _,ay.o _ _,Nat.le_of_lt (af.o x y B Y.o C.o)⟩,_,_,ah.o x y B r Y.o P.o C.o,
    Or.inl ⟨rfl,Bg.var s.o I J (Or.inl ⟨t.o,z.o⟩) C.o (by show(AB l x).name=[];rw[<-a2.o];exact S)⟩⟩
  ·have am:E.sym.name.isEmpty=false:=by simpa using S
   rw[am]at M;obtain⟨ai,aa⟩:∃bv,bv=w.setCell ⟨cb,y*6+4,none⟩ (Vi x):=⟨_,rfl⟩;have Z:=az.o y x F ax.o;rw[<-aa]at Z;have K:y≠x:=fun e=>C.o e.symm;have a9:(EH gs y x)[y]?=some {F with leader:=x}:=by
    rw[EH,List.getElem?_modify,ax.o];simp
   have V:=hd (HF ai j _ (EH gs y x) y _ Z a9 (by rw[GA];exact hl));have av:Hd (Ad (Ak (.slice (some ⟨cb,0,none⟩) gs.length D)) w ai):=by rw[aa];exact ay.o _ _
   have au:=hd Z;have aw:=hd aa;clear Z aa a9
   by_cases T:F.sym.name=[]
   ·have an:F.sym.name.isEmpty=true:=by simpa using T
    rw[an]at V;go_enter func158,ntmps158;go_wp2_with fail;apply N.o.mono;rintro e w1 ⟨rfl,rfl⟩;go_wp2_with fail;apply O.o.mono;rintro e w1 ⟨rfl,rfl⟩;go_wp2_with fail;apply M.o.mono;rintro e w1 ⟨rfl,rfl⟩;go_wp2_with fail;rw[<-aw.o];apply V.o.mono;rintro e w2 ⟨rfl,rfl⟩;go_wp2;go_ret;exact⟨EH gs y x,⟨au.o,W.o.lead _ _,ag.o _ _,av.o,Nat.le_of_lt (af.o y x r P.o K)⟩,_,_,ah.o y x r B P.o Y.o K,
     Or.inl ⟨rfl,Bg.var s.o I J (Or.inr ⟨z.o,t.o⟩) K (by show(AB l y).name=[];rw[<-a3.o];exact T)⟩⟩
   ·have an:F.sym.name.isEmpty=false:=by simpa using T
    rw[an]at V;have be:=af.o y x r P.o K;have bm:=hd (bp.o (BW ((EH gs y x).map GC.up)) (by have:=br.o;omega) ai j (.slice (some ⟨cb,0,none⟩) gs.length D) (EH gs y x) l (mg g y x) _ x y au.o (W.o.lead _ _) bu.o (ah.o y x r B P.o Y.o K) (Qe _) (by rw[GA];exact B) (by rw[GA];exact r) (by rw[GA];exact hl));have a0:Hd ((AB l x).name≠[]):=by show _≠_;rw[<-a2.o];exact S
    have X:Hd ((AB l y).name≠[]):=by show _≠_;rw[<-a3.o];exact T
    have bs:=hd be;clear S T be;go_enter func158,ntmps158;go_wp2_with fail;apply N.o.mono;rintro e w1 ⟨rfl,rfl⟩;go_wp2_with fail;apply O.o.mono;rintro e w1 ⟨rfl,rfl⟩;go_wp2_with fail;apply M.o.mono;rintro e w1 ⟨rfl,rfl⟩;go_wp2_with fail;rw[<-aw.o];apply V.o.mono;rintro e w2 ⟨rfl,rfl⟩;go_wp2_with fail;apply bm.o.mono;rintro e w2 ⟨aj,H,ar,bi,bh,bz⟩;have a1:Hd (D6 j (.slice (some ⟨cb,0,none⟩) gs.length D) gs l w1 w2 aj):=⟨H.at',H.cells,H.sizes.trans (ag.o _ _),av.o.trans H.kept,Qq H.roots (Nat.le_of_lt bs.o)⟩;have a4:=hd bh;clear H bh;rcases bz with⟨rfl,d,ak,G⟩|⟨rfl,d⟩
    ·have bq:Hd (Bg (Cc l) g ar [a] [b]):=Bg.name U.o s.o I J (Or.inr ⟨z.o,t.o⟩) K X.o d.symm G.swap;clear d ak G;go_wp2;go_ret;exact⟨aj,a1.o,ar,bi,a4.o,Or.inl ⟨rfl,bq.o⟩⟩
    ·have bn:Hd (Ew (Cc l) g [a] [b]):=by
      by_cases hn:(AB l x).name=(AB l y).name
      ·rcases d with d|d|d
       ·exact absurd hn d
       ·exact Hv U.o s.o I J (Or.inr ⟨z.o,t.o⟩) X.o a0.o (Or.inr (fun e=>d e.symm))
       ·exact LA U.o s.o I J (Or.inr ⟨z.o,t.o⟩) X.o hn.symm d.swap
      ·exact Hv U.o s.o I J (Or.inr ⟨z.o,t.o⟩) X.o a0.o (Or.inl (fun e=>hn e.symm))
     clear d;go_wp2;go_ret;exact⟨aj,a1.o,ar,bi,a4.o,Or.inr ⟨rfl,bn.o⟩⟩
theorem VX(m:Nat):Lo m:=by
 induction m using Nat.strongRecOn with
 |_ m b=>exact TW m (fun k a=>Pp k (b k a))
def DS(l:Ly)(gs:List GC)(p:Nat):List GC:=gs.mapIdx (fun i c=>if p<=i then{c with behind:=A6 l i}else c)
theorem E0(l:Ly)(gs:List GC)(p i:Nat):(DS l gs p)[i]?=(gs[i]?).map (fun c=>if p<=i then{c with behind:=A6 l i}else c):=by
 unfold DS;rw[List.getElem?_mapIdx]
theorem EN(l:Ly)(gs:List GC)(p:Nat):(DS l gs p).length=gs.length:=by simp[DS]
theorem SZ{gs:List GC}:(DS l gs (p+1)).modify p (fun c=>{c with behind:=A6 l p})=DS l gs p:=by
 apply List.ext_getElem?;intro i;rw[List.getElem?_modify,E0,E0]
 cases gs[i]? with
 |none=>rfl
 |some c=>
  simp
  by_cases e:p=i
  ·subst e;have a:¬p+1<=p:=Yo
   simp[a]
  ·rw[if_neg e]
   by_cases h:p+1<=i
   ·rw[if_pos h,if_pos Yo]
   ·rw[if_neg h,if_neg Yo]
theorem TN(l:Ly)(gs:List GC)(p:Nat)(h:gs.length<=p):DS l gs p=gs:=by
 apply List.ext_getElem?;intro i;rw[E0]
 cases a:gs[i]? with
 |none=>rfl
 |some c=>
  have:=(Qa.1 a).1;simp;omega
theorem NL(w:World)(b:Nat)(v:Value)(gs:List GC)(l:Ly)(h:F8 w b v gs)(s:gs.length=l.length)(Q:∀i c,gs[i]?=some c->c.sym=AB l i)(H:Wf 2 l)(hl:gs.length<=4000):
  Calls prog 188 #[Pt b] w fun e w'=>e=Rq #[]/\F8 w' b v (DS l gs 0)/\Ad (Ak v) w w':=by
 have P:0<gs.length:=by have:=BN H;omega
 obtain⟨cb,m,rfl,aw,av,a4,ay⟩:=h.shape P;have Y:w.cell? ⟨b,0,none⟩=some (.slice (some ⟨cb,0,none⟩) gs.length m):=Aa h.box 0 _ rfl;have a0:=Ab h.box;have S:=hd h;have X:=hd Q;have y:=hd H;have W:=hd s;clear h Q H s;go_enter func188,a9;go_wp2
 go_loopg [2] (gs.length+1) (fun gk aj wr=>∃(p:Nat),aj=Vi ((p:Int)-1)/\p<=gs.length/\p<gk/\F8 wr b (.slice (some ⟨cb,0,none⟩) gs.length m) (DS l gs p)/\Ad (Ak (.slice (some ⟨cb,0,none⟩) gs.length m)) w wr)
 case atStart=>exact⟨gs.length,rfl,Qe _,Yo,by rw[TN _ _ _ (Qe _)];exact S.o,Ad.refl _ _⟩
 case round=>
  obtain⟨p,rfl,a6,a2,n,G⟩:=hrel;have a8:=G.size;have Y:wr.cell? ⟨b,0,none⟩=some (.slice (some ⟨cb,0,none⟩) gs.length m):=Aa n.box 0 _ rfl;have a1:=Ab n.box;have ax:cb<wr.hz:=Yo
  have az:∀j,wr.frozen? ⟨cb,j,none⟩=false:=by
   obtain⟨aq,ap,e,_,_,_,ad⟩:=n.shape (by rw[EN];exact P);simp at e;obtain⟨rfl,_⟩:=e;exact ad
  have I:=hd n;have K:=hd G;clear n G
  cases p with
  |zero=>
   have a5:¬((0:Int)<=((0:Nat):Int)-1):=Yo
   go_wp2;go_end0;exact⟨rfl,I.o,K.o⟩
  |succ p=>
   have af:(((p+1:Nat):Int)-1)=(p:Int):=Yo
   have a7:(0:Int)<=(p:Int):=Yo
   have ag:p<gs.length:=Yo
   obtain⟨c,D⟩:∃c,gs[p]?=some c:=⟨_,Qb ag⟩;have E:(DS l gs (p+1))[p]?=some c:=by rw[E0,D];simp;intro h;omega
   have C:F8 wr b (.slice (some ⟨cb,0,none⟩) (DS l gs (p+1)).length m) (DS l gs (p+1)):=by rw[EN];exact I.o
   obtain⟨_,_,an,ao,_,_⟩:=C.cell E;have R:=X.o p c D;have s:=W.o;obtain⟨L,z,A⟩:=Ft y.o (i:=p) Yo;obtain⟨_,_,_,_,_,O,_⟩:=DV y.o (i:=p) Yo;rw[<-R]at L z A;have r:∀k,k<c.sym.args->p<AJ l (p+1) k/\AJ l (p+1) k<gs.length:=fun k F=>by
    have:=z _ (Qh (BQ l (p+1) _ k F));omega
   have au:c.sym.args<=4000:=by
    rcases QB 4000 c.sym.args with B|B
    ·exfalso;have mono:∀k,k<=c.sym.args->p+1+k<=AJ l (p+1) k:=by
      intro k
      induction k with
      |zero=>intro _;simp[AJ]
      |succ k ai=>
       intro F;have:=ai Yo;rw[BX];have:=r k Yo;obtain⟨_,_,_,_,ar,_⟩:=DV y.o (i:=AJ l (p+1) k) Yo;omega
     have:=mono 4000 Yo;have:=r 4000 B;omega
    ·exact B
   have V:=hd r;have U:=hd A;have T:=hd E;have J:=hd C;have am:=hd O;clear r L z A E C O R D s;obtain⟨al,ah⟩:∃x,x=wr:=⟨_,rfl⟩;subst ah;rw[af];go_wp2
   go_loopg [3,4] (c.sym.args+1) (fun gk aa nv wr=>∃(k:Nat),aa=Vi (AJ l (p+1) k:Nat)/\nv=Vi k/\k<=c.sym.args/\c.sym.args-k<gk/\wr=al)
   case atStart=>exact⟨0,by simp[AJ],Yg,Qm _,Yo,rfl⟩
   case round=>
    obtain⟨k,rfl,rfl,F,a3,rfl⟩:=hrel
    by_cases ae:k<c.sym.args
    ·obtain⟨ab,M⟩:=V.o k ae;obtain⟨q,g⟩:=Ex (AJ l (p+1) k);rw[<-g]at ab M⊢;obtain⟨Z,a⟩:∃c,(DS l gs (p+1))[q]?=some c:=⟨_,Qb (by rw[EN];exact M)⟩;obtain⟨_,_,_,ak,_,_⟩:=J.o.cell a;have N:Z.behind=A6 l q:=by
      rw[E0]at a
      cases hd:gs[q]? with
      |none=>rw[hd]at a;simp at a
      |some d=>
       rw[hd]at a;simp at a;rw[if_pos Yo]at a;rw[<-a]
     rw[N]at ak;have t:=hd g;clear a N g;go_wp2
     go_roundg (c.sym.args-k)
     case measure=>omega
     case rel=>exact⟨k+1,by rw[BX,<-t.o],Yg,Yo,Yo,rfl⟩
    ·have ac:k=c.sym.args:=Yo
     subst ac;obtain⟨q,g⟩:=Ex (AJ l (p+1) c.sym.args);rw[<-g];have t:=hd g;clear g;go_wp2
     go_roundg (p+1)
     case measure=>omega
     case rel=>
      refine⟨p,by rfl,Yo,Yo,?_,K.o.trans ((Ad.refl _ wr).setCell (p:=⟨cb,p*6+3,none⟩) (fun _=>(rfl:some cb=some cb)) _)⟩;have:=J.o.put T.o (f:=fun c=>{c with behind:=A6 l p}) (j:=3) (u:=Vi (A6 l p:Nat)) Yo rfl;rw[SZ,EN]at this;rw[t.o,U.o];exact this
end Go.Proofs.YtlmjilpjmgjjcaaGreatDoor
