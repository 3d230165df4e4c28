/-
  PROVED HERE: the program's own Explain answers as the document does; so the given card of the law 'Explains' holds.
-/
import Derived.Test.YtlmjilpjmgjjcaaGreatDoorT7
set_option linter.unusedSimpArgs false
set_option linter.unusedVariables false
set_option maxRecDepth 10000
set_option maxHeartbeats 4000000
namespace Go.Proofs.YtlmjilpjmgjjcaaGreatDoor
open Go.RowKit
open _root_.Go.Proofs.Tryz
open Go.Value (int slice string agg pointer tuple)
open Go.IntKind (i64)
open Go.Ending (returned)
variable {w w' w1 w2 w0 wr:World}{k B b i p size cap M rb bW x:Nat}{v cv gv vv lv:Value}{xs ys vs:Lv}{X Y S:Np}{s:ByteArray}{t e:TypeId}{P:Program}{l:Ly}{ls ts:Ll}{ρ:Nat->Nat}{σ:Nat->Ly}{cs:Lc}{c:Db}{a:Ll×At}{ds r:Ln}{st:RS}{L:Bj}{G:Gr}{A:List Lu}
attribute [local simp] Yj EB IB pa Ph.kd Ph.val Kd.val
structure Yf(p q x:ByteArray)(a:List (List BJ)×At)(ks:List Nat)(n m:ND):Prop where
 ask:Cn q=some a
 held:Bm p q x=(a.2,m,0,0)
 ok:FM n
 nm:NG n
 few:Mt n
 same:Cl n m
 fol:∃cs,Bz p=some cs/\Az cs (AN a) ks 0=(m,0,0)
def Cx:Value:= .agg #[.slice none 0 0,.slice none 0 0,.slice none 0 0,.slice none 0 0,.int .i64 0,.slice none 0 0,.slice none 0 0]
def Pq(p q x:ByteArray)(w:World)(e:Ending)(w':World):Prop:=Ao w w'/\
 (((Bm p q x).2.2.1≠0/\e= .returned (.tuple #[Cx,.agg #[.int .i64 (Bm p q x).2.2.1,.int .i64 (Bm p q x).2.2.2]]))\/
  (∃a ks n m,Yf p q x a ks n m/\∃n1 nc g1 g2 g3 v1 v2 v3 r1 r2 r3,∃uu:Nat,∃k1 kc d1 dc,e= .returned (.tuple #[.agg #[.slice n1 a.2.length nc,.slice g1 g2 g3,.slice v1 v2 v3,.slice r1 r2 r3,.int .i64 uu,.slice k1 ks.length kc,.slice d1 (m.done.map (·.2)).length dc],.agg #[.int .i64 0,.int .i64 0]])/\
   F1 w' (.slice g1 g2 g3) (.slice v1 v2 v3) (.slice r1 r2 r3) n/\w'.ownsRow 0 9 1 (.slice n1 a.2.length nc) a.2.length (Ba a.2)/\w'.ownsRow 0 3 1 (.slice k1 ks.length kc) ks.length (AM ks)/\w'.ownsRow 0 3 1 (.slice d1 (m.done.map (·.2)).length dc) (m.done.map (·.2)).length (AM (m.done.map (·.2)))))
theorem Mk(p q x:ByteArray)(w:World)(cy:p.size<=maxLen)(cz:q.size<=maxLen)(c2:x.size<=maxLen):Calls prog 42 #[string p,string q,string x] w (Pq p q x w):=by
 have db:=Yh (fun u=>Ka p q u cy cz);have dj:=Yh (fun u=>Vt x u c2);clear cy cz c2;obtain⟨V,aa⟩:=Ex ((w.alloc (.cells #[Nl,Nl,Nl,Nl,int i64 0,Nl,Nl] 89)).alloc (.cells #[int i64 0,int i64 0] 91));have cb:Ao w V:=by rw[aa];exact Mxt
 have d0:V.heap.size=w.heap.size+2:=by rw[aa];simp
 have bf:V.heap[w.heap.size]?=some (.cells #[Nl,Nl,Nl,Nl,int i64 0,Nl,Nl] 89 (0,0)):=by rw[aa];exact Ah (QL w _) _
 have bg:V.heap[w.heap.size+1]?=some (.cells #[int i64 0,int i64 0] 91 (0,0)):=by rw[aa];exact CO Ys _
 have a2:YH (∀y,Ao V y->y.cell? ⟨w.heap.size,0,none⟩=some Nl/\y.cell? ⟨w.heap.size,1,none⟩=some Nl/\y.cell? ⟨w.heap.size,2,none⟩=some Nl/\y.cell? ⟨w.heap.size,3,none⟩=some Nl/\y.cell? ⟨w.heap.size,4,none⟩=some (int i64 0)/\y.cell? ⟨w.heap.size,5,none⟩=some Nl/\y.cell? ⟨w.heap.size,6,none⟩=some Nl/\(∀i,y.frozen? ⟨w.heap.size,i,none⟩=false)/\
   y.cell? ⟨w.heap.size+1,0,none⟩=some (int i64 0)/\y.cell? ⟨w.heap.size+1,1,none⟩=some (int i64 0)/\(∀i,y.frozen? ⟨w.heap.size+1,i,none⟩=false)/\w.heap.size<y.heap.size/\w.heap.size+1<y.heap.size):=fun y d=>by
  have C:=(d.block _ (Ac bf)).trans bf;have a5:=(d.block _ (Ac bg)).trans bg;exact⟨Aa C 0 _ rfl,Aa C 1 _ rfl,Aa C 2 _ rfl,Aa C 3 _ rfl,Aa C 4 _ rfl,Aa C 5 _ rfl,Aa C 6 _ rfl,fun i=>Ag C i,Aa a5 0 _ rfl,Aa a5 1 _ rfl,fun i=>Ag a5 i,Ac C,Ac a5⟩
 have b5:=Yh bf;have b6:=Yh bg;have de:=Yh cb;clear bf bg cb;go_enter func42,ntmps42;go_wp2_with fail;rw[<-aa];clear aa;apply(db.o V).mono;rintro e w1 ⟨ah,T⟩;obtain⟨H,I,J,K,L,N,O,P,E,F,G,Q,fl⟩:=a2.o w1 ah;have d2:=ah.size;have cc:Ao w w1:=de.o.trans (ah.mono Yo);have bl:=Yh ah;have bn:=Yh cc;clear ah cc;rcases T with⟨an,rfl⟩|⟨⟨cs,R⟩,an,rfl⟩|⟨cs,a,c5,lc,xs,a6,a7,a8,b1,a4,U,nc,R,ak,rfl,cm,b9,ch⟩
 ·have z:YH ((Bm p q x).2.2=(4,0)):=by show _=_;simp[Bm,an]
  clear an;go_wp2;refine Jb (v:=tuple #[Cx,agg #[int i64 4,int i64 0]]) (by simp[results,results42,go_sem,Cx,H,I,J,K,L,N,O,P,E,F,G,Q,fl]) rfl ?_;exact⟨bn.o.trans (Ad.below (S:=fun i=>w.heap.size<=i) Mst Yo (fun i e=>e)),QG (by rw[z.o];exact⟨Ys,rfl⟩)⟩
 ·have z:YH ((Bm p q x).2.2=(5,0)):=by show _=_;simp[Bm,R,an]
  clear an R;go_wp2;refine Jb (v:=tuple #[Cx,agg #[int i64 5,int i64 0]]) (by simp[results,results42,go_sem,Cx,H,I,J,K,L,N,O,P,E,F,G,Q,fl]) rfl ?_;exact⟨bn.o.trans (Ad.below (S:=fun i=>w.heap.size<=i) Mst Yo (fun i e=>e)),QG (by rw[z.o];exact⟨Ys,rfl⟩)⟩
 ·obtain⟨_,_,_,ck,cj,co,_,dw,_⟩:=Cq ak;obtain⟨_,_,_,ca,cq⟩:=Cv R;have bp:YH (Bm p q x=if 400<x.size then([],⟨[],[],[],[],0⟩,1,0)else match Bl x with
   | (none,at')=>([],⟨[],[],[],[],0⟩,6,at')
   | (some ks,_)=>(a.2,Az cs (AN a) ks 0)):=by show _=_;unfold Bm;rw[R,ak];rfl
  have dk:=Yh cm;have c9:=Yh b9;have HN:=Yh ch;have di:=Yh ck;have dh:=Yh cj;have dg:=Yh (NN ak);have dd:=Yh (K9 R);have bz:YH (∀c∈cs,KR c/\Ry c):=ca;have dl:=Yh ak;have dm:=Yh R;clear cm b9 ch ck cj ca ak R;go_wp2_with fail;apply(dj.o _).mono;rintro e w2 ⟨bb,T⟩;have c3:=bb.size;have c3:w1.heap.size+1<=w2.heap.size:=by simpa using c3
  have ba:Ao w1 w2:=(Jc _ w1|>.alloc (Qe _) _).trans (bb.mono Ys);have al:w2.heap[w1.heap.size]?=some (.cells #[slice a6 a7 a8,slice b1 a.1.length a4,slice U a.2.length nc] 107 (0,0)):=(bb.block _ Ys).trans (QL w1 _);have cd:Ao w w2:=bn.o.trans (ba.mono Yo);obtain⟨H,I,J,K,L,N,O,P,E,F,G,Q,fl⟩:=a2.o w2 (bl.o.trans (ba.mono Yo));have q0:=Aa al 0 _ rfl;have c8:=Aa al 1 _ rfl;have bk:=Aa al 2 _ rfl;have au:=Ac al;have ad:=Yh ba;have a3:=Yh cd;clear bb ba cd al;rcases T with⟨cp,rfl⟩|⟨d1,⟨ks,aq,ar,ao,rfl,ac,cv,bv⟩|⟨c7,ao,rfl⟩⟩
  ·have z:YH ((Bm p q x).2.2=(1,0)):=by show _=_;rw[bp.o,QQ cp]
   clear cp;go_wp2_with fail;go_region
   all_goals
    go_wp2;refine Jb (v:=tuple #[Cx,agg #[int i64 1,int i64 0]]) (by simp[results,results42,go_sem,Cx,H,I,J,K,L,N,O,P,E,F,G,Q,fl]) rfl ?_;exact⟨a3.o.trans (Ad.below (S:=fun i=>w.heap.size<=i) Mst Yo (fun i e=>e)),QG (by rw[z.o];exact⟨Ys,rfl⟩)⟩
  ·have b7:YH (Bm p q x=(a.2,Az cs (AN a) ks 0)):=by show _=_;rw[bp.o,QP Yo,ao]
   have bs:=dk.o.ext ad.o;have br:=c9.o.ext ad.o;have Z:=Aj HN.o (fun j b=>ad.o.block j (HN.o.lt j b).2);have b3:YH (∀o,Calls prog 68 #[slice c5 cs.length lc,agg #[slice a6 a7 a8,slice b1 a.1.length a4,slice U a.2.length nc],slice aq ks.length ar] (w2.alloc o) (GG cs a ks (w2.alloc o))):=fun o=>by
    have d:Ao w2 (w2.alloc o):=Mxt;exact OY _ _ _ _ _ _ cs xs a ks (bs.ext d) ⟨_,_,_,rfl⟩ (br.ext d) (Aj Z (fun j b=>d.block j (Z.lt j b).2)) (Aj ac (fun j b=>d.block j (ac.lt j b).2)) bz.o dd.o cq di.o dh.o dg.o co dw cv bv
   have b0:YH ((Az cs (AN a) ks 0).2=(0,0)->∀y,Ao w2 y->Calls prog 69 #[slice c5 cs.length lc,agg #[slice a6 a7 a8,slice b1 a.1.length a4,slice U a.2.length nc],slice aq ks.length ar] y (WG ((Az cs (AN a) ks 0).1.done.map (·.2)) y)):=fun dy y d=>
    NH y _ _ _ _ _ cs xs a ks (bs.ext d) ⟨_,_,_,rfl⟩ (br.ext d) (Aj Z (fun j b=>d.block j (Z.lt j b).2)) (Aj ac (fun j b=>d.block j (ac.lt j b).2)) (fun c dx=>(bz.o c dx).1) cq co cv bv dy
   have b4:=Yh Z;have b8:=Yh ac;clear bs br Z ac bv ao;go_wp2_with fail;apply(b3.o _).mono;rintro e w3 ⟨bc,T⟩;have c4:=bc.size;have c4:w2.heap.size+1<=w3.heap.size:=by simpa using c4
   have W:Ao w2 w3:=(Jc _ w2|>.alloc (Qe _) _).trans (bc.mono Ys);have ab:w3.heap[w2.heap.size]?=some (.cells #[int i64 0,int i64 0] 91 (0,0)):=(bc.block _ Ys).trans (QL w2 _);have ce:Ao w w3:=a3.o.trans (W.mono Yo);obtain⟨H,I,J,K,L,N,O,P,E,F,G,Q,fl⟩:=a2.o w3 (bl.o.trans ((ad.o.mono Yo).trans (W.mono Yo)));have d4:=Aa ab 0 _ rfl;have d5:=Aa ab 1 _ rfl;have d6:=fun i=>Ag ab i;have d7:=Ac ab;have q0:w3.cell? ⟨w1.heap.size,0,none⟩=some (slice a6 a7 a8):=(W.cell (p:=⟨w1.heap.size,0,none⟩) au).trans q0;have c8:w3.cell? ⟨w1.heap.size,1,none⟩=some (slice b1 a.1.length a4):=(W.cell (p:=⟨w1.heap.size,1,none⟩) au).trans c8;have bk:w3.cell? ⟨w1.heap.size,2,none⟩=some (slice U a.2.length nc):=(W.cell (p:=⟨w1.heap.size,2,none⟩) au).trans bk;have d3:w1.heap.size<w3.heap.size:=Yo
   have bm:=Yh W;have df:=Yh ce;have dn:=Yh ab;clear bc W ce ab b3;rcases T with⟨bw,rfl⟩|⟨hz,ae,af,ag,az,a0,a1,av,aw,ax,ay,n,rfl,cl,cx,cw,ct,c0⟩
   ·obtain⟨bq,bi⟩:∃r,r=(Az cs (AN a) ks 0).2.1:=⟨_,rfl⟩;obtain⟨c6,bx⟩:∃r,r=(Az cs (AN a) ks 0).2.2:=⟨_,rfl⟩;rw[<-bi,<-bx];rw[<-bi]at bw;have z:YH ((Bm p q x).2.2.1=bq/\(Bm p q x).2.2.2=c6):=by show _/\_;rw[b7.o];exact⟨bi.symm,bx.symm⟩
    have hb:((bq:Int) !=0)=true:=by rw[QR];omega
    have dq:=Yh bw;clear bi bx bw;go_wp2_with fail;go_region
    all_goals
     go_wp2;refine Jb (v:=tuple #[Cx,agg #[int i64 bq,int i64 c6]]) (by simp[results,results42,go_sem,Cx,H,I,J,K,L,N,O,P,E,F,G,Q,fl]) rfl ?_;exact⟨df.o.trans (Ad.below (S:=fun i=>w.heap.size<=i) Mst Yo (fun i e=>e)),QG (by rw[z.o.1,z.o.2];exact⟨dq.o,rfl⟩)⟩
   ·have bo:=Yh cl;have ds:=Yh cx;have dr:=Yh cw;have dp:=Yh ct;have du:=Yh c0;have dv:=Yh hz;have b2:=Yh (b0.o hz);clear cl cx cw ct c0 hz b0;go_wp2_with fail;refine(b2.o _ (bm.o.trans (Ad.below (S:=fun i=>w2.heap.size<=i) Mst Yo (fun i e=>e)))).mono ?_;rintro e w4 ⟨ai,da,dc,rfl,bh⟩;obtain⟨M,be⟩:=Ex ((Az cs (AN a) ks 0).1);rw[<-be]at bh⊢;have bu:Az cs (AN a) ks 0=(M,0,0):=by rw[be,<-dv.o]
    have c1:Cl n M:=by rw[be];exact du.o
    have dz:=ai.size;simp at dz;have X:Ao w2 w4:=(bm.o.trans (Ad.below (S:=fun i=>w2.heap.size<=i) Mst Yo (fun i e=>e))).trans (ai.mono Yp);have cg:Ad (fun j=>j=w2.heap.size) w3 ((w3.setCell ⟨w2.heap.size,0,none⟩ (int i64 0)).setCell ⟨w2.heap.size,1,none⟩ (int i64 0)):=((Ad.refl (only w2.heap.size) w3).put 0 _).put 1 _;have cn:∀{v:Value}{ls:Ll},AF w3 v ls->AF w4 v ls:=fun{v ls} h=>((h.box dn.o Yd Yd cg).ext (Mxt:Ao _ (((w3.setCell ⟨w2.heap.size,0,none⟩ (int i64 0)).setCell ⟨w2.heap.size,1,none⟩ (int i64 0)).alloc (.cells #[slice ae af ag,slice az a0 a1,slice av aw ax,int i64 ay] 87)))).ext ai;have am:w4.heap[w3.heap.size]?=some (.cells #[slice ae af ag,slice az a0 a1,slice av aw ax,int i64 ay] 87 (0,0)):=(ai.block _ Ys).trans (CO Ys _);have cf:Ao w w4:=a3.o.trans (X.mono Yo);have bd:Ao V w4:=bl.o.trans ((ad.o.mono Yo).trans (X.mono Yo));obtain⟨H,I,J,K,L,N,O,P,E,F,G,Q,fl⟩:=a2.o w4 bd;have ap:=(bd.block _ (Ac b5.o)).trans b5.o;have cr:=(bd.block _ (Ac b6.o)).trans b6.o;have d8:=Aa am 0 _ rfl;have d9:=Aa am 1 _ rfl;have ea:=Aa am 2 _ rfl;have eb:=Aa am 3 _ rfl;have bk:w4.cell? ⟨w1.heap.size,2,none⟩=some (slice U a.2.length nc):=(X.cell (p:=⟨w1.heap.size,2,none⟩) au).trans ((bm.o.cell (p:=⟨w1.heap.size,2,none⟩) au).symm.trans bk)
    have ci:=Aj b4.o (fun j b=>X.block j (b4.o.lt j b).2);have cu:=Aj b8.o (fun j b=>X.block j (b8.o.lt j b).2);obtain⟨D,a9⟩:=Ex (M.done.map (·.2));rw[<-a9]at bh⊢;have Y:∀f g k l m s t,Ad (fun j=>j=w.heap.size) w4 (((((((w4.setCell ⟨w.heap.size,0,none⟩ f).setCell ⟨w.heap.size,1,none⟩ g).setCell ⟨w.heap.size,2,none⟩ k).setCell ⟨w.heap.size,3,none⟩ l).setCell ⟨w.heap.size,4,none⟩ m).setCell ⟨w.heap.size,5,none⟩ s).setCell ⟨w.heap.size,6,none⟩ t):=fun f g k l m s t=>(((((((Ad.refl (only w.heap.size) w4).put 0 _).put 1 _).put 2 _).put 3 _).put 4 _).put 5 _).put 6 _;have aj:∀(y:World) A B,Ad (fun j=>j=w.heap.size+1) y ((y.setCell ⟨w.heap.size+1,0,none⟩ A).setCell ⟨w.heap.size+1,1,none⟩ B):=fun y A B=>((Ad.refl (only (w.heap.size+1)) y).put 0 _).put 1 _;have T:∀f g k l m s t A B,Pq p q x w (Rq #[agg #[slice U a.2.length nc,slice ae af ag,slice az a0 a1,slice av aw ax,int i64 ay,slice aq ks.length ar,slice da D.length dc],agg #[int i64 0,int i64 0]]) (((((((((w4.setCell ⟨w.heap.size,0,none⟩ f).setCell ⟨w.heap.size,1,none⟩ g).setCell ⟨w.heap.size,2,none⟩ k).setCell ⟨w.heap.size,3,none⟩ l).setCell ⟨w.heap.size,4,none⟩ m).setCell ⟨w.heap.size,5,none⟩ s).setCell ⟨w.heap.size,6,none⟩ t).setCell ⟨w.heap.size+1,0,none⟩ A).setCell ⟨w.heap.size+1,1,none⟩ B):=fun f g k l m s t A B=>by
     have bj:=((Y f g k l m s t).block _ fl Ys).trans cr;have bt:∀{v:Value}{ls:Ll},AF w3 v ls->AF (((((((((w4.setCell ⟨w.heap.size,0,none⟩ f).setCell ⟨w.heap.size,1,none⟩ g).setCell ⟨w.heap.size,2,none⟩ k).setCell ⟨w.heap.size,3,none⟩ l).setCell ⟨w.heap.size,4,none⟩ m).setCell ⟨w.heap.size,5,none⟩ s).setCell ⟨w.heap.size,6,none⟩ t).setCell ⟨w.heap.size+1,0,none⟩ A).setCell ⟨w.heap.size+1,1,none⟩ B) v ls:=fun{v ls} h=>
      ((cn h).box ap Yd Yd (Y f g k l m s t)).box bj Yd Yd (aj _ A B)
     refine⟨cf.trans (Ad.below (S:=fun i=>w.heap.size<=i) Mst Yo (fun i e=>e)),QO ⟨a,ks,n,M,⟨dl.o,by rw[b7.o,bu],ds.o,dr.o,dp.o,c1,cs,dm.o,bu⟩,U,nc,ae,af,ag,az,a0,a1,av,aw,ax,ay,aq,ar,da,dc,by rw[<-a9],⟨bt bo.o.goals,bt bo.o.vals,bt bo.o.done⟩,?_,?_,?_⟩⟩
     ·exact Bv (Bv ci ap Yd (Y f g k l m s t)) bj Yd (aj _ A B)
     ·exact Bv (Bv cu ap Yd (Y f g k l m s t)) bj Yd (aj _ A B)
     ·rw[<-a9];exact Bv (Bv bh ap Yd (Y f g k l m s t)) bj Yd (aj _ A B)
    have dt:=Yh T;clear T Y aj cn ci cu bh X cg am cf bd ap cr bu c1 ai be a9 b2;go_wp2;refine Jb (v:=tuple #[agg #[slice U a.2.length nc,slice ae af ag,slice az a0 a1,slice av aw ax,int i64 ay,slice aq ks.length ar,slice da D.length dc],agg #[int i64 0,int i64 0]]) (by simp[results,results42,go_sem,H,I,J,K,L,N,O,P,E,F,G,Q,fl]) rfl ?_;exact dt.o _ _ _ _ _ _ _ _ _
  ·have z:YH ((Bm p q x).2.2=(6,c7)):=by show _=_;rw[bp.o,QP Yo,ao]
   clear ao;go_wp2_with fail;go_region
   all_goals
    go_wp2;refine Jb (v:=tuple #[Cx,agg #[int i64 6,int i64 c7]]) (by simp[results,results42,go_sem,Cx,H,I,J,K,L,N,O,P,E,F,G,Q,fl]) rfl ?_;exact⟨a3.o.trans (Ad.below (S:=fun i=>w.heap.size<=i) Mst Yo (fun i e=>e)),QG (by rw[z.o];exact⟨Ys,rfl⟩)⟩
theorem Uv{p:List BV->At->Option (Ly×List BV×At)}(c:∀ts names r,p ts names=some r->2*r.1.length+r.2.1.length<=ts.length+1):
  ∀(g:Nat)(ts:List BV)(names:At)(a:Ll) r,Cy p g ts names a=some r->2*r.1.flatten.length+r.2.1.length+1<=2*a.flatten.length+ts.length:=by
 intro g
 induction g with
 |zero=>intro ts names a r h;simp[Cy]at h
 |succ g e=>
  intro ts names a r h
  cases ts with
  |nil=>simp[Cy]at h
  |cons t ts=>
   rw[Cy]at h;split at h
   ·simp at h;subst h;simp only[Qf];omega
   ·split at h
    ·simp at h
    ·rename_i q d;have f:=c _ _ _ d;have b:=e _ _ _ _ h;simp only[JB,Q4,QY,Qs,Qg,Qf]at b⊢;omega
theorem UA:∀(f:Nat)(ts:List BV)(names:At) r,Bo f ts names=some r->2*r.1.length+r.2.1.length<=ts.length+1:=by
 intro f
 induction f with
 |zero=>intro ts names r h;simp[Bo]at h
 |succ f c=>
  intro ts names r h
  cases ts with
  |nil=>simp[Bo]at h
  |cons t ts=>
   rw[Bo]at h;split at h
   ·simp at h;subst h;simp only[Qf,Qt];omega
   ·cases ts with
    |nil=>simp[FF]at h
    |cons u d=>
     rw[FF]at h;split at h
     ·simp at h;subst h;simp only[Qf,Qt];omega
     ·rw[JH]at h;obtain⟨q,b,rfl⟩:=h;have a:=Uv c _ _ _ _ _ b;simp only[QY,Qt,Qf]at a⊢;omega
theorem SR{f:Nat}:∀(g:Nat)(ts:List BV)(names:At)(a:Ll) r,BG f g ts names a=some r->2*r.1.flatten.length+r.2.1.length<=2*a.flatten.length+ts.length:=by
 intro g
 induction g with
 |zero=>intro ts names a r h;simp[BG]at h
 |succ g i=>
  intro ts names a r h;rw[BG]at h;split at h
  ·simp at h
  ·rename_i q d;have b:=UA f _ _ _ d;split at h
   ·simp at h
   ·rename_i x rest e;rw[e]at b;simp only[Qf]at b;split at h
    ·simp at h;subst h;simp only[JB,Q4,QY,Qs,Qg];omega
    ·have c:=i _ _ _ _ h;simp only[JB,Q4,QY,Qs,Qg]at c;omega
theorem Jl(h:Cn s=some a):a.2.length<=60:=by
 unfold Cn at h;split at h
 ·simp at h
 ·split at h
  ·simp at h
  ·rename_i c j;have c:s.size<=120:=Yo
   obtain⟨f,_,_⟩:=BS s true;have h0:(Cp s true).1=0:=by rw[f];omega
   obtain⟨q,b,g,_⟩:=Ec s c h0;rw[b]at h;simp at h;subst h;obtain⟨i,d,_⟩:=FC 1000 0 1000 (Ap s) [] [] q (Da s) Ys rfl b;obtain⟨k,l,m⟩:=Dn _ _ _ d;have hl:=BM s;have e:=SR 1000 (Ap s) [] [] q b;simp only[QY,Qt]at e;simp only;omega
theorem RU:∀(l:Ly)(met:List Nat)(M:Nat),(AC l met).2.length<=M->(∀s∈l,s.name≠[]->s.num=0)->0<M->∀s∈(AC l met).1,s.num<M:=by
 intro l
 induction l with
 |nil=>intro met M _ _ _ s j;simp[AC]at j
 |cons s l d=>
  intro met M c hz f t b;have i:∀(l:Ly)(met:List Nat),met.length<=(AC l met).2.length:=by
   intro l
   induction l with
   |nil=>intro met;simp[AC]
   |cons s l d=>
    intro met;simp only[AC];split
    ·have:=d (Ep s.num met);have h:met.length<=(Ep s.num met).length:=by unfold Ep;split<;>simp
     simp;omega
    ·exact d met
  simp only[AC]at c b;split at b
  ·rename_i hn;rw[QQ hn]at c;simp only at c;rcases Qp.1 b with rfl|b
   ·show met.idxOf s.num<M;have h:=i l (Ep s.num met);have k:met.idxOf s.num<(Ep s.num met).length:=by
     unfold Ep;split
     ·rename_i e;rw[e];simp
     ·rename_i e;have:=List.idxOf_le_length (a:=s.num) (l:=met);omega
    omega
   ·exact d _ M c (fun u g=>hz u (by simp[g])) f t b
  ·rename_i hn;rw[QP hn]at c;simp only at c;rcases Qp.1 b with rfl|b
   ·rw[hz t Ys hn];exact f
   ·exact d _ M c (fun u g=>hz u (by simp[g])) f t b
theorem S4:∀(ts:Ll)(met:List Nat)(M:Nat),(Aw ts met).2.length<=M->(∀t∈ts,∀s∈t,s.name≠[]->s.num=0)->0<M->∀t∈(Aw ts met).1,∀s∈t,s.num<M:=by
 intro ts
 induction ts with
 |nil=>intro met M _ _ _ t b;simp[Aw]at b
 |cons u ts a=>
  intro met M c hz e t b;have f:∀(ts:Ll)(met:List Nat),met.length<=(Aw ts met).2.length:=by
   intro ts
   induction ts with
   |nil=>intro met;simp[Aw]
   |cons v ts a=>
    intro met;simp only[Aw];have d:=a (AC v met).2;have i:met.length<=(AC v met).2.length:=by
     clear d a
     induction v generalizing met with
     |nil=>simp[AC]
     |cons s l a=>
      simp only[AC];split
      ·have:=a (Ep s.num met);have d:met.length<=(Ep s.num met).length:=by unfold Ep;split<;>simp
       simp;omega
      ·exact a met
    omega
  simp only[Aw]at c b;rcases Qp.1 b with rfl|b
  ·exact RU u met M (Qq (f ts _) c) (fun s g=>hz u Ys s g) e
  ·exact a _ M c (fun v h=>hz v (by simp[h])) e t b
theorem PR:∀(l:Ly)(met:List Nat)(P:Np),(∀s∈l,P s.args)->∀s∈(AC l met).1,P s.args:=by
 intro l
 induction l with
 |nil=>intro met P _ s d;simp[AC]at d
 |cons s l c=>
  intro met P h t a;simp only[AC]at a;split at a
  ·rcases Qp.1 a with rfl|a
   ·exact h s Ys
   ·exact c _ P (fun u b=>h u (by simp[b])) t a
  ·rcases Qp.1 a with rfl|a
   ·exact h t Ys
   ·exact c _ P (fun u b=>h u (by simp[b])) t a
theorem KE:∀(ts:Ll)(met:List Nat)(u:Ly),u∈(Aw ts met).1->∃t∈ts,∃m,u=(AC t m).1:=by
 intro ts
 induction ts with
 |nil=>intro met u h;simp[Aw]at h
 |cons t ts c=>
  intro met u h;simp only[Aw]at h;rcases Qp.1 h with rfl|h
  ·exact⟨t,Ys,met,rfl⟩
  ·obtain⟨d,a,m,b⟩:=c _ u h;exact⟨d,by simp[a],m,b⟩
def HE:Prop:=∀(s:ByteArray)(w:World),s.size<=maxLen->Calls prog 83 #[.string s] w fun e w'=>e= .returned (.tuple #[.string ⟨(BK s).1.toArray⟩,.int .i64 (BK s).2.1,.int .i64 (BK s).2.2])/\Below w.heap.size w w'
theorem Mx(b:HE)(n m:Int)(p q x:ByteArray)(w:World)(g:p.size<=maxLen):
  Calls prog 61 #[agg #[int i64 1,int i64 n,int i64 m,string p,string q,string x]] w fun e w'=>e=returned (.bool true)/\Below w.heap.size w w':=by
 have h:=Yh b;have i:=Yh (On p);clear b;go_enter func61,ntmps61;go_wp2_with fail;apply(h.o p _ g).mono;rintro e w1 ⟨rfl,a⟩;have l:w.heap.size+1<=w1.heap.size:=by have:=a.size;simpa using this
 have d:Below w.heap.size w w1:=((Jc _ w).alloc (Qe _) _).trans (a.mono Ys);have k:w1.cell? ⟨w.heap.size,3,none⟩=some (string p):=(a.cell (p:=⟨w.heap.size,3,none⟩) Ys).trans (AY w _ _ 3 _ rfl);have c:=Yh d;clear a d;go_wp2_with fail;apply(i.o _ g).mono;rintro e w2 ⟨rfl,f⟩;have j:=Yh f;clear f;go_wp2;go_ret;exact⟨rfl,c.o.trans (j.o.mono c.o.size)⟩
theorem Od(a:HE)(n m:Int)(p q x:ByteArray)(b:Value)(w:World)(g:p.size<=maxLen):
  Calls prog 38 #[b,agg #[int i64 1,int i64 n,int i64 m,string p,string q,string x]] w fun e w'=>e=returned (.bool true)/\Below w.heap.size w w':=by
 have d:=Yh (Mx a n m p q x);clear a;go_enter func38,ntmps38;go_wp2_with fail;apply(d.o _ g).mono;rintro e w1 ⟨rfl,c⟩;have f:=Yh c;clear c;go_wp2;go_ret;exact⟨rfl,((Jc _ w).alloc (Qe _) _).trans (f.o.mono Ys)⟩
def J5:Prop:=∀(s:ByteArray)(w:World),s.size<=maxLen->Calls prog 85 #[.string s] w fun e w'=>e= .returned (.tuple #[.string ⟨(B5 s).1.toArray⟩,.int .i64 (B5 s).2.1,.int .i64 (B5 s).2.2])/\Below w.heap.size w w'
theorem P4(b:J5)(n m:Int)(p q x:ByteArray)(w:World)(g:q.size<=maxLen):
  Calls prog 61 #[agg #[int i64 2,int i64 n,int i64 m,string p,string q,string x]] w fun e w'=>e=returned (.bool true)/\Below w.heap.size w w':=by
 have h:=Yh b;have i:=Yh (Ss q);clear b;go_enter func61,ntmps61;go_wp2_with fail;apply(h.o q _ g).mono;rintro e w1 ⟨rfl,a⟩;have l:w.heap.size+1<=w1.heap.size:=by have:=a.size;simpa using this
 have d:Below w.heap.size w w1:=((Jc _ w).alloc (Qe _) _).trans (a.mono Ys);have k:w1.cell? ⟨w.heap.size,4,none⟩=some (string q):=(a.cell (p:=⟨w.heap.size,4,none⟩) Ys).trans (AY w _ _ 4 _ rfl);have c:=Yh d;clear a d;go_wp2_with fail;apply(i.o _ g).mono;rintro e w2 ⟨rfl,f⟩;have j:=Yh f;clear f;go_wp2;go_ret;exact⟨rfl,c.o.trans (j.o.mono c.o.size)⟩
theorem SX(a:J5)(n m:Int)(p q x:ByteArray)(b:Value)(w:World)(g:q.size<=maxLen):
  Calls prog 38 #[b,agg #[int i64 2,int i64 n,int i64 m,string p,string q,string x]] w fun e w'=>e=returned (.bool true)/\Below w.heap.size w w':=by
 have d:=Yh (P4 a n m p q x);clear a;go_enter func38,ntmps38;go_wp2_with fail;apply(d.o _ g).mono;rintro e w1 ⟨rfl,c⟩;have f:=Yh c;clear c;go_wp2;go_ret;exact⟨rfl,((Jc _ w).alloc (Qe _) _).trans (f.o.mono Ys)⟩
theorem Gf{n:ND}(h:(Ax n c k).2=1\/(Ax n c k).2=2):(Ax n c k).1.used=n.used++[k]:=by
 by_cases a:∃r:ND×Nat,∃m,FM m/\Cl m n/\Kv m c k r.2 r.1
 ·have e:Ax n c k=Classical.choose a:=by unfold Ax;rw[dif_pos a]
  obtain⟨m,_,d,g,gs,_,f⟩:=Classical.choose_spec a;rw[e]at h⊢;rcases f with⟨h0,_⟩|⟨h0,_⟩|⟨σ,_,_,_,b⟩
  ·omega
  ·omega
  ·rw[b];simp[Au,d.used]
 ·have e:Ax n c k=(⟨[],[],[],[],0⟩,0):=by unfold Ax;rw[dif_neg a]
  rw[e]at h;simp at h
theorem OR:∀{ks:List Nat}{n:ND}{i:Nat},(Az cs n ks i).2.1=0->(∀k∈n.used,k<cs.length)->∀k∈(Az cs n ks i).1.used,k<cs.length:=by
 intro ks
 induction ks with
 |nil=>intro n i h e;unfold Az;split<;>exact e
 |cons k ks g=>
  intro n i h e
  cases b:cs[k]? with
  |none=>
   have:=Cb (cs:=cs) (n:=n) (k:=k) (i:=i) (ks:=ks) (QO (J8.1 b));rw[this]at h;simp at h
  |some c=>
   by_cases f:n.goals=[]
   ·have:=Cb (cs:=cs) (n:=n) (k:=k) (i:=i) (ks:=ks) (QG f);rw[this]at h;simp at h
   ·by_cases d:(Ax n c k).2=1\/(Ax n c k).2=2
    ·rw[FD b f d]at h⊢;refine g h (fun j a=> ?_);rw[Gf d]at a;rcases Qk.1 a with a|a
     ·exact e j a
     ·simp at a;subst a;exact(Qa.1 b).1
    ·have:=Em (i:=i) (ks:=ks) b d;rw[this]at h;simp at h
theorem Ml{p q x:ByteArray}{e:ND}(ha:Cn q=some a)(h:Bm p q x=(a.2,e,0,0)):∀k∈e.used,k<24:=by
 cases b:Bz p with
 |none=>simp[Bm,b]at h
 |some cs=>
  have f:=(Cv b).2.2.2.2
  by_cases c:400<x.size
  ·simp[Bm,b,ha,c]at h
  ·cases hn:Bl x with
   |mk o j=>
    cases o with
    |none=>simp[Bm,b,ha,c,hn]at h
    |some ks=>
     simp[Bm,b,ha,c,hn]at h;have d:=OR (cs:=cs) (ks:=ks) (n:=AN a) (i:=0) (by rw[h]) (by simp[AN]);rw[h]at d;exact fun k g=>JM (d k g) f
theorem Nu:∀(ts:Ll)(ds ks:List Nat)(seen:List Nat),(∀d∈ds,d<=100)->(∀k∈ks,k<=99)->(∀t∈ts,Wf 1 t/\t.length<=1000/\∀s∈t,s.name.length<=4096)->seen.length+ts.flatten.length<=4000->
  (CH (Aw ts seen).1 ds ks).length<=400*ds.length+4100*ts.flatten.length:=by
 intro ts
 induction ts with
 |nil=>intro ds ks seen _ _ _ _;simp[Aw,CH]
 |cons t ts g=>
  intro ds ks seen b c e f
  cases ds with
  |nil=>simp[Aw,CH]
  |cons d ds=>
   cases ks with
   |nil=>simp[Aw,CH]
   |cons k ks=>
    obtain⟨i,j,l⟩:=e t Ys;simp only[Q4,Qg]at f⊢;obtain⟨m,n⟩:=Gj j i l (seen:=seen) Yo;have h:=g ds ks (AC t seen).2 (fun y a=>b y (by simp[a])) (fun y a=>c y (by simp[a])) (fun y a=>e y (by simp[a])) Yo;have hd:=b d Ys;have p:=c k Ys;have o:=D8 k;simp only[Aw,CH,Qg,Qf,QE,Qt];omega
theorem Lz(p q x:ByteArray)(w:World)(bp:p.size<=maxLen)(bq:q.size<=maxLen)(bv:x.size<=maxLen):
  Calls prog 92 #[string p,string q,string x] w fun e w'=>e=Rq #[string ⟨(Gw p q x).1.toArray⟩,int i64 (Gw p q x).2.1,int i64 (Gw p q x).2.2]/\Ao w w':=by
 have b9:=Yh (fun u=>In p q x u bp bq bv);obtain⟨Y,ag⟩:=Ex (Gw p q x);rw[<-ag];have az:=Yh ag;clear bp bq bv ag;go_enter func92,ntmps92;go_wp2_with fail;apply(b9.o _).mono;rintro e w1 ⟨ae,B⟩;have br:=ae.size;have ay:=Yh ae;clear ae;rcases B with⟨a4,c9,ct,C,a0,ek,dr,dm,el,dt,rfl⟩|⟨a,av,nv,c2,c3,c4,bw,c5,c6,C,bf,rfl,ac,bo⟩
 ·have ab:YH (Y=([],a4,c9)):=by show _=_;rw[az.o,Gw,C];simp[ct]
  have hb:((a4:Int) !=0)=true:=by rw[QR];omega
  clear C;go_wp2;go_ret3;rw[ab.o];exact⟨rfl,ay.o.trans (Ad.below (S:=fun i=>w.heap.size<=i) Mst br (fun _ h=>h))⟩
 ·obtain⟨dn,a7⟩:=ac.atoms;have V:=Ml bf C;obtain⟨aa,cn,rfl⟩:=Ab a7.1;obtain⟨n,F,v,bc,G,rfl⟩:=bo.node;obtain⟨ev,be⟩:=F.vals;obtain⟨dx,bb⟩:=F.goals;obtain⟨dw,ad⟩:=F.done;have af:=F.used;obtain⟨a5,a6,rfl⟩:=Ab bb.owns;obtain⟨va,b0,rfl⟩:=Ab be.1;obtain⟨da,a3,rfl⟩:=Ab ad.owns;obtain⟨bz,aw,rfl⟩:=Ab af;obtain⟨na,c8,rfl⟩:=Ab ac.names;rw[<-G.used]at V;obtain⟨z,B⟩:=Ex (CH (Aw (n.done.map (·.1)) []).1 (n.done.map (·.2)) n.used);have bi:Hz c6=z:=by rw[B];unfold Hz;rw[G.doneC v,G.dd,G.used]
  have ab:YH (Y=(z,0,0)):=by show _=_;rw[az.o,Gw,C];simp[bi]
  have ah:=v.dl;have ej:=v.ul;have I:∀g∈n.done,g.1.length<=30/\g.2<=100:=fun g b=>⟨(v.ds g b).1,by have:=(v.ds g b).2;omega⟩;have al:∀g∈n.done,Wf 1 g.1:=fun g b=>v.wf g.1 (by simp only[ND.terms,Qk,Q0];exact QO (QO ⟨g,b,rfl⟩));have ai:∀g∈n.done,∀s∈g.1,s.name.length<=4096:=fun g b s cw=>Qq (bc g.1 (by simp only[ND.terms,Qk,Q0];exact QO (QO ⟨g,b,rfl⟩)) s cw) Yo;have cu:(n.done.map (·.1)).flatten.length<=3000:=by
   have c1:∀ls:List (List BJ×Nat),(∀t∈ls,t.1.length<=30)->(ls.map (·.1)).flatten.length<=30*ls.length:=by
    intro ls
    induction ls with
    |nil=>intro _;simp
    |cons t ts c0=>
     intro h;have m:=h t Ys;have dy:=c0 (fun y cz=>h y (by simp[cz]));simp only[Qx,Q4,Qg,Qf];omega
   have:=c1 n.done (fun t ap=>(I t ap).1);omega
  have d1:z.length<=20000000:=by
   have:=Nu (n.done.map (·.1)) (n.done.map (·.2)) n.used [] (fun d hd=>by obtain⟨g,b,rfl⟩:=Q0.1 hd;exact(I g b).2) (fun k bl=>by have:=V k bl;omega)
    (fun t ap=>by obtain⟨g,b,rfl⟩:=Q0.1 ap;exact⟨al g b,by have:=(I g b).1;omega,ai g b⟩) (by simp only[Qt];omega)
   rw[<-B]at this;simp only[Ql]at this;omega
  have ax:=Yh ad;have W:=Yh af;have cf:=Yh ah;have ci:=Yh I;have cj:=Yh al;have cg:=Yh ai;have ca:=Yh B;have cm:=Yh V;have d6:n.done.length<=100:=Yo
  clear C bf ac a7 bo F v bc G be bb ad af bi ah I al ai B V;obtain⟨l,H⟩:=Ex ((w1.alloc (.cells #[slice aa a.1.length cn,slice na a.2.length c8] 148)).alloc (.cells #[slice a5 n.goals.length a6,slice va n.vals.length b0,slice da n.done.length a3,slice bz n.used.length aw,int i64 n.vars] 152));have a9:Ao w1 l:=by rw[H];exact Mxt
  have ec:l.heap.size=w1.heap.size+2:=by rw[H];simp
  have a8:l.heap[w1.heap.size+1]?=some (.cells #[slice a5 n.goals.length a6,slice va n.vals.length b0,slice da n.done.length a3,slice bz n.used.length aw,int i64 n.vars] 152 (0,0)):=by rw[H];simpa using QL (w1.alloc _) _
  have b8:=Yh a9;have b7:=Yh a8;have cc:=Yh H;clear a9 a8 H;go_wp2;rw[<-cc.o]
  go_loopg [13,14,15] (n.done.length+1) (fun gk r dc i wr=>∃(j:Nat)(f:List Nat)(c:List UInt8),i=int i64 j/\j<=n.done.length/\n.done.length-j<gk/\r=string ⟨c.toArray⟩/\
   c++CH (Aw ((n.done.drop j).map (·.1)) f).1 ((n.done.drop j).map (·.2)) (n.used.drop j)=z/\f.length+((n.done.drop j).map (·.1)).flatten.length<=3000/\Ar l l.heap.size 3 1 Nl f.length (AM f) dc wr)
  case atStart=>exact⟨0,[],[],Yg,Qm _,Yo,rfl,by simp[ca.o],by simpa using cu,⟨Q2 _ _ _ _,Ad.refl _ _,QG rfl⟩⟩
  case round=>
   obtain⟨j,f,c,rfl,ea,d8,rfl,ak,bs,O⟩:=hrel;obtain⟨eq,er,rfl⟩:=Ab O.owns;have ah:c.length<=20000000:=by
    have m:=congrArg List.length ak;simp only[Qg]at m;omega
   have M:Ao l wr:=O.kept.below (Qe _) (fun i e=>by simp[Ak,Value.ownBlock]at e);have cx:=M.size;have ba:Ao w1 wr:=b8.o.trans (M.mono Yo);obtain⟨c2,c3,c4,bw,c5,en⟩:=C0 ((M.block (w1.heap.size+1) Yo).trans b7.o);have X:=Yh O;have a1:=Yh ak;have J:=Yh ba;clear O ak ba M
   by_cases bm:j<n.done.length
   ·obtain⟨g,b⟩:∃g,n.done[j]?=some g:=⟨_,Qb bm⟩;have bn:j<n.used.length:=by have:=cf.o;omega
    obtain⟨u,U⟩:∃u,n.used[j]?=some u:=⟨_,Qb bn⟩;have am:n.done.drop j=g::n.done.drop (j+1):=by
     rw[QC bm,(Qa.1 b).2]
    have bh:n.used.drop j=u::n.used.drop (j+1):=by
     rw[QC bn,(Qa.1 U).2]
    obtain⟨dk,dp,dq,b3,b4,b5,b6,ao⟩:=ax.o.all j g b;obtain⟨db,c7,co,cq,cp,rfl,rfl,rfl⟩:=ao.shape;have D:=ax.o.ext (Y:=fun _=>False) (B':=0) J.o (fun _ _ h=>h) (Qe _);obtain⟨L,du,dv,bk,dz,bj,d3⟩:=An D.owns Yo;simp only[QH]at bk;obtain⟨rfl,_,rfl⟩:=bk;have df:wr.cell? ⟨L,j*4,none⟩=some (string db):=Af D.owns _ _ b3;have dg:wr.cell? ⟨L,j*4+1,none⟩=some (int i64 c7):=Af D.owns _ _ b4;have dh:wr.cell? ⟨L,j*4+2,none⟩=some (slice co cq cp):=Af D.owns _ _ b5;have di:wr.cell? ⟨L,j*4+3,none⟩=some (int i64 g.2):=Af D.owns _ _ b6;have au:=Aj W.o (fun i hi=>J.o.block i (W.o.lt i hi).2);obtain⟨E,et,eu,bu,d0,bt,ei⟩:=An au Yo;simp only[QH]at bu;obtain⟨rfl,_,rfl⟩:=bu;have dj:wr.cell? ⟨E,j,none⟩=some (int i64 u):=Af au j _ (by simp only[AM,Qj,U,JN]);have ef:=cm.o u (Qh U);obtain⟨ee,d4⟩:=ci.o g (Qh b);have ar:=cj.o g (Qh b);have aq:=cg.o g (Qh b);have bd:=Tu 1000 Yo ar;obtain⟨b1,b2⟩:=HP bd f;have ed:f.length+g.1.length+((n.done.drop (j+1)).map (·.1)).flatten.length<=3000:=by
     rw[am]at bs;simp only[Qx,Q4,Qg]at bs;omega
    obtain⟨a2,cr⟩:=Gj Yo ar aq (seen:=f) Yo;have N:=FV 1000 wr 0 wr.heap.size _ _ _ g.1 l.heap.size f _ ((ao.ext J.o (fun _ _ h=>h)).repT Yo) X.o.owns cx aq Yo;rw[b1,b2]at N;obtain⟨r,T⟩:=Ex (A3 (AC g.1 f).1 []);obtain⟨bx,R⟩:=Ex ((AC g.1 f).2);obtain⟨A,Q⟩:=Ex (Lib.decDigits u);have d5:A.length<=25:=by rw[Q];have:=D8 u;omega
    rw[<-T,<-R]at N;rw[<-T]at a2;rw[<-R]at cr;have cl:YH (c++List.replicate (2*g.2) 32++r++[32,98,121,32]++A++[10]++CH (Aw ((n.done.drop (j+1)).map (·.1)) bx).1 ((n.done.drop (j+1)).map (·.2)) (n.used.drop (j+1))=z):=by
     have m:=a1.o;rw[am,bh]at m;show _=_;rw[<-m,T,R,Q];simp[Aw,CH]
    have bg:=FQ u Yo;have cb:=Yh N;have ce:YH (∀w:World,Calls prog 117 #[int i64 u] w fun e w'=>e=returned (string ⟨A.toArray⟩)/\w'=w):=by rw[Q];exact bg
    have eh:=Ac bt;have d7:=Ac bj;have d2:r.length<=200000:=Yo
    obtain⟨de,cy⟩:∃x,x=wr:=⟨_,rfl⟩;subst cy;clear bj D ao b3 b4 b5 b6 b U am bh au bt bd b1 b2 N ar aq a2 T R Q bg;go_wp2
    go_loopg [13,16] (g.2+1) (fun gk r i wr=>∃(k:Nat),i=int i64 k/\k<=g.2/\g.2-k<gk/\r=string ⟨(c++List.replicate (2*k) 32).toArray⟩/\wr=de)
    case atStart=>exact⟨0,Yg,Qm _,Yo,Ys,rfl⟩
    case round=>
     obtain⟨k,rfl,bl,d9,rfl,rfl⟩:=hrel;have cv:(c++List.replicate (2*k) (32:UInt8)).length<=20000200:=by simp;omega
     by_cases eb:k<g.2
     ·have Z:YH ((⟨(c++List.replicate (2*k) (32:UInt8)).toArray⟩:ByteArray)++⟨[32,32].toArray⟩=⟨(c++List.replicate (2*(k+1)) (32:UInt8)).toArray⟩):=by
       show _=_;rw[AA,Qi]
       congr 3
       rw[show 2*(k+1)=2*k+2 by omega,<-List.replicate_append_replicate];rfl
      generalize c++List.replicate (2*k) (32:UInt8)=K at*;go_wp2
      go_roundg (g.2-k)
      case measure=>omega
      case rel=>exact⟨k+1,Yg,Yo,Yo,by rw[<-Z.o],rfl⟩
     ·have cs:k=g.2:=Yo
      subst cs;obtain⟨K,aj⟩:=Ex (c++List.replicate (2*g.2) (32:UInt8));rw[<-aj]at cv⊢;have ch:=Yh aj;clear aj;have Z:YH ((⟨K.toArray⟩:ByteArray)++⟨r.toArray⟩++⟨[32,98,121,32].toArray⟩++⟨A.toArray⟩++⟨[10].toArray⟩=⟨(K++r++[32,98,121,32]++A++[10]).toArray⟩):=by
       show _=_;rw[AA,AA,AA,AA]
      go_wp2_with fail;apply cb.o.mono;rintro e w3 ⟨es,rfl,P⟩;obtain⟨eo,ep,rfl⟩:=Ab P.owns;have an:Ad (fun i=>l.heap.size<=i) wr w3:=P.kept.mono (fun i _ e=>(X.o.owns.lt i e).1);have eg:E<w1.heap.size:=(W.o.lt E rfl).2;have em:w3.cell? ⟨w1.heap.size+1,3,none⟩=some (slice (some ⟨E,0,none⟩) n.used.length aw):=an.cell bw (by show¬l.heap.size<=w1.heap.size+1;omega);have ew:w3.cell? ⟨E,j,none⟩=some (int i64 u):=an.cell dj (by show¬l.heap.size<=E;omega);have cd:=Yh P;clear P df dg dh di an;go_wp2_with fail;apply(ce.o _).mono;rintro e w4 ⟨rfl,rfl⟩;go_wp2
      go_roundg (n.done.length-j)
      case measure=>omega
      case rel=>exact⟨j+1,bx,K++r++[32,98,121,32]++A++[10],Yg,Yo,Yo,by rw[<-Z.o],by rw[ch.o];exact cl.o,Yo,X.o.trans cd.o⟩
   ·have ck:YH (z=c):=by
     have m:=a1.o;rw[QW Yo]at m;simp only[QX,Aw,CH,Qs]at m;exact m.symm
    go_wp2;go_ret3;rw[ab.o,ck.o];exact⟨rfl,ay.o.trans (J.o.mono br)⟩
def NQ:Prop:=∀(p q x:ByteArray)(w:World),p.size<=maxLen->q.size<=maxLen->x.size<=maxLen->Calls prog 19 #[.string p,.string q,.string x] w fun e w'=>e= .returned (.tuple #[.string ⟨(Jm p q x).1.toArray⟩,.int .i64 (Jm p q x).2.1,.int .i64 (Jm p q x).2.2])/\Ao w w'
theorem Se(c:NQ)(n m:Int)(p q x:ByteArray)(w:World)(j:p.size<=maxLen)(k:q.size<=maxLen)(l:x.size<=maxLen):
  Calls prog 63 #[agg #[int i64 6,int i64 n,int i64 m,string p,string q,string x]] w fun e w'=>e=returned (.bool true)/\Below w.heap.size w w':=by
 have b:=Yh (c p q x);have d:=Yh (Tb p q x);obtain⟨s,g⟩:=Ex (Jm p q x);rw[<-g]at b d;clear c g;go_enter func63,ntmps63;go_wp2_with fail;apply(b.o _ j k l).mono;rintro e w1 ⟨rfl,a⟩;have v:w.heap.size+1<=w1.heap.size:=by have:=a.size;simpa using this
 have h:Below w.heap.size w w1:=((Jc _ w).alloc (Qe _) _).trans (a.mono Ys);have t:w1.cell? ⟨w.heap.size,3,none⟩=some (string p):=(a.cell (p:=⟨w.heap.size,3,none⟩) Ys).trans (AY w _ _ 3 _ rfl);have hd:w1.cell? ⟨w.heap.size,4,none⟩=some (string q):=(a.cell (p:=⟨w.heap.size,4,none⟩) Ys).trans (AY w _ _ 4 _ rfl);have u:w1.cell? ⟨w.heap.size,5,none⟩=some (string x):=(a.cell (p:=⟨w.heap.size,5,none⟩) Ys).trans (AY w _ _ 5 _ rfl);have f:=Yh h;clear a h;go_wp2_with fail;apply(d.o _ j k l).mono;rintro e w2 ⟨rfl,i⟩;have r:=Yh i;clear i;go_wp2;go_ret;exact⟨rfl,f.o.trans (r.o.mono f.o.size)⟩
theorem WR(a:NQ)(n m:Int)(p q x:ByteArray)(b:Value)(w:World)(g:p.size<=maxLen)(h:q.size<=maxLen)(i:x.size<=maxLen):
  Calls prog 38 #[b,agg #[int i64 6,int i64 n,int i64 m,string p,string q,string x]] w fun e w'=>e=returned (.bool true)/\Below w.heap.size w w':=by
 have d:=Yh (Se a n m p q x);clear a;go_enter func38,ntmps38;go_wp2_with fail;apply(d.o _ g h i).mono;rintro e w1 ⟨rfl,c⟩;have f:=Yh c;clear c;go_wp2;go_ret;exact⟨rfl,((Jc _ w).alloc (Qe _) _).trans (f.o.mono Ys)⟩
def HF:Prop:=∀(p q x:ByteArray)(w:World),p.size<=maxLen->q.size<=maxLen->x.size<=maxLen->Calls prog 34 #[.string p,.string q,.string x] w fun e w'=>e= .returned (.tuple #[.string ⟨(Gw p q x).1.toArray⟩,.int .i64 (Gw p q x).2.1,.int .i64 (Gw p q x).2.2])/\Ao w w'
theorem Lp(c:HF)(n m:Int)(p q x:ByteArray)(w:World)(j:p.size<=maxLen)(k:q.size<=maxLen)(l:x.size<=maxLen):
  Calls prog 63 #[agg #[int i64 7,int i64 n,int i64 m,string p,string q,string x]] w fun e w'=>e=returned (.bool true)/\Below w.heap.size w w':=by
 have b:=Yh (c p q x);have d:=Yh (Lz p q x);obtain⟨s,g⟩:=Ex (Gw p q x);rw[<-g]at b d;clear c g;go_enter func63,ntmps63;go_wp2_with fail;apply(b.o _ j k l).mono;rintro e w1 ⟨rfl,a⟩;have v:w.heap.size+1<=w1.heap.size:=by have:=a.size;simpa using this
 have h:Below w.heap.size w w1:=((Jc _ w).alloc (Qe _) _).trans (a.mono Ys);have t:w1.cell? ⟨w.heap.size,3,none⟩=some (string p):=(a.cell (p:=⟨w.heap.size,3,none⟩) Ys).trans (AY w _ _ 3 _ rfl);have hd:w1.cell? ⟨w.heap.size,4,none⟩=some (string q):=(a.cell (p:=⟨w.heap.size,4,none⟩) Ys).trans (AY w _ _ 4 _ rfl);have u:w1.cell? ⟨w.heap.size,5,none⟩=some (string x):=(a.cell (p:=⟨w.heap.size,5,none⟩) Ys).trans (AY w _ _ 5 _ rfl);have f:=Yh h;clear a h;go_wp2_with fail;apply(d.o _ j k l).mono;rintro e w2 ⟨rfl,i⟩;have r:=Yh i;clear i;go_wp2;go_ret;exact⟨rfl,f.o.trans (r.o.mono f.o.size)⟩
theorem Oc(a:HF)(n m:Int)(p q x:ByteArray)(b:Value)(w:World)(g:p.size<=maxLen)(h:q.size<=maxLen)(i:x.size<=maxLen):
  Calls prog 38 #[b,agg #[int i64 7,int i64 n,int i64 m,string p,string q,string x]] w fun e w'=>e=returned (.bool true)/\Below w.heap.size w w':=by
 have d:=Yh (Lp a n m p q x);clear a;go_enter func38,ntmps38;go_wp2_with fail;apply(d.o _ g h i).mono;rintro e w1 ⟨rfl,c⟩;have f:=Yh c;clear c;go_wp2;go_ret;exact⟨rfl,((Jc _ w).alloc (Qe _) _).trans (f.o.mono Ys)⟩
theorem KX{N:Nat}(h:∀t∈ts,t.length<=N):ts.flatten.length<=N*ts.length:=by
 induction ts with
 |nil=>simp
 |cons t ts b=>
  have c:=h t Ys;have d:=b (fun y a=>h y (by simp[a]));simp only[Q4,Qg,Qf];rw[Nat.mul_add];omega
theorem Sw:∀(ts:Ll)(seen:List Nat),(∀t∈ts,Wf 1 t/\t.length<=30/\∀s∈t,s.name.length<=4096)->seen.length+ts.flatten.length<=4000->∀u∈(Aw ts seen).1,(A3 u []).length<=200000:=by
 intro ts
 induction ts with
 |nil=>intro seen _ _ u a;simp[Aw]at a
 |cons t ts f=>
  intro seen h d u a;simp only[Q4,Qg]at d;obtain⟨b,g,c⟩:=h t Ys;have i:=Gj (l:=t) Yo b c (seen:=seen) Yo;simp only[Aw]at a;rcases Qp.1 a with rfl|a
  ·omega
  ·exact f _ (fun v e=>h v (by simp[e])) Yo u a
theorem XO{n:ND}(hn:FM n)(k:NG n){ts:Ll}(b:∀t∈ts,t∈n.terms/\t.length<=30)(hl:ts.length<=130)(q:(Aw ts []).2.length<=2599):WA ts:=by
 have p:ts.flatten.length<=30*ts.length:=KX (fun t h=>(b t h).2);have o:n.vars<=101000:=by have:=hn.vars;have:=hn.ul;omega
 refine⟨Yo,Yo,fun t h=>Hp (hn.wf t (b t h).1) (by have:=(b t h).2;omega) (hn.occ t (b t h).1) Yo,fun u d=>⟨?_,fun s e=>⟨?_,?_⟩⟩,fun u d=> ?_⟩
 ·obtain⟨t,c,m,rfl⟩:=KE ts [] u d;rw[Ih];have:=(b t c).2;omega
 ·exact S4 ts [] 2600 Yo (fun t c x f l=>by
   obtain⟨i,hi⟩:=J0.1 f;exact(GJ (hn.wf t (b t c).1) hi).2 l) Yo u d s e
 ·obtain⟨t,c,m,rfl⟩:=KE ts [] u d;refine Qq (PR t m (fun a=>a<=30) (fun x f=> ?_) s e) Yo;obtain⟨i,hi⟩:=J0.1 f;have j:=(Qa.1 hi).1;have:=OO (hn.wf t (b t c).1) (i:=i) j;have g:AB t i=x:=by unfold AB;rw[QZ,hi];rfl
  rw[g]at this;have:=(b t c).2;omega
 ·refine Qq (Sw ts [] (fun t c=>⟨hn.wf t (b t c).1,(b t c).2,fun s e=>Qq (k t (b t c).1 s e) Yo⟩) ?_ u d) Yo;simp only[Qt];omega
theorem NM{n:ND}(hn:FM n)(a:NG n)(hl:n.vals.length<=60):WA n.vals:=by
 have b:n.vals.flatten.length<=30*n.vals.length:=KX (fun t h=>hn.vsize h);refine XO hn a (fun t h=>⟨by unfold ND.terms;simp[h],hn.vsize h⟩) Yo ?_;have:=LI n.vals [];simp only[Qt]at this;omega
theorem It{n:ND}(hn:FM n)(c:NG n)(hl:n.vals.length<=60){names:At}(b:names.length<=60)(d:∀x∈names,x.length<=8):(DF [] names (Aw n.vals []).1).length<=100000000:=by
 have f:n.vals.flatten.length<=30*n.vals.length:=KX (fun t h=>hn.vsize h);have:=Nj names n.vals [] [] (fun x e=>Qq (d x e) Yo) (fun t a=>⟨hn.wf t (by unfold ND.terms;simp[a]),by have:=hn.vsize a;omega,fun s b=>Qq (c t (by unfold ND.terms;simp[a]) s b) Yo⟩) Ys (by simp only[Qt];omega);omega
theorem P2(w:World)(nv h s r q g:Value)(C:Nat)(names:At)(n:ND)(v:∃a l c,h=slice a l c)(A:∃a l c,r=slice a l c)(z:∃a l c,q=slice a l c)(hd:∃a l c,g=slice a l c)(b:w.ownsRow 0 9 1 nv names.length (Ba names))(f:AF w s n.vals)(hn:FM n)(d:NG n)(hl:n.vals.length=names.length)(p:names.length<=60)(m:∀x∈names,x.length<=8):
  Calls prog 43 #[agg #[nv,h,s,r,int i64 C,q,g]] w fun e w'=>Ao w w'/\e=returned (string ⟨(AU names n).toArray⟩):=by
 obtain⟨H,I,J,rfl⟩:=v;obtain⟨N,O,P,rfl⟩:=A;obtain⟨K,L,M,rfl⟩:=z;obtain⟨E,F,G,rfl⟩:=hd;obtain⟨na,B,rfl⟩:=Ab b;obtain⟨va,D,rfl⟩:=f.shape;have t:YH (∀o,Calls prog 70 #[slice na names.length B,slice va n.vals.length D] (w.alloc o) fun e w'=>Ao (w.alloc o) w'/\e=returned (string ⟨(AU names n).toArray⟩)):=fun o=>by
  have i:Ao w (w.alloc o):=Mxt;exact FG _ _ _ names n.vals (Aj b (fun j y=>i.block j (b.lt j y).2)) (f.ext i) (NM hn d Yo) hl.symm (It hn d Yo p m)
 clear b f hn d hl p m;go_enter func43,ntmps43;go_wp2_with fail;apply(t.o _).mono;rintro e w1 ⟨k,rfl⟩;have u:=Yh k;clear k;go_wp2;go_ret;exact⟨(Jc _ w|>.alloc (Qe _) _).trans (u.o.mono Ys),rfl⟩
theorem WN:NQ:=by
 intro p q x w J K N;have u:=Yh (Mk p q x w J K N);obtain⟨Y,k⟩:=Ex (Jm p q x);rw[<-k];have z:=Yh k;clear J K N k;go_enter func19,ntmps19;go_wp2_with fail;apply u.o.mono;rintro e w1 ⟨g,aa⟩;have al:=g.size;have v:=Yh g;clear g u;rcases aa with⟨s,rfl⟩|⟨a,ks,n,m,b,ad,nc,R,U,V,ai,aj,ak,af,ag,ah,O,ab,ac,Q,dc,rfl,F,l,Z,W⟩
 ·obtain⟨A,c⟩:∃r,r=(Bm p q x).2.2.1:=⟨_,rfl⟩;obtain⟨ae,t⟩:∃r,r=(Bm p q x).2.2.2:=⟨_,rfl⟩;rw[<-c,<-t];rw[<-c]at s;have d:YH (Y=([],A,ae)):=by show _=_;rw[z.o,Jm,QP (by rw[<-c];exact s),<-c,<-t]
  have hb:((A:Int) !=0)=true:=by rw[QR];omega
  clear c t s;unfold Cx;go_wp2_with fail;go_quiet (fail);go_wp2;go_ret3;rw[d.o];exact⟨rfl,v.o.trans (Ad.below (S:=fun i=>w.heap.size<=i) Mst Yo (fun _ h=>h))⟩
 ·have M:=LM b.ask b.held;have L:=Jl b.ask;obtain⟨_,_,_,_,_,_,_,_,H⟩:=Cq b.ask;have I:AU a.2 n=AU a.2 m:=by unfold AU;rw[b.same.valsC b.ok]
  have d:YH (Y=(AU a.2 n,0,0)):=by show _=_;rw[z.o,Jm,b.held,I];simp
  have f:YH (∀y,Ao w1 y->Calls prog 43 #[agg #[slice ad a.2.length nc,slice R U V,slice ai aj ak,slice af ag ah,int i64 O,slice ab ks.length ac,slice Q (m.done.map (·.2)).length dc]] y fun e w'=>Ao y w'/\e=returned (string ⟨(AU a.2 n).toArray⟩)):=fun y C=>
   P2 y _ _ _ _ _ _ O a.2 n ⟨_,_,_,rfl⟩ ⟨_,_,_,rfl⟩ ⟨_,_,_,rfl⟩ ⟨_,_,_,rfl⟩ (Aj l (fun j X=>C.block j (l.lt j X).2)) (F.vals.ext C) b.ok b.nm (by rw[b.same.vl,M]) L H
  obtain⟨T,G⟩:=Ex (AU a.2 n);rw[<-G]at f d;obtain⟨D,B⟩:=Ex ((m.done.map (·.2)).length);rw[<-B]at f⊢;clear M L H I b F l Z W G B;go_wp2_with fail;apply(f.o _ ((Jc _ w1|>.alloc (Qe _) _).alloc Ys _)).mono;rintro e w2 ⟨E,rfl⟩;have P:=Yh E;clear E;go_wp2;go_ret3;rw[d.o];exact⟨rfl,(v.o.trans (Ad.below (S:=fun i=>w.heap.size<=i) Mst Yo (fun _ h=>h))).trans (P.o.mono Yp)⟩
theorem K5:∀(ks:List Nat)(a:Lu),a.length<=1->(∀k∈ks,k<=99)->(CS a ks).length<=101*ks.length:=by
 intro ks
 induction ks with
 |nil=>intro a _ _;simp[CS]
 |cons k ks d=>
  intro a h b;have e:=d [46] Ys (fun j c=>b j (by simp[c]));have f:=b k Ys;have g:=D8 k;simp only[CS,Qg,Qf];omega
theorem Lb(w:World)(X:Np)(W Y Z aa ab:Value)(f:ND)(A:BC X w W Y Z aa ab f)(r:∀k∈f.used,k<24):
  Calls prog 148 #[agg #[W,Y,Z,aa,ab]] w fun e w'=>e=returned (string ⟨(FB f).toArray⟩)/\Ao w w':=by
 obtain⟨E,F,G,I,H,J,L,K,M,ap,N,O,rfl,rfl,rfl,rfl,rfl⟩:=A.len;obtain⟨n,R,Q,aj,x,_⟩:=A.node;have y:=R.used;obtain⟨a8,a9,l⟩:=Ab y;simp only[QH]at l;obtain⟨rfl,rfl,rfl⟩:=l;rw[<-x.used]at r;obtain⟨c,p⟩:=Ex (CS [] n.used);have V:FB f=c:=by rw[p];unfold FB;rw[x.used]
 rw[V];have a0:=Q.ul;have ar:c.length<=20000:=by
  have:=K5 n.used [] Ys (fun k al=>by have:=r k al;omega);rw[<-p]at this;omega
 have C:=Yh y;have ae:=Yh p;have ai:=Yh r;clear A R Q aj x y p V r;obtain⟨m,g⟩:=Ex (w.alloc (.cells #[slice E f.goals.length F,slice G I H,slice J L K,slice M n.used.length N,int i64 O] 152));have v:Ao w m:=by rw[g];exact Mxt
 have ax:m.heap.size=w.heap.size+1:=by rw[g];simp
 have P:m.heap[w.heap.size]?=some (.cells #[slice E f.goals.length F,slice G I H,slice J L K,slice M n.used.length N,int i64 O] 152 (0,0)):=by rw[g];exact QL w _
 have ad:=Yh v;have S:=Aj C.o (fun i hi=>v.block i (C.o.lt i hi).2);have D:=Yh S;have ac:=Yh P;have af:=Yh g;clear v P g S;go_enter func148,ntmps148;go_wp2;rw[<-af.o]
 go_loopg [3,4] (n.used.length+1) (fun gk an i wr=>∃(j:Nat)(a:Lu),i=int i64 j/\j<=n.used.length/\n.used.length-j<gk/\an=string ⟨a.toArray⟩/\wr=m/\
  a++CS (if j=0 then[]else[46]) (n.used.drop j)=c)
 case atStart=>exact⟨0,[],Yg,Qm _,Yo,rfl,rfl,by simp[ae.o]⟩
 case round=>
  obtain⟨j,a,rfl,aw,av,rfl,rfl,z⟩:=hrel;have au:a.length<=20000:=by
   have b:=congrArg List.length z;simp only[Qg]at b;omega
  obtain⟨a2,a3,a4,a5,a6,a7⟩:=C0 ac.o;have d:=Yh z;clear z
  by_cases T:j<n.used.length
  ·obtain⟨u,h⟩:∃u,n.used[j]?=some u:=⟨_,Qb T⟩;have q:n.used.drop j=u::n.used.drop (j+1):=by
    rw[QC T,(Qa.1 h).2]
   obtain⟨ao,ba,bb,l,aq,U,az⟩:=An D.o Yo;simp only[QH]at l;obtain⟨rfl,_,rfl⟩:=l;have bc:wr.cell? ⟨ao,j,none⟩=some (int i64 u):=Af D.o j _ (by simp only[AM,Qj,h,JN]);have ay:=ai.o u (Qh h);have B:=Yh (FQ u Yo);have a1:(Lib.decDigits u).length<=30:=by have:=D8 u;omega
   by_cases h0:j=0
   ·have am:¬(0:Int)<(j:Int):=Yo
    have s:YH ((a++Lib.decDigits u)++CS [46] (n.used.drop (j+1))=c):=by
     have b:=d.o;rw[q,QQ h0]at b;simp only[CS]at b;show _=_;rw[<-b];simp
    have t:=Yh (AA a (Lib.decDigits u));clear h0 h q U d;go_wp2_with fail;apply(B.o _).mono;rintro e w1 ⟨rfl,rfl⟩;go_wp2
    go_roundg (n.used.length-j)
    case measure=>omega
    case rel=>exact⟨j+1,a++Lib.decDigits u,Yg,Yo,Yo,by rw[<-t.o],rfl,by simpa using s.o⟩
   ·have am:(0:Int)<(j:Int):=Yo
    have s:YH ((a++[46]++Lib.decDigits u)++CS [46] (n.used.drop (j+1))=c):=by
     have b:=d.o;rw[q,QP h0]at b;simp only[CS]at b;show _=_;rw[<-b];simp
    have t:=Yh (AA (a++[46]) (Lib.decDigits u));have ah:=Yh (AA a [46]);clear h0 h q U d;go_wp2_with fail;apply(B.o _).mono;rintro e w1 ⟨rfl,rfl⟩;go_wp2
    go_roundg (n.used.length-j)
    case measure=>omega
    case rel=>exact⟨j+1,a++[46]++Lib.decDigits u,Yg,Yo,Yo,by rw[<-t.o,<-ah.o],rfl,by simpa using s.o⟩
  ·have ak:j=n.used.length:=Yo
   subst ak;have ag:YH (a=c):=by
    have b:=d.o;show _=_;simpa[CS]using b
   clear d;go_wp2;go_ret;rw[ag.o];exact⟨rfl,ad.o⟩
mutual
inductive Hv (cs:List Db):ND->List UInt8->Prop
 |leaf (n:ND) (h:n.goals=[]):Hv cs n [33]
 |node (n:ND) (t:List UInt8) (h:n.goals≠[]) (hp:MF cs n cs.length t):Hv cs n ([40]++t++[41])
inductive MF (cs:List Db):ND->Nat->List UInt8->Prop
 |zero (n:ND):MF cs n 0 []
 |miss (n:ND) (k:Nat) (t:List UInt8) (c:Db) (h:MF cs n k t) (hc:cs[k]?=some c) (hq:(Ax n c k).2=0):MF cs n (k+1) t
 |kid (n:ND) (k:Nat) (t u:List UInt8) (c:Db) (h:MF cs n k t) (hc:cs[k]?=some c) (hq:(Ax n c k).2=1\/(Ax n c k).2=2) (hu:Hv cs (Ax n c k).1 u):MF cs n (k+1) (t++Lib.decDigits k++u)
end
structure SN where
 way:List (ND×Nat)
 tries:Nat
 status:Nat
 found:ND
 tree:List UInt8
def DN(cs:Lc):Ln->Lu->Ln×Lu
 | (n,k)::r,t=>if cs.length<=k then DN cs r (t++[41])else((n,k)::r,t)
 |[],t=>([],t)
noncomputable def B3(s:SN)(n:ND):SN:=open Classical in if n.goals=[]then{s with tree:=s.tree++[33],status:=1,found:=n}else{s with way:=(n,0)::s.way,tree:=s.tree++[40]}
noncomputable def CE(cs:Lc)(s:SN):SN:={s with way:=(DN cs s.way s.tree).1,tree:=(DN cs s.way s.tree).2}
noncomputable def AQ(cs:Lc)(s:SN):SN:=match s.way with
 |[]=>s
 | (n,k)::r=>match cs[k]? with
  |none=>s
  |some c=>CE cs (if(Ax n c k).2=3 then{s with way:=(n,k+1)::r,tries:=s.tries+1,status:=3}
    else if(Ax n c k).2=1\/(Ax n c k).2=2 then B3 {s with way:=(n,k+1)::r,tries:=s.tries+1,tree:=s.tree++Lib.decDigits k} (Ax n c k).1
    else{s with way:=(n,k+1)::r,tries:=s.tries+1})
def PH(cs:Lc)(top:ND):Ln->ND->Nat->Lu->Prop
 |[],n,k,T=>n=top/\n.goals≠[]/\k<=cs.length/\∃t,MF cs n k t/\T=[40]++t
 |x::r,n,k,T=>n.goals≠[]/\k<=cs.length/\∃t j' c T',x.2=j'+1/\cs[j']?=some c/\((Ax x.1 c j').2=1\/(Ax x.1 c j').2=2)/\n=(Ax x.1 c j').1/\PH cs top r x.1 j' T'/\MF cs n k t/\T=T'++Lib.decDigits j'++([40]++t)
def PW(cs:Lc)(top:ND):Ln->Lu->Prop
 |[],T=>Hv cs top T
 | (n,k)::r,T=>PH cs top r n k T
theorem PW.part{u n:ND}{T:Lu}(h:PW cs u ((n,k)::r) T):n.goals≠[]/\k<=cs.length/\∃s t,MF cs n k t/\T=s++([40]++t)/\∀b a,MF cs n b a->b<=cs.length->PW cs u ((n,b)::r) (s++([40]++a)):=by
 cases r with
 |nil=>
  obtain⟨d,e,f,t,g,i⟩:=h;exact⟨e,f,[],t,g,by simpa using i,fun b a o l=>⟨d,e,l,a,o,Ys⟩⟩
 |cons m r=>
  obtain⟨m,j⟩:=m;obtain⟨d,e,t,q,c,p,f,g,i,v,w,x,y⟩:=h;exact⟨d,e,p++Lib.decDigits q,t,x,y,fun b a o l=>⟨d,l,a,q,c,p,f,g,i,v,w,o,rfl⟩⟩
theorem PW.miss{b n:ND}{T:Lu}(h:PW cs b ((n,k)::r) T)(a:cs[k]?=some c)(g:(Ax n c k).2=0):PW cs b ((n,k+1)::r) T:=by
 obtain⟨i,j,l,t,d,e,f⟩:=h.part;rw[e];exact f (k+1) t (.miss n k t c d a g) (by have:=(Qa.1 a).1;omega)
theorem PW.kid{b n:ND}{T u:Lu}(h:PW cs b ((n,k)::r) T)(a:cs[k]?=some c)(g:(Ax n c k).2=1\/(Ax n c k).2=2)(i:Hv cs (Ax n c k).1 u):PW cs b ((n,k+1)::r) (T++Lib.decDigits k++u):=by
 obtain⟨j,l,m,t,d,e,f⟩:=h.part;rw[e];have:=f (k+1) (t++Lib.decDigits k++u) (.kid n k t u c d a g i) (by have:=(Qa.1 a).1;omega);simpa using this
theorem PW.down{a n:ND}{T:Lu}(h:PW cs a ((n,k)::r) T)(b:cs[k]?=some c)(e:(Ax n c k).2=1\/(Ax n c k).2=2)(d:(Ax n c k).1.goals≠[]):PW cs a (((Ax n c k).1,0)::(n,k+1)::r) (T++Lib.decDigits k++[40]):=
 ⟨d,Qm _,[],k,c,T,rfl,b,e,rfl,h,.zero _,Ys⟩
theorem PW.up{g n:ND}{T:Lu}(h:PW cs g ((n,k)::r) T)(w:cs.length<=k):PW cs g r (T++[41]):=by
 cases r with
 |nil=>
  obtain⟨b,i,d,t,f,a⟩:=h;have e:k=cs.length:=Yo
  subst e b a;exact .node n t i f
 |cons m r=>
  obtain⟨m,j⟩:=m;obtain⟨b,i,t,v,c,p,d,f,a,l,o,s,u⟩:=h;have e:k=cs.length:=Yo
  simp only at d a l o;subst e d l u;have q:PW cs g ((m,v)::r) p:=o;have:=q.kid f a (.node _ t b s);simpa using this
theorem PW.leave{a:ND}:∀{way:Ln}{T:Lu},PW cs a way T->PW cs a (DN cs way T).1 (DN cs way T).2:=by
 intro way
 induction way with
 |nil=>intro T h;exact h
 |cons x r c=>
  obtain⟨n,k⟩:=x;intro T h;unfold DN;split
  ·rename_i b;exact c (h.up b)
  ·exact h
theorem Gd(n:ND)(c:Db)(k:Nat):(Ax n c k).2=0\/(Ax n c k).2=1\/(Ax n c k).2=2\/(Ax n c k).2=3:=by
 by_cases a:∃r:ND×Nat,∃m,FM m/\Cl m n/\Kv m c k r.2 r.1
 ·have e:Ax n c k=Classical.choose a:=by unfold Ax;rw[dif_pos a]
  obtain⟨m,_,_,g,gs,_,d⟩:=Classical.choose_spec a;rw[e];rcases d with⟨h0,_⟩|⟨h0,_⟩|⟨σ,_,_,b,_⟩
  ·exact QG h0
  ·exact QO (QO (QO h0))
  ·rw[b];unfold Ct;split
   ·simp
   ·split<;>simp
 ·have e:Ax n c k=(⟨[],[],[],[],0⟩,0):=by unfold Ax;rw[dif_neg a]
  rw[e];simp
theorem PW.try'{e:ND}{s:SN}(h:PW cs e s.way s.tree)(a:(AQ cs s).status≠3):PW cs e (AQ cs s).way (AQ cs s).tree:=by
 unfold AQ at a⊢
 cases i:s.way with
 |nil=>rw[i]at a h;simpa[i]using h
 |cons x r=>
  obtain⟨n,k⟩:=x;rw[i]at a h;simp only at a⊢
  cases d:cs[k]? with
  |none=>rw[d]at a;simp only[i];exact h
  |some c=>
   rw[d]at a;simp only at a⊢
   by_cases j:(Ax n c k).2=3
   ·rw[QQ j]at a;exact absurd rfl a
   ·rw[QP j]
    by_cases f:(Ax n c k).2=1\/(Ax n c k).2=2
    ·rw[QQ f]
     by_cases g:(Ax n c k).1.goals=[]
     ·simp only[B3,QQ g,CE];have b:PW cs e ((n,k)::r) s.tree:=h;exact(b.kid d f (.leaf _ g)).leave
     ·simp only[B3,QP g,CE];have b:PW cs e ((n,k)::r) s.tree:=h;exact(b.down d f g).leave
    ·rw[QP f];simp only[CE];have h0:(Ax n c k).2=0:=by have:=Gd n c k;omega
     have b:PW cs e ((n,k)::r) s.tree:=h;exact(b.miss d h0).leave
variable {m:SN}
structure D5(X:Nat->Prop)(w:World)(B:Nat)(dv:Value)(ds:List (ND×Nat))(xs:List Value):Prop where
 owns:w.ownsRow B 250 6 dv ds.length xs
 all:∀(i:Nat)(d:ND×Nat),ds[i]?=some d->∃m0 m1 m2 m3 m4,xs[i*6]?=some m0/\xs[i*6+1]?=some m1/\xs[i*6+2]?=some m2/\xs[i*6+3]?=some m3/\xs[i*6+4]?=some m4/\xs[i*6+5]?=some (.int .i64 d.2)/\BC X w m0 m1 m2 m3 m4 d.1
theorem D5.ext{B':Nat}{a:Value}(h:D5 X w B a ds xs)(e:Ao w w')(f:∀k,k<w.heap.size->Y k->X k)(b:B'<=B):D5 Y w' B' a ds xs:=
 ⟨AI (Aj h.owns (fun k c=>e.block k (h.owns.lt k c).2)) b,fun i d hd=>by
  obtain⟨j,l,m,n,o,p,q,r,s,t,u,g⟩:=h.all i d hd;exact⟨j,l,m,n,o,p,q,r,s,t,u,g.ext e f⟩⟩
theorem J2{s g n:Nat}(h:w.ownsRow B e s (slice (some ⟨g,0,none⟩) (n+1) cap) (n+1) xs):
  w.ownsRow B e s (slice (some ⟨g,0,none⟩) n cap) n (xs.take (n*s)):=by
 have l:(n+1)*s=n*s+s:=Nat.succ_mul n s;refine⟨by have:=h.1;rw[List.length_take];omega,?_⟩;rcases h.2 with⟨a,_⟩|⟨k,j,b,a,hb,d,hn,c,f,i⟩
 ·simp at a
 ·simp at a;obtain⟨rfl,rfl⟩:=a;refine .inr ⟨g,cap,b,rfl,hb,d,Yo,c,f,?_⟩;rw[<-i,List.take_take]
  congr 1
  omega
theorem D5.pop{g n:Nat}{d:ND×Nat}(h:D5 X w B (slice (some ⟨g,0,none⟩) (n+1) cap) (ds++[d]) xs)(hn:ds.length=n):D5 X w B (slice (some ⟨g,0,none⟩) n cap) ds (xs.take (n*6)):=by
 have a:=h.owns;rw[Qg,Qn,hn]at a;refine⟨by rw[hn];exact J2 a,fun i x b=> ?_⟩;have hi:=(Qa.1 b).1;obtain⟨c,e,f,j,k,l,m,o,p,q,r,g⟩:=h.all i x (by rw[Qc hi];exact b);exact⟨c,e,f,j,k,by rw[JA Yo];exact l,by rw[JA Yo];exact m,by rw[JA Yo];exact o,by rw[JA Yo];exact p,by rw[JA Yo];exact q,by rw[JA Yo];exact r,g⟩
theorem Dq{a c e f g j k l m n d:Value}(h:w.heap[b]?=some (.cells #[a,c,e,f,g,j,k,l,m,n,d] t (0,0))):
  w.cell? ⟨b,0,none⟩=some a/\w.cell? ⟨b,1,none⟩=some c/\w.cell? ⟨b,2,none⟩=some e/\w.cell? ⟨b,3,none⟩=some f/\w.cell? ⟨b,4,none⟩=some g/\w.cell? ⟨b,5,none⟩=some j/\w.cell? ⟨b,6,none⟩=some k/\w.cell? ⟨b,7,none⟩=some l/\w.cell? ⟨b,8,none⟩=some m/\w.cell? ⟨b,9,none⟩=some n/\w.cell? ⟨b,10,none⟩=some d/\∀i,w.frozen? ⟨b,i,none⟩=false:=
 ⟨Aa h 0 _ rfl,Aa h 1 _ rfl,Aa h 2 _ rfl,Aa h 3 _ rfl,Aa h 4 _ rfl,Aa h 5 _ rfl,Aa h 6 _ rfl,Aa h 7 _ rfl,Aa h 8 _ rfl,Aa h 9 _ rfl,Aa h 10 _ rfl,fun i=>Ag h i⟩
def Cw(N:Nat):Ln->Ln
 |[]=>[]
 |x::r=>if N<=x.2 then Cw N r else x::r
theorem Dc(cs:Lc):∀(way:Ln)(t:Lu),(DN cs way t).1=Cw cs.length way:=by
 intro way
 induction way with
 |nil=>intro t;rfl
 |cons x r a=>
  obtain⟨n,k⟩:=x;intro t;simp only[DN,Cw];split
  ·exact a _
  ·rfl
theorem MP(N:Nat):∀(way:Ln),(Cw N way).length<=way.length:=by
 intro way
 induction way with
 |nil=>simp[Cw]
 |cons x r a=>simp only[Cw];split<;>simp<;>omega
theorem K7{N:Nat}:∀{way:Ln}{x:ND×Nat}{r:Ln},Cw N way=x::r->x.2<N:=by
 intro way
 induction way with
 |nil=>intro x r h;simp[Cw]at h
 |cons y s a=>
  intro x r h;simp only[Cw]at h;split at h
  ·exact a h
  ·rename_i hn;simp at h;rw[<-h.1];omega
theorem LP(N:Nat)(way:Ln):Cw N (Cw N way)=Cw N way:=by
 cases h:Cw N way with
 |nil=>rfl
 |cons x r=>
  have:=K7 h;simp only[Cw];rw[QP Yo]
theorem Km(w:World)(X:Np)(la:Oa)(b lc:Nat)(aa:Oa)(al ac:Nat)(na:Oa)(J nc:Nat)(R:Value)(st K:Int)(f0a:Oa)(f0l f0c:Nat)(f1a:Oa)(f1l f1c:Nat)(f2a:Oa)(f2l f2c:Nat)(f3a:Oa)(f3l f3c:Nat)(f4:Int)
  (way:Ln) (xs:Lv) (B:D5 X w 0 R way.reverse xs) (bg:way.length<=4000) (W:∀x∈way,x.2<=4000) (bd:b<=4000):
  Calls prog 112 #[agg #[slice la b lc,slice aa al ac,slice na J nc,R,int i64 st,int i64 K,slice f0a f0l f0c,slice f1a f1l f1c,slice f2a f2l f2c,slice f3a f3l f3c,int i64 f4]] w fun e w'=>
   ∃s f,e=returned s/\Ao w w'/\D5 X w' 0 s (Cw b way).reverse f:=by
 obtain⟨da,Q,rfl⟩:=Ab B.owns;rw[Qv]at B⊢;have aj:=Yh B;have an:=Yh W;clear B W;obtain⟨c,t⟩:=Ex (w.alloc (.cells #[slice la b lc,slice aa al ac,slice na J nc,slice da way.length Q,int i64 st,int i64 K,slice f0a f0l f0c,slice f1a f1l f1c,slice f2a f2l f2c,slice f3a f3l f3c,int i64 f4] 154));have I:Ao w c:=by rw[t];exact Mxt
 have bf:c.heap.size=w.heap.size+1:=by rw[t];simp
 have S:c.heap[w.heap.size]?=some (.cells #[slice la b lc,slice aa al ac,slice na J nc,slice da way.length Q,int i64 st,int i64 K,slice f0a f0l f0c,slice f1a f1l f1c,slice f2a f2l f2c,slice f3a f3l f3c,int i64 f4] 154 (0,0)):=by rw[t];exact QL w _
 have M:=Yh I;have ai:=Yh S;have am:=Yh t;have ak:=Yh (aj.o.ext (Y:=X) (B':=0) I (fun _ _ h=>h) (Qe _));clear I S t;go_enter func112,ntmps112;go_wp2;rw[<-am.o]
 go_loopg [3] (way.length+1) (fun gk d wr=>∃(way':Ln)(f:Lv),way'.length<gk/\way'.length<=way.length/\(∀x∈way',x.2<=4000)/\Cw b way'=Cw b way/\Ao c wr/\D5 X c 0 d way'.reverse f)
 case atStart=>exact⟨way,xs,Yo,Qe _,an.o,rfl,Ao.of (Ad.refl _ _),ak.o⟩
 case round=>
  obtain⟨way',f,D,E,v,F,i,j⟩:=hrel;obtain⟨aq,O,T⟩:=Ab j.owns;obtain⟨m,hz⟩:=Ex way'.reverse.length;rw[<-hz]at T;subst T;obtain⟨ax,b1,b2,az,a0,a1,a2,a3,a4,a5,ay,a6⟩:=Dq ((i.block _ Yo).trans ai.o);have k:=j.ext (Y:=X) (B':=0) i (fun _ _ h=>h) (Qe _);have g:=Yh i;have p:=Yh j;have G:=Yh k;have q:=Yh F;have n:YH (∀u,Ao c u->Cw b way'=way'->∃s f,(Ending.returned (slice aq m O))=returned s/\Ao w u/\D5 X u 0 s (Cw b way).reverse f):=fun u l av=>⟨_,f,rfl,M.o.trans (l.mono M.o.size),by
   rw[<-q.o,av];exact(p.o.ext (Y:=X) (B':=0) l (fun _ _ h=>h) (Qe _))⟩
  cases a:way' with
  |nil=>
   have au:decide ((0:Int)<(m:Int))=false:=by rw[hz,a];rfl
   have bb:decide (0<m)=false:=by rw[hz,a];rfl
   have A:YH (∀u,Ao c u->_):=fun u l=>n.o u l (by rw[a];rfl);clear i j k F v hz a p G q n;go_wp2_with fail;go_quiet (fail);go_wp2;go_ret;exact A.o _ (g.o.trans ((Ao.of ((Ad.refl _ wr).drewN _)).mono g.o.size))
  |cons x r=>
   have ab:m=r.length+1:=by rw[hz,a];simp
   obtain⟨bj,bk,bl,bm,bn,ad,ae,af,ag,ah,L,Z⟩:=k.all r.length x (by rw[a,Qw,Qd Ys];simp);have z:=k.owns;rw[<-hz]at z;obtain⟨P,a7,a8,V,a9,U,ba⟩:=An z Yo;simp only[QH]at V;obtain⟨rfl,_,rfl⟩:=V;have bo:wr.cell? ⟨P,r.length*6+5,none⟩=some (int i64 x.2):=Af z _ _ L;have bh:=v x (by rw[a];simp);have ao:=Yh v;have ap:=Yh a;have bi:m<=4000:=by rw[hz,Qv];omega
   have au:(0:Int)<(m:Int):=Yo
   have bc:r.length<gk-1:=by rw[a]at D;simp at D;omega
   have be:r.length<=way.length:=by rw[a]at E;simp at E;omega
   by_cases C:b<=x.2
   ·have ar:(b:Int)<=(x.2:Int):=Yo
    have N:YH (Cw b r=Cw b way/\D5 X c 0 (slice (some ⟨P,0,none⟩) r.length O) r.reverse (f.take (r.length*6))):=by
     have h:=q.o;have H:=p.o;rw[a]at h H;rw[ab,Qw]at H;exact⟨by simpa only[Cw,QQ C]using h,H.pop Ys⟩
    clear i j k F v Z ad ae af ag ah L U C z hz a D E p G q n;go_wp2_with fail;go_quiet (fail);go_wp2
    go_roundg (r.length+1)
    case measure=>omega
    case rel=>exact⟨r,_,Yo,Yo,fun y aw=>ao.o y (by rw[ap.o];simp[aw]),N.o.1,g.o.trans ((Ao.of ((Ad.refl _ wr).drewN _)).mono g.o.size),N.o.2⟩
   ·have ar:¬(b:Int)<=(x.2:Int):=Yo
    have A:YH (∀u,Ao c u->_):=fun u l=>n.o u l (by rw[a];simp only[Cw,QP C]);rw[ab]at A;clear i j k F v Z ad ae af ag ah L U C z hz a D E p G q n;go_wp2_with fail;go_quiet (fail);go_wp2;go_ret;exact A.o _ (g.o.trans ((Ao.of ((Ad.refl _ wr).drewN _)).mono g.o.size))
def KD(P:ND->Lu->Prop)(cs:Lc)(n:ND):Nat->Nat->Lu->Prop
 |0,_,t=>t=[]
 |f+1,k,t=>∃c,cs[k]?=some c/\(((Ax n c k).2=0/\KD P cs n f (k+1) t)\/(((Ax n c k).2=1\/(Ax n c k).2=2)/\∃u t',P (Ax n c k).1 u/\t=Lib.decDigits k++(u++t')/\KD P cs n f (k+1) t'))
theorem Hv.segs{P:ND->Lu->Prop}(hl:∀n,n.goals=[]->P n [33])(hn:∀n t,n.goals≠[]->KD P cs n cs.length 0 t->P n ([40]++t++[41])):∀{n u},Hv cs n u->P n u:=by
 intro n u h;refine Hv.rec (motive_1:=fun n u _=>P n u) (motive_2:=fun n k t _=>∀f r,KD P cs n f k r->KD P cs n (k+f) 0 (t++r)) ?_ ?_ ?_ ?_ ?_ h
 ·intro n h;exact hl n h
 ·intro n t h i a;refine hn n t h ?_;simpa using a 0 [] rfl
 ·intro n f r h;simpa using h
 ·intro n k t c h b d a f r e;have:=a (f+1) r ⟨c,b,QG ⟨d,e⟩⟩;rw[show k+1+f=k+(f+1) by omega];exact this
 ·intro n k t u c h b d j a g f r e;have:=a (f+1) (Lib.decDigits k++(u++r)) ⟨c,b,QO ⟨d,u,r,g,rfl,e⟩⟩;rw[show k+1+f=k+(f+1) by omega];simpa using this
def Ga(cs:Lc)(n:ND)(u:Lu):Prop:=u.length<=1000000->∀(w:World)(lv:Value)(xs:Lv)(m0 m1 m2 m3 m4:Value),Gb (fun _=>False) w lv cs xs->BC (fun _=>False) w m0 m1 m2 m3 m4 n->
 Calls prog 149 #[lv,.agg #[m0,m1,m2,m3,m4]] w fun e w'=>e= .returned (.string ⟨u.toArray⟩)/\Ao w w'
theorem U8(cs:Lc)(n:ND)(c:n.goals=[]):Ga cs n [33]:=by
 intro _ w r xs s t u v x a b;obtain⟨d,e,f,h,g,i,k,j,l,o,m,p,rfl,rfl,rfl,rfl,rfl⟩:=b.len;rw[c];obtain⟨la,q,rfl⟩:=Ab a.owns;clear a b;go_enter func149,ntmps149;go_wp2;go_ret;exact⟨rfl,Mxt⟩
set_option maxHeartbeats 8000000 in
theorem T2(cs:Lc)(av:∀c∈cs,KR c/\Ry c)(bt:cs.length<=24)(n:ND)(t:Lu)(I:n.goals≠[])(aq:KD (Ga cs) cs n cs.length 0 t):Ga cs n ([40]++t++[41]):=by
 intro bw w ch xs ci cj ck cl cm D x;obtain⟨u,L⟩:=Ex ([40]++t++[41]);rw[<-L]at bw⊢;obtain⟨V,W,X,aa,Z,ac,ae,ad,af,ah,ag,ai,rfl,rfl,rfl,rfl,rfl⟩:=x.len;obtain⟨la,cg,rfl⟩:=Ab D.owns;obtain⟨N,hz⟩:=Ex n.goals.length;have cf:((N:Int)==0)=false:=by
  rw[Qu];have:n.goals.length≠0:=fun h=>I (QS h);omega
 rw[<-hz]at x⊢;have a6:=Yh aq;have ba:=Yh av;have be:=Yh L;have bc:=Yh I;obtain⟨d,l⟩:=Ex (w.alloc (.cells #[slice V N W,slice X aa Z,slice ac ae ad,slice af ah ag,int i64 ai] 152));have v:Ao w d:=by rw[l];exact Mxt
 have ce:d.heap.size=w.heap.size+1:=by rw[l];simp
 have aj:d.heap[w.heap.size]?=some (.cells #[slice V N W,slice X aa Z,slice ac ae ad,slice af ah ag,int i64 ai] 152 (0,0)):=by rw[l];exact QL w _
 have Q:=Yh v;have az:=Yh aj;have a9:=Yh l;have O:=Yh (D.ext (Y:=fun _=>False) v (fun _ _ h=>h));have a4:=Yh (x.ext (Y:=fun _=>False) v (fun _ _ h=>h));clear D x aq av L I hz v aj l;go_enter func149,ntmps149;go_wp2;rw[<-a9.o]
 go_loopg [5,6] (cs.length+1) (fun gk b3 i wr=>∃(k:Nat)(a r:Lu),i=int i64 k/\k<=cs.length/\cs.length-k<gk/\b3=string ⟨a.toArray⟩/\Ao d wr/\KD (Ga cs) cs n (cs.length-k) k r/\a++(r++[41])=u)
 case atStart=>exact⟨0,[40],t,Yg,Qm _,Yo,rfl,Ao.of (Ad.refl _ _),a6.o,by rw[be.o];simp⟩
 case round=>
  obtain⟨k,a,r,rfl,ca,b9,rfl,g,ao,H⟩:=hrel;have b8:a.length<=1000000:=by
   have b:=congrArg List.length H;simp only[Qg]at b;omega
  have bx:=g.size;obtain⟨b4,b1,b2,b5,b6,b7⟩:=C0 ((g.block _ Yo).trans az.o);have P:=Yh g;have j:=Yh H;have p:=Yh ao;have a1:=Yh (O.o.ext (Y:=fun _=>False) g (fun _ _ h=>h));have a5:=Yh (a4.o.ext (Y:=fun _=>False) g (fun _ _ h=>h));clear g ao H
  by_cases cd:k<cs.length
  ·obtain⟨f,bv⟩:∃f,cs.length-k=f+1:=⟨cs.length-k-1,Yo⟩;have ap:=p.o;rw[bv]at ap;obtain⟨c,ar,au⟩:=ap;have A:=Yh au;have a7:=Yh (I1 wr (fun _=>False) _ cs xs _ _ _ _ _ n k c a1.o ba.o bt a5.o (fun _ h=>h.elim) ar bc.o);clear ar au;go_wp2_with fail;apply a7.o.mono;rintro e w1 ⟨ct,rfl,ak,cn,co,cp,cq,cr,q,rfl,b0,J,aw⟩;obtain⟨bf,bh,bg,bi,bk,bj,bl,bn,bm,bo,bq,bp,br,ax⟩:=b0;simp only[Value.agg.injEq,Array.mk.injEq,QI,and_true]at ax;obtain⟨rfl,rfl,rfl,rfl,rfl⟩:=ax;have E:Ao d w1:=P.o.trans (ak.mono bx);have R:=Yh E;have U:=Yh aw;have a0:=Yh (O.o.ext (Y:=fun _=>False) E (fun _ _ h=>h));clear ak E aw;obtain⟨C,G⟩:=Ex (w1.alloc (.cells #[slice bf bh bg,slice bi bk bj,slice bl bn bm,slice bo bq bp,int i64 br] 152));have F:Ao w1 C:=by rw[G];exact Mxt
   have am:Ao d C:=R.o.trans (F.mono R.o.size);have z:=Yh am;have S:=Yh F;have T:=Yh G;clear F am G;rcases A.o with⟨h0,m⟩|⟨bs,y,M,an,K,m⟩
   ·have ay:q=0:=by rw[J,h0]
    have s:=Yh m;clear A J h0 m;subst ay;go_wp2
    go_roundg (cs.length-k)
    case measure=>omega
    case rel=>exact⟨k+1,a,r,Yg,Yo,Yo,rfl,by rw[<-T.o];exact z.o,by rw[show cs.length-(k+1)=f by omega];exact s.o,j.o⟩
   ·have ay:((q:Int) !=0)=true:=by rw[QR];omega
    have cb:k<24:=Yo
    have a2:=Yh (FQ k Yo);have cc:(Lib.decDigits k).length<=30:=by have:=D8 k;omega
    have bz:y.length<=1000000:=by
     have b:=congrArg List.length j.o;rw[K]at b;simp only[Qg]at b;omega
    have a8:=Yh (an bz C _ xs _ _ _ _ _ (a0.o.ext (Y:=fun _=>False) S.o (fun _ _ h=>h)) ((U.o Yo).ext (Y:=fun _=>False) S.o (fun _ _ h=>h)));have B:=Yh (AA a (Lib.decDigits k));have bd:=Yh (AA (a++Lib.decDigits k) y);have s:YH (KD (Ga cs) cs n f (k+1) M/\(a++Lib.decDigits k++y)++(M++[41])=u):=⟨m,by have b:=j.o;rw[K]at b;rw[<-b];simp⟩;clear A J bs m an K U p;go_wp2_with fail;apply(a2.o _).mono;rintro e w2 ⟨rfl,rfl⟩;go_wp2_with fail;rw[<-T.o];apply a8.o.mono;rintro e w3 ⟨rfl,al⟩;have a3:=Yh al;clear al;go_wp2
    go_roundg (cs.length-k)
    case measure=>omega
    case rel=>exact⟨k+1,a++Lib.decDigits k++y,M,Yg,Yo,Yo,by rw[<-bd.o,<-B.o],z.o.trans (a3.o.mono z.o.size),by rw[show cs.length-(k+1)=f by omega];exact s.o.1,s.o.2⟩
  ·have bu:k=cs.length:=Yo
   subst bu;have bb:YH (a++[41]=u):=by
    have b:=j.o;have ab:=p.o;rw[Nat.sub_self]at ab;rw[show r=[] from ab]at b;show _=_;simpa using b
   have B:=Yh (AA a [41]);clear j p;go_wp2;go_ret;rw[<-bb.o];exact⟨DS (by rw[<-B.o]),Q.o.trans (P.o.mono Q.o.size)⟩
theorem Pa(cs:Lc)(d:∀c∈cs,KR c/\Ry c)(b:cs.length<=24){n:ND}{u:Lu}(h:Hv cs n u):Ga cs n u:=
 h.segs (fun n a=>U8 cs n a) (fun n t a e=>T2 cs d b n t a e)
theorem Ky(w:World)(av nv j k l m o:Value)(a:Ll×At)(c:ND)(d:Fg w av nv a)(D:BC (fun _=>False) w j k l m o c)(F:c.vals.length=a.2.length)(O:a.2.length<=121)(B:∀y∈a.2,y.length<=4096):
  Calls prog 116 #[agg #[av,nv],agg #[j,k,l,m,o]] w fun e w'=>e=returned (string ⟨(AU a.2 c).toArray⟩)/\Ao w w':=by
 obtain⟨L,v⟩:=d.atoms;obtain⟨aa,p,rfl⟩:=Ab v.1;obtain⟨n,b,f,A,g,rfl⟩:=D.node;obtain⟨K,h⟩:=b.vals;obtain⟨N,z⟩:=b.goals;obtain⟨M,x⟩:=b.done;obtain⟨r,u,rfl⟩:=Ab z.owns;obtain⟨va,J,rfl⟩:=Ab h.1;obtain⟨da,q,rfl⟩:=Ab x.owns;obtain⟨H,I,rfl⟩:=Ab b.used;obtain⟨na,G,rfl⟩:=Ab d.names;have C:AU a.2 n=AU a.2 c:=by unfold AU;rw[g.valsC f]
 rw[<-C];exact H9 w (fun _=>False) (slice aa a.1.length p) (slice na a.2.length G) (slice r n.goals.length u) (slice va n.vals.length J) (slice da n.done.length q) (slice H n.used.length I) n.vars a.2 n 0 K ⟨_,_,_,rfl⟩ ⟨_,_,_,rfl⟩ ⟨_,_,_,rfl⟩ ⟨_,_,_,rfl⟩
   d.names h (by rw[g.vl,F]) Yo B (fun t i=>⟨f.vsize i,fun s E=>Qq (A t (by simp[ND.terms,i]) s E) Yo⟩)
structure SC where
 la:Option Addr
 lc:Nat
 aa:Option Addr
 ac:Nat
 na:Option Addr
 nc:Nat
 da:Option Addr
 dc:Nat
 f0a:Option Addr
 f0l:Nat
 f0c:Nat
 f1a:Option Addr
 f1l:Nat
 f1c:Nat
 f2a:Option Addr
 f2l:Nat
 f2c:Nat
 f3a:Option Addr
 f3l:Nat
 f3c:Nat
 f4:Int
def SC.val(s:SC)(cl al nl wl:Nat)(st tr:Int):Value:= .agg #[.slice s.la cl s.lc,.slice s.aa al s.ac,.slice s.na nl s.nc,.slice s.da wl s.dc,.int .i64 st,.int .i64 tr,.slice s.f0a s.f0l s.f0c,.slice s.f1a s.f1l s.f1c,.slice s.f2a s.f2l s.f2c,.slice s.f3a s.f3l s.f3c,.int .i64 s.f4]
structure GX(X:Nat->Prop)(w:World)(s:SC)(cs:List Db)(a:List (List BJ)×At)(way:List (ND×Nat))(st:Nat)(found:ND):Prop where
 cls:∃xs,Gb (fun _=>False) w (.slice s.la cs.length s.lc) cs xs
 ask:Fg w (.slice s.aa a.1.length s.ac) (.slice s.na a.2.length s.nc) a
 dues:∃ys,D5 X w 0 (.slice s.da way.length s.dc) way.reverse ys
 found:st=1->BC X w (.slice s.f0a s.f0l s.f0c) (.slice s.f1a s.f1l s.f1c) (.slice s.f2a s.f2l s.f2c) (.slice s.f3a s.f3l s.f3c) (.int .i64 s.f4) found
 xok:Mr X w
theorem GX.ext{s:SC}{way:Ln}{st:Nat}{found:ND}(h:GX X w s cs a way st found)(e:Ao w w'):GX X w' s cs a way st found:=by
 obtain⟨xs,b⟩:=h.cls;obtain⟨f,c⟩:=h.dues;exact⟨⟨xs,b.ext e (fun _ _ h=>h)⟩,h.ask.ext e,⟨f,c.ext e (fun _ _ h=>h) (Qe _)⟩,fun d=>(h.found d).ext e (fun _ _ h=>h),h.xok.ext e⟩
noncomputable def Du(a:Ll×At)(st:Nat)(found:ND)(T:Lu):Lu×Lu×Lu:=
 if st=1 then(AU a.2 found,FB found,[])else if st=2 then([],[],T)else([],[],[])
theorem VG(w:World)(s:SC)(cs:Lc)(q:ByteArray)(a:Ll×At)(way:Ln)(st:Nat)(a4:Int)(found:ND)(T:Lu)(h:GX X w s cs a way st found)(L:∀c∈cs,KR c/\Ry c)(a2:cs.length<=24)(D:Cn q=some a)
  (r:st=1->found.vals.length=a.2.length/\∀k∈found.used,k<24) (t:st=2->Hv cs (AN a) T/\T.length<=1000000):
  Calls prog 114 #[s.val cs.length a.1.length a.2.length way.length st a4] w fun e w'=>e=Rq #[string ⟨(Du a st found T).1.toArray⟩,string ⟨(Du a st found T).2.1.toArray⟩,string ⟨(Du a st found T).2.2.toArray⟩]/\Ao w w':=by
 obtain⟨_,_,_,A,z,B,K,p,C⟩:=Cq D;obtain⟨xs,v⟩:=h.cls;have m:=h.ask;obtain⟨la,lc,aa,ac,na,nc,da,dc,f0a,f0l,f0c,f1a,f1l,f1c,f2a,f2l,f2c,f3a,f3l,f3c,f4⟩:=s;simp only[SC.val]at*;have E:=Yh v
 by_cases N:st=1
 ·subst N;obtain⟨j,l⟩:=r rfl;have I:=h.found rfl;have O:=Yh (fun u (i:Ao w u)=>Ky u _ _ _ _ _ _ _ a found (m.ext i) (I.ext (Y:=fun _=>False) i (fun _ _ h=>h.elim)) j p (fun y a3=>Qq (C y a3) Yo));have P:=Yh (fun u (i:Ao w u)=>Lb u (fun _=>False) _ _ _ _ _ found (I.ext (Y:=fun _=>False) i (fun _ _ h=>h.elim)) l);have d:YH (Du a 1 found T=(AU a.2 found,FB found,[])):=by show _=_;simp[Du]
  rw[d.o];clear h A z B K p C D r t v m I j l d E;obtain⟨ans,S⟩:∃x,x=AU a.2 found:=⟨_,rfl⟩;obtain⟨bd,U⟩:∃x,x=FB found:=⟨_,rfl⟩;rw[<-S]at O⊢;rw[<-U]at P⊢;clear S U;go_enter func114,ntmps114;go_wp2_with fail;apply(O.o _ Mxt).mono;rintro e w2 ⟨rfl,b⟩;have f:=b.size;simp at f;obtain⟨ae,b1,b2,ag,ah,ai,aj,ak,al,am,af,an⟩:=Dq ((b.block w.heap.size Ys).trans (QL w _));have g:YH (Ao w w2):=(Mxt:Ao w (w.alloc _)).trans (b.mono Ys);clear b;go_wp2_with fail;apply(P.o _ g.o).mono;rintro e w3 ⟨rfl,n⟩;have F:=Yh n;clear n;go_wp2;go_ret3;exact⟨rfl,g.o.trans (F.o.mono g.o.size)⟩
 ·by_cases f:st=2
  ·subst f;obtain⟨j,l⟩:=t rfl;obtain⟨ad,R⟩:=m.atoms;have V:=Yh (fun u (i:Ao w u)=>I0 u (X:=fun _=>False) (fun _ h=>h.elim) _ _ a ad (R.ext i (fun _ _ h=>h)) ⟨na,nc,rfl⟩ A z B p);have W:=Yh (Pa cs L a2 j l);have d:YH (Du a 2 found T=([],[],T)):=by show _=_;simp[Du]
   rw[d.o];clear h A z B K p C D r t v m j l d R L;go_enter func114,ntmps114;go_wp2_with fail;apply(V.o _ Mxt).mono;rintro e w2 ⟨a8,a9,ba,bb,bc,rfl,b,M⟩;obtain⟨ao,ap,aq,au,ar,av,ax,aw,ay,a0,az,a1,rfl,rfl,rfl,rfl,rfl⟩:=M.len;have f:=b.size;simp at f;obtain⟨ae,b1,b2,ag,ah,ai,aj,ak,al,am,af,an⟩:=Dq ((b.block w.heap.size Ys).trans (QL w _));have g:YH (Ao w w2):=(Mxt:Ao w (w.alloc _)).trans (b.mono Ys);obtain⟨Q,J⟩:=Ex (w2.alloc (.cells #[slice ao (AN a).goals.length ap,slice aq au ar,slice av ax aw,slice ay a0 az,int i64 a1] 152));have H:Ao w2 Q:=by rw[J];exact Mxt
   have G:=Yh (g.o.trans (H.mono g.o.size));have ab:=Yh (W.o Q _ xs _ _ _ _ _ (E.o.ext (Y:=fun _=>False) G.o (fun _ _ h=>h)) (M.ext (Y:=fun _=>False) H (fun _ _ h=>h)));have Z:=Yh J;have a5:w.heap.size<w2.heap.size:=Yo
   clear b M J H;go_wp2_with fail;rw[<-Z.o];apply ab.o.mono;rintro e w3 ⟨rfl,n⟩;have F:=Yh n;clear n;go_wp2;go_ret3;exact⟨rfl,G.o.trans (F.o.mono G.o.size)⟩
  ·have d:YH (Du a st found T=([],[],[])):=by show _=_;simp[Du,N,f]
   rw[d.o];have a6:((st:Int)==1)=false:=by rw[Qu];omega
   have a7:((st:Int)==2)=false:=by rw[Qu];omega
   clear h A z B K p C D r t v m d E L N f;go_enter func114,ntmps114;go_wp2;go_ret3;exact⟨rfl,Mxt⟩
theorem infoDue:(prog.info? 250).map (fun i=>(i.zero,i.size,i.bytes))=some (some (agg #[Nl,Nl,Nl,Nl,int i64 0,int i64 0]),6,112):=by kernel_rfl
theorem TV{a0 b c d:Oa}{i j l m e f g h:Nat}{v k:Int}:∀u∈(#[Value.slice a0 i e,slice b j f,slice c l g,slice d m h,int i64 v,int i64 k]:Av).toList,u.oneCell'=true:=by
 intro u a;simp at a;rcases a with rfl|rfl|rfl|rfl|rfl|rfl<;>rfl
theorem BC.one{a b c d e:Value}{f:ND}(h:BC X w a b c d e f):a.oneCell'=true/\b.oneCell'=true/\c.oneCell'=true/\d.oneCell'=true/\e.oneCell'=true:=by
 obtain⟨g,i,j,l,k,m,o,n,p,r,q,s,rfl,rfl,rfl,rfl,rfl⟩:=h.len;exact⟨rfl,rfl,rfl,rfl,rfl⟩
theorem D5.one{b:Value}(h:D5 X w B b ds xs):∀u∈xs,u.oneCell'=true:=by
 intro u f;obtain⟨j,z,rfl⟩:=Q8 f;have hl:=h.owns.1;have hi:j/6<ds.length:=Yo
 obtain⟨A,C,D,E,F,q,r,s,t,x,y,g⟩:=h.all (j/6) _ (Qb hi);obtain⟨l,m,n,o,p⟩:=g.one;have a:∀{i:Nat}{v:Value},i=j->xs[i]?=some v->v.oneCell'=true->xs[j].oneCell'=true:=by
  intro i v e k d;subst e;rw[(Qa.1 k).2];exact d
 have c:j%6=0\/j%6=1\/j%6=2\/j%6=3\/j%6=4\/j%6=5:=Yo
 rcases c with e|e|e|e|e|e
 ·exact a Yo q l
 ·exact a Yo r m
 ·exact a Yo s n
 ·exact a Yo t o
 ·exact a Yo x p
 ·exact a Yo y rfl
theorem D5.step{cv':Value}{a b c f l:Value}{n:ND}(h:D5 X w B cv ds xs)(hn:BC X w a b c f l n)(ha:Ar w B 250 6 cv (ds.length+1) (xs++[a,b,c,f,l,int i64 k]) cv' w'):
  D5 X w' B cv' (ds++[(n,k)]) (xs++[a,b,c,f,l,int i64 k]):=by
 have o:∀j,Ak cv j->∃cl t fr,w.heap[j]?=some (.cells cl t fr)/\t≠183/\t≠200/\t≠3:=fun j m=>by
  rcases h.owns.2 with⟨rfl,_⟩|⟨g,F,G,rfl,_,p,_⟩
  ·simp[Ak,Value.ownBlock]at m
  ·simp[Ak,Value.ownBlock]at m;subst m;exact⟨_,_,_,p,Yd,Yd,Yd⟩
 have q:=h.owns.1;refine⟨by simpa using ha.owns,fun i d hd=> ?_⟩;rcases QB i ds.length with hi|hi
 ·rw[Qc hi]at hd;obtain⟨r,s,u,v,x,y,z,A,C,D,E,g⟩:=h.all i d hd;exact⟨r,s,u,v,x,by rw[Qc Yo];exact y,by rw[Qc Yo];exact z,by rw[Qc Yo];exact A,by rw[Qc Yo];exact C,by rw[Qc Yo];exact D,by rw[Qc Yo];exact E,g.keep ha.kept o⟩
 ·have e:i=ds.length:=by
   have:=(Qa.1 hd).1;simp at this;omega
  subst e;rw[Qd (Qe _)]at hd;simp at hd;subst hd;exact⟨a,b,c,f,l,by rw[Qd Yo];simp[q],by rw[Qd Yo,show ds.length*6+1-xs.length=1 by omega];rfl,by rw[Qd Yo,show ds.length*6+2-xs.length=2 by omega];rfl,by rw[Qd Yo,show ds.length*6+3-xs.length=3 by omega];rfl,by rw[Qd Yo,show ds.length*6+4-xs.length=4 by omega];rfl,by rw[Qd Yo,show ds.length*6+5-xs.length=5 by omega];rfl,hn.keep ha.kept o⟩
theorem D5.on0{B':Nat}{a cv':Value}(h:D5 X w B' a ds xs)(ha:Ar w B 250 6 Nl ds.length xs cv' w'):D5 X w' B cv' ds xs:=by
 refine⟨ha.owns,fun i d hd=> ?_⟩;obtain⟨c,e,f,k,l,m,n,o,p,q,r,g⟩:=h.all i d hd;exact⟨c,e,f,k,l,m,n,o,p,q,r,g.keep ha.kept (fun j b=>by simp[Ak,Value.ownBlock]at b)⟩
theorem Iw{a c d e f g:Value}(h:w.heap[b]?=some (.cells #[a,c,d,e,f,g] t (0,0))):
  w.cell? ⟨b,0,none⟩=some a/\w.cell? ⟨b,1,none⟩=some c/\w.cell? ⟨b,2,none⟩=some d/\w.cell? ⟨b,3,none⟩=some e/\w.cell? ⟨b,4,none⟩=some f/\w.cell? ⟨b,5,none⟩=some g/\∀i,w.frozen? ⟨b,i,none⟩=false:=
 ⟨Aa h 0 _ rfl,Aa h 1 _ rfl,Aa h 2 _ rfl,Aa h 3 _ rfl,Aa h 4 _ rfl,Aa h 5 _ rfl,fun i=>Ag h i⟩
def HR(t:TypeId):Prop:=t=183\/t=200\/t=3\/t=250\/t=185\/t=9
def Dz(S:Np)(w:World):Prop:=∀k,S k->∃cl t fr,w.heap[k]?=some (.cells cl t fr)/\¬HR t
theorem Dz.own{n:Nat}(d:Dz S w)(f:HR e)(j:Ad S w w')(h:w.ownsRow B e size v n xs):w'.ownsRow B e size v n xs:=
 Aj h (fun k a=>j.block k (h.lt k a).2 (fun l=>by
  obtain⟨cl,t,fr,b,c⟩:=d k l;rcases h.2 with⟨rfl,_⟩|⟨g,m,o,rfl,_,i,_⟩
  ·simp[Ak,Value.ownBlock]at a
  ·simp[Ak,Value.ownBlock]at a;subst a;rw[i]at b;simp at b;exact c (b.2.1▸f)))
theorem Dz.terms(f:Dz S w)(g:Ad S w w'):∀k,k<w.heap.size->¬X k->Cz w k->w'.heap[k]?=w.heap[k]?/\¬X k:=fun k d e a=>⟨g.block k d (fun h=>by
  obtain⟨cl,t,fr,b,c⟩:=f k h;obtain⟨i,a⟩:=a;rw[b]at a;simp at a;exact c (QG a.2.1)),e⟩
theorem Dz.node(l:Dz S w)(m:Ad S w w'){b c d f g:Value}{i:ND}(h:BC X w b c d f g i):BC X w' b c d f g i:=
 h.keep m (fun k n=>by
  obtain⟨cl,t,fr,j,a⟩:=l k n;exact⟨cl,t,fr,j,fun e=>a (QG e),fun e=>a (QO (QG e)),fun e=>a (QO (QO (QG e)))⟩)
theorem D5.keep{a:Value}(h:D5 X w B a ds xs)(c:Ad S w w')(b:Dz S w):D5 X w' B a ds xs:=
 ⟨b.own (by simp[HR]) c h.owns,fun i d hd=>by
  obtain⟨e,f,j,k,l,m,n,o,p,q,r,g⟩:=h.all i d hd;exact⟨e,f,j,k,l,m,n,o,p,q,r,b.node c g⟩⟩
theorem Gb.keep(h:Gb X w lv cs xs)(f:Ad S w w')(e:Dz S w):Gb X w' lv cs xs:=
 ⟨e.own (by simp[HR]) f h.owns,fun i c l=>by
  obtain⟨a,b,d,g,r,m,n,o,p,q,j,k⟩:=h.all i c l;exact⟨a,b,d,g,r,m,n,o,p,q,j.on (e.terms f),k.on (e.terms f)⟩⟩
theorem GX.keep{s:SC}{way:Ln}{st:Nat}{found:ND}(h:GX X w s cs a way st found)(f:Ad S w w')(d:Dz S w):GX X w' s cs a way st found:=by
 obtain⟨xs,c⟩:=h.cls;obtain⟨m,j⟩:=h.dues;exact⟨⟨xs,c.keep f d⟩,h.ask.keep f (fun k g=>by
  obtain⟨cl,t,fr,b,i⟩:=d k g;exact⟨cl,t,fr,b,fun e=>i (QG e),fun e=>i (QO (QO (QO (QO (QO e)))))⟩),⟨m,j.keep f d⟩,fun g=>d.node f (h.found g),fun k l=>by
  obtain⟨cl,fr,c⟩:=h.xok k l;refine⟨cl,fr,(f.block k (Ac c) (fun g=> ?_)).trans c⟩;obtain⟨n,t,o,b,i⟩:=d k g;rw[c]at b;simp at b;exact i (b.2.1▸QO (QO (QG rfl)))⟩
theorem DK{a c:Av}{d e:Nat×Nat}(f:w.heap[b]?=some (.cells a 154 d))(g:w.heap[b+1]?=some (.cells c 154 e)):Dz (fun k=>b<=k/\k<=b+1) w:=fun k h=>by
 have:k=b\/k=b+1:=Yo
 rcases this with rfl|rfl
 ·exact⟨_,_,_,f,by simp[HR]⟩
 ·exact⟨_,_,_,g,by simp[HR]⟩
theorem GX.fin{u:World}{d e:Av}{s:SC}{way:Ln}{st:Nat}{found:ND}(b:Ao w u)(f:u.heap[w.heap.size]?=some (.cells d 154 (0,0)))(g:u.heap[w.heap.size+1]?=some (.cells e 154 (0,0)))
  (h:GX X u s cs a way st found) (c:Ad (fun k=>w.heap.size<=k/\k<=w.heap.size+1) u w'):Ao w w'/\GX X w' s cs a way st found:=
 ⟨b.trans (c.below b.size (fun _ h=>h.1)),h.keep c (DK f g)⟩
theorem D5.base{a:Value}(h:D5 X w B a ds xs):D5 X w 0 a ds xs:=⟨AI h.owns (Qm _),h.all⟩
noncomputable def Ci(n:ND)(c:Db)(k:Nat)(r:Ln):Ln:=if(Ax n c k).2=1 then((Ax n c k).1,0)::(n,k+1)::r else(n,k+1)::r
noncomputable def Ch(n:ND)(c:Db)(k:Nat):Nat:=if(Ax n c k).2=2 then 1 else if(Ax n c k).2=3 then 3 else 0
def F2(X:Np)(w:World)(cs:Lc)(a:Ll×At)(n:ND)(c:Db)(k:Nat)(r:Ln)(tr:Nat)(e:Ending)(w':World):Prop:=∃s':SC,e= .returned (s'.val cs.length a.1.length a.2.length (Ci n c k r).length (Ch n c k) ((tr+1:Nat):Int))/\Ao w w'/\GX X w' s' cs a (Ci n c k r) (Ch n c k) (Ax n c k).1
set_option maxHeartbeats 8000000 in
theorem UL(w:World)(s:SC)(cs:Lc)(a:Ll×At)(way:Ln)(b:Nat)(found n:ND)(k:Nat)(r:Ln)(c:Db)(h:GX X w s cs a way 0 found)(dx:∀c∈cs,KR c/\Ry c)(eq:cs.length<=24)
  (cv:Cw cs.length way=(n,k)::r) (cq:cs[k]?=some c) (dy:n.goals≠[]) (ev:way.length<=4000) (l:∀x∈way,x.2<=4000) (fo:b<=4000):
  Calls prog 113 #[s.val cs.length a.1.length a.2.length way.length 0 b] w (F2 X w cs a n c k r b):=by
 have fh:r.length+1<=4000:=by
  have:=MP cs.length way;rw[cv]at this;simp at this;omega
 have fd:k<24:=by have:=(Qa.1 cq).1;omega
 obtain⟨xs,ds⟩:=h.cls;obtain⟨e8,dt⟩:=h.dues;have dk:=h.ask;have M:=Yh h.xok;obtain⟨la,lc,aa,ac,na,nc,da,dc,f0a,f0l,f0c,f1a,f1l,f1c,f2a,f2l,f2c,f3a,f3l,f3c,f4⟩:=s;simp only[SC.val]at*;obtain⟨ak,af⟩:=Ex ((w.alloc (.cells #[slice la cs.length lc,slice aa a.1.length ac,slice na a.2.length nc,slice da way.length dc,int i64 0,int i64 b,slice f0a f0l f0c,slice f1a f1l f1c,slice f2a f2l f2c,slice f3a f3l f3c,int i64 f4] 154)).alloc (.cells #[Nl,Nl,Nl,Nl,int i64 0,int i64 0,Nl,Nl,Nl,Nl,int i64 0] 154));have ck:Ao w ak:=by rw[af];exact Mxt
 have fi:ak.heap.size=w.heap.size+2:=by rw[af];simp
 have dl:ak.heap[w.heap.size]?=some (.cells #[slice la cs.length lc,slice aa a.1.length ac,slice na a.2.length nc,slice da way.length dc,int i64 0,int i64 b,slice f0a f0l f0c,slice f1a f1l f1c,slice f2a f2l f2c,slice f3a f3l f3c,int i64 f4] 154 (0,0)):=by rw[af];exact heap_alloc2_old w _ _
 have dm:ak.heap[w.heap.size+1]?=some (.cells #[Nl,Nl,Nl,Nl,int i64 0,int i64 0,Nl,Nl,Nl,Nl,int i64 0] 154 (0,0)):=by rw[af];exact heap_alloc2_new w _ _
 have dh:=Yh (Km ak X la cs.length lc aa a.1.length ac na a.2.length nc (slice da way.length dc) 0 b f0a f0l f0c f1a f1l f1c f2a f2l f2c f3a f3l f3c f4 way e8 (dt.ext (Y:=X) (B':=0) ck (fun _ _ h=>h) (Qe _)) ev l Yo);have L:=Yh ds;have ai:=Yh dk;have bs:=Yh ck;have bo:=Yh dl;have cy:=Yh dm;have c4:=Yh af;have dg:=Yh cv;have c6:=Yh cq;have c8:=Yh dy;have c7:=Yh dx;clear h ds dt dk ck dl dm af cv cq dy dx l;go_enter func113,ntmps113;go_wp2_with fail;rw[<-c4.o];apply dh.o.mono;rintro e w1 ⟨fb,cx,rfl,am,a0⟩;rw[dg.o,Qw]at a0;have t:=a0.owns;rw[Qg,Qv,Qn]at t;obtain⟨e9,eo,fa,rfl,ep,er,es⟩:=An t Yo;obtain⟨fp,fq,fr,fs,ft,ec,ed,ee,ef,eg,eh,ct⟩:=a0.all r.length (n,k) (by rw[Qd Ys];simp);obtain⟨b6,b7,b8,ca,b9,cb,cd,cc,ce,cg,cf,ch,rfl,rfl,rfl,rfl,rfl⟩:=ct.len;have e2:=Af t _ _ ec;have e3:=Af t _ _ ed;have e4:=Af t _ _ ee;have e5:=Af t _ _ ef;have e6:=Af t _ _ eg;have e7:=Af t _ _ eh;have d1:=a0.pop Qv;have fj:=am.size;obtain⟨y,b1,b2,A,B,C,D,E,F,G,z,H⟩:=Dq ((am.block _ Yo).trans bo.o);obtain⟨al,av⟩:=Ex (w1.alloc (.cells #[slice b6 n.goals.length b7,slice b8 ca b9,slice cb cd cc,slice ce cg cf,int i64 ch,int i64 k] 250));have cl:Ao w1 al:=by rw[av];exact Mxt
 have fk:al.heap.size=w1.heap.size+1:=by rw[av];simp
 have dn:al.heap[w1.heap.size]?=some (.cells #[slice b6 n.goals.length b7,slice b8 ca b9,slice cb cd cc,slice ce cg cf,int i64 ch,int i64 k] 250 (0,0)):=by rw[av];exact QL w1 _
 have bl:=d1.ext (Y:=X) (B':=0) cl (fun _ _ h=>h) (Qe _);have bz:=Yh (Gq bl.owns bl.one);rw[Qv]at bz;have bv:=Yh (bs.o.trans (am.mono bs.o.size));have bt:=Yh am;have cz:=Yh cl;have bp:=Yh dn;have c5:=Yh av;have dd:=Yh bl;have b0:=Yh ct;have bm:w.heap.size<w1.heap.size:=Yo
 have cw:w.heap.size+1<w1.heap.size:=Yo
 have fg:((r.length:Int)+1)-1=(r.length:Int):=Yo
 have fc:r.length<=eo:=Yo
 clear a0 t er es ec ed ee ef eg eh ct d1 bl am cl dn av dh ep
 go_wp2_with (at_builtin;rw[<-c5.o];refine BU _ rfl (.tmp 16) (.tmp 21) 149 rfl (w1.heap.size+1) 250 infoDue underlying149 rfl Yd _ 0 [] rfl (Q2 _ _ _ _) _ r.length (cx.take (r.length*6)) rfl bz.o ?_ ?_ ?_)
 ·omega
 ·omega
 intro f0 bn ag
 try simp only[JJ,Qz]at ag
 obtain⟨dj,di,rfl⟩:=Ab ag.owns;have d2:D5 X bn (w1.heap.size+1) (slice dj r.length di) r.reverse (cx.take (r.length*6)):=dd.o.on0 (by rw[Qv];exact ag);have ap:Ao al bn:=ag.kept.below (Qe _) (fun k e=>by simp[Ak,Value.ownBlock]at e);have fl:=ap.size;have cn:Ao w1 bn:=cz.o.trans (ap.mono Yo);have aj:=Yh ((bt.o.block _ Yo).trans bo.o);have bd:=Yh ((bt.o.block _ Yo).trans cy.o);obtain⟨q0,d6,d7,d8,d9,ea,eb⟩:=Iw ((ap.block _ Yo).trans bp.o);have de:=Yh d2;have c1:=Yh ap;have c0:=Yh cn;have b3:=Yh ag.owns;have db:=Yh (b0.o.ext (Y:=X) cn (fun _ _ h=>h))
 clear d2 ap cn ag e2 e3 e4 e5 e6 e7 y b1 b2 A B C D E F G z H dd bz
 go_wp2_with (at_builtin;refine Al _ rfl (.tmp 23) (.tmp 30) 149 rfl (w1.heap.size+1) 250 infoDue underlying149 rfl Yd (slice dj r.length di) r.length (cx.take (r.length*6)) rfl b3.o #[slice b6 n.goals.length b7,slice b8 ca b9,slice cb cd cc,slice ce cg cf,int i64 ch,int i64 ((k:Int)+1)] rfl Ys rfl TV ?_ ?_ ?_)
 ·omega
 ·omega
 intro f1 m bj;obtain⟨g,f,rfl⟩:=Ab bj.owns;have d3:D5 X m (w1.heap.size+1) (slice g (r.length+1) f) (r.reverse++[(n,k+1)]) _:=de.o.step (n:=n) (k:=k+1) db.o (by rw[Qv,show((k+1:Nat):Int)=(k:Int)+1 by omega];exact bj);have bh:Below (w1.heap.size+1) bn m:=bj.kept.below Yo (fun k e=>(b3.o.lt k e).1);have fm:=bh.size;have an:Ao w1 m:=c0.o.trans (bh.mono Yo);have du:Ao al m:=c1.o.trans (bh.mono Yo);have au:Ao w m:=bv.o.trans (an.mono bv.o.size);obtain⟨q0,d6,d7,d8,d9,ea,eb⟩:=Iw ((du.block _ Yo).trans bp.o);obtain⟨y,b1,b2,A,B,C,D,E,F,G,z,H⟩:=Dq ((an.block _ bm).trans aj.o);have fe:w1.heap.size<m.heap.size:=Yo
 have ff:w.heap.size<m.heap.size:=Yo
 have c3:=Yh (I1 m X _ cs xs _ _ _ _ _ n k c ((L.o.ext (Y:=fun _=>False) au (fun _ _ h=>h)).toX (M.o.ext au)) c7.o eq (b0.o.ext (Y:=X) an (fun _ _ h=>h)) (fun _ h=>(M.o.ext au).lt h) c6.o c8.o);have b4:=Yh d3;have bu:=Yh an;have bw:=Yh au;clear d3 bh an du au bj de c1 c0 b3 db cz;go_wp2_with fail;apply c3.o.mono;rintro e w4 ⟨fz,rfl,aq,fu,fv,fw,fx,fy,q,rfl,eu,az,cr⟩;obtain⟨O,Q,P,R,T,S,U,W,V,Z,ad,ab,ae,d0⟩:=eu;simp only[Value.agg.injEq,Array.mk.injEq,QI,and_true]at d0;obtain⟨rfl,rfl,rfl,rfl,rfl⟩:=d0;have et:=aq.size;obtain⟨u,aw⟩:=Ex (w4.alloc (.cells #[slice O Q P,slice R T S,slice U W V,slice Z ad ab,int i64 ae] 152));have cp:Ao w4 u:=by rw[aw];exact Mxt
 have cu:u.heap.size=w4.heap.size+1:=by rw[aw];simp
 have dp:u.heap[w4.heap.size]?=some (.cells #[slice O Q P,slice R T S,slice U W V,slice Z ad ab,int i64 ae] 152 (0,0)):=by rw[aw];exact QL w4 _
 have bi:Ao m u:=aq.trans (cp.mono et);have cm:Ao w1 u:=bu.o.trans (bi.mono Yo);have dv:Ao w u:=bw.o.trans (bi.mono Yo);have d4:=b4.o.ext (Y:=X) (B':=(w1.heap.size+1)) bi (fun _ _ h=>h) (Qe _);have dr:=(cm.block _ bm).trans aj.o;have dq:=(cm.block _ cw).trans bd.o;have ao:Ao w1 w4:=bu.o.trans (aq.mono Yo);have co:Ao m w4:=aq;have d:=Yh (bw.o.trans (co.mono Yo));have br:=Yh ((ao.block _ bm).trans aj.o);have bq:=Yh ((ao.block _ cw).trans bd.o);have b5:=Yh (b4.o.ext (Y:=X) (B':=w1.heap.size+1) co (fun _ _ h=>h) (Qe _));have en:=Yh cr;obtain⟨y,b1,b2,A,B,C,D,E,F,G,z,H⟩:=Dq ((ao.block _ bm).trans aj.o);obtain⟨a1,a2,a4,a5,a6,a7,a8,a9,ba,bb,a3,bc⟩:=Dq ((ao.block _ cw).trans bd.o);obtain⟨ew,ex,ey,ez,e0,e1⟩:=C0 dp;have N:=Yh d4;have c2:=Yh dv;have ek:=Yh dr;have ei:=Yh dq;have em:=Yh aw;have c9:=Yh (fun az=>(cr az).ext (Y:=X) cp (fun _ _ h=>h));have p:=Yh az;have ax:w.heap.size<w4.heap.size:=Yo
 have ay:w.heap.size+1<w4.heap.size:=Yo
 have dz:=Gd n c k;rw[<-az]at dz;clear ao co aq cp bi cm dv d4 dr dq dp aw cr az b4 bu bw c3 q0 d6 d7 d8 d9 ea eb;rcases dz with rfl|rfl|rfl|rfl
 ·have j:Ci n c k r=(n,k+1)::r:=by unfold Ci;rw[<-p.o];rfl
  have i:Ch n c k=0:=by unfold Ch;rw[<-p.o];rfl
  have I:YH (∀w',Ad (fun k=>w.heap.size<=k/\k<=w.heap.size+1) w4 w'->F2 X w cs a n c k r b (returned (agg #[slice la cs.length lc,slice aa a.1.length ac,slice na a.2.length nc,slice g (r.length+1) f,int i64 0,int i64 ((b:Int)+1),slice f0a f0l f0c,slice f1a f1l f1c,slice f2a f2l f2c,slice f3a f3l f3c,int i64 f4])) w'):=fun w' l=>by
   unfold F2;rw[j,i];obtain⟨J,K⟩:=GX.fin (s:=⟨la,lc,aa,ac,na,nc,g,f,f0a,f0l,f0c,f1a,f1l,f1c,f2a,f2l,f2c,f3a,f3l,f3c,f4⟩) (way:=(n,k+1)::r) (st:=0) (found:=(Ax n c k).1) (cs:=cs) (a:=a) d.o br.o bq.o ⟨⟨xs,L.o.ext (Y:=fun _=>False) d.o (fun _ _ h=>h)⟩,ai.o.ext d.o,⟨_,by simpa[Qw]using b5.o.base⟩,fun h=>by simp at h,M.o.ext d.o⟩ l;refine⟨_,?_,J,K⟩;rw[show((b+1:Nat):Int)=(b:Int)+1 by omega];rfl
  clear j i N;clear p c9 c2 b0 L ai c6 c8 c7 dg bt bs bo cy bp c4 c5 bv aj bd cu;go_wp2;refine Jb (v:=agg #[slice la cs.length lc,slice aa a.1.length ac,slice na a.2.length nc,slice g (r.length+1) f,int i64 0,int i64 ((b:Int)+1),slice f0a f0l f0c,slice f1a f1l f1c,slice f2a f2l f2c,slice f3a f3l f3c,int i64 f4]) (by simp[results,results113,go_sem,a1,a2,a4,a5,a6,a7,a8,a9,ba,bb,a3,bc,y,b1,b2,A,B,C,D,E,F,G,z,H,ax,ay]) rfl ?_;exact I.o _ Mst
 ·have bx:=Yh N.o.owns;simp only[Qg,Qv,Qn]at bx
  go_wp2_with (at_builtin;rw[<-em.o];refine Al u rfl (.tmp 45) (.tmp 48) 149 rfl (w1.heap.size+1) 250 infoDue underlying149 rfl Yd (slice g (r.length+1) f) (r.length+1) _ rfl bx.o #[slice O Q P,slice R T S,slice U W V,slice Z ad ab,int i64 ae,int i64 0] rfl Yo rfl TV ?_ ?_ ?_)
  ·omega
  ·omega
  intro f2 ah bk;obtain⟨bg,bf,rfl⟩:=Ab bk.owns;have d5:D5 X ah (w1.heap.size+1) (slice bg (r.length+1+1) bf) (r.reverse++[(n,k+1)]++[((Ax n c k).1,0)]) _:=N.o.step (n:=(Ax n c k).1) (k:=0) (c9.o Ys) (by simpa using bk);have ar:Below (w1.heap.size+1) u ah:=bk.kept.below Yo (fun k e=>(bx.o.lt k e).1);have fn:=ar.size;have dw:Ao w ah:=c2.o.trans (ar.mono Yo);have cj:=(ar.block _ Yo).trans ek.o;have ci:=(ar.block _ Yo).trans ei.o;obtain⟨y,b1,b2,A,B,C,D,E,F,G,z,H⟩:=Dq cj;obtain⟨a1,a2,a4,a5,a6,a7,a8,a9,ba,bb,a3,bc⟩:=Dq ci;have ax:w.heap.size<ah.heap.size:=Yo
  have ay:w.heap.size+1<ah.heap.size:=Yo
  have be:=Yh dw;have df:=Yh d5;have el:=Yh cj;have ej:=Yh ci;clear d5 ar dw cj ci bk ew ex ey ez e0 e1;have j:Ci n c k r=((Ax n c k).1,0)::(n,k+1)::r:=by unfold Ci;rw[<-p.o];rfl
  have i:Ch n c k=0:=by unfold Ch;rw[<-p.o];rfl
  have I:YH (∀w',Ad (fun k=>w.heap.size<=k/\k<=w.heap.size+1) ah w'->F2 X w cs a n c k r b (returned (agg #[slice la cs.length lc,slice aa a.1.length ac,slice na a.2.length nc,slice bg (r.length+1+1) bf,int i64 0,int i64 ((b:Int)+1),slice f0a f0l f0c,slice f1a f1l f1c,slice f2a f2l f2c,slice f3a f3l f3c,int i64 f4])) w'):=fun w' l=>by
   unfold F2;rw[j,i];obtain⟨J,K⟩:=GX.fin (s:=⟨la,lc,aa,ac,na,nc,bg,bf,f0a,f0l,f0c,f1a,f1l,f1c,f2a,f2l,f2c,f3a,f3l,f3c,f4⟩) (way:=((Ax n c k).1,0)::(n,k+1)::r) (st:=0) (found:=(Ax n c k).1) (cs:=cs) (a:=a) be.o el.o ej.o ⟨⟨xs,L.o.ext (Y:=fun _=>False) be.o (fun _ _ h=>h)⟩,ai.o.ext be.o,⟨_,by simpa[Qw]using df.o.base⟩,fun h=>by simp at h,M.o.ext be.o⟩ l;refine⟨_,?_,J,K⟩;rw[show((b+1:Nat):Int)=(b:Int)+1 by omega];rfl
  clear j i df N;go_wp2;refine Jb (v:=agg #[slice la cs.length lc,slice aa a.1.length ac,slice na a.2.length nc,slice bg (r.length+1+1) bf,int i64 0,int i64 ((b:Int)+1),slice f0a f0l f0c,slice f1a f1l f1c,slice f2a f2l f2c,slice f3a f3l f3c,int i64 f4]) (by simp[results,results113,go_sem,a1,a2,a4,a5,a6,a7,a8,a9,ba,bb,a3,bc,y,b1,b2,A,B,C,D,E,F,G,z,H,ax,ay]) rfl ?_;exact I.o _ Mst
 ·have j:Ci n c k r=(n,k+1)::r:=by unfold Ci;rw[<-p.o];rfl
  have i:Ch n c k=1:=by unfold Ch;rw[<-p.o];rfl
  have I:YH (∀w',Ad (fun k=>w.heap.size<=k/\k<=w.heap.size+1) w4 w'->F2 X w cs a n c k r b (returned (agg #[slice la cs.length lc,slice aa a.1.length ac,slice na a.2.length nc,slice g (r.length+1) f,int i64 1,int i64 ((b:Int)+1),slice O Q P,slice R T S,slice U W V,slice Z ad ab,int i64 ae])) w'):=fun w' l=>by
   unfold F2;rw[j,i];obtain⟨J,K⟩:=GX.fin (s:=⟨la,lc,aa,ac,na,nc,g,f,O,Q,P,R,T,S,U,W,V,Z,ad,ab,ae⟩) (way:=(n,k+1)::r) (st:=1) (found:=(Ax n c k).1) (cs:=cs) (a:=a) d.o br.o bq.o ⟨⟨xs,L.o.ext (Y:=fun _=>False) d.o (fun _ _ h=>h)⟩,ai.o.ext d.o,⟨_,by simpa[Qw]using b5.o.base⟩,fun _=>en.o Ys,M.o.ext d.o⟩ l;refine⟨_,?_,J,K⟩;rw[show((b+1:Nat):Int)=(b:Int)+1 by omega];rfl
  clear j i N cu;go_wp2;refine Jb (v:=agg #[slice la cs.length lc,slice aa a.1.length ac,slice na a.2.length nc,slice g (r.length+1) f,int i64 1,int i64 ((b:Int)+1),slice O Q P,slice R T S,slice U W V,slice Z ad ab,int i64 ae]) (by simp[results,results113,go_sem,a1,a2,a4,a5,a6,a7,a8,a9,ba,bb,a3,bc,y,b1,b2,A,B,C,D,E,F,G,z,H,ax,ay]) rfl ?_;exact I.o _ Mst
 ·have j:Ci n c k r=(n,k+1)::r:=by unfold Ci;rw[<-p.o];rfl
  have i:Ch n c k=3:=by unfold Ch;rw[<-p.o];rfl
  have I:YH (∀w',Ad (fun k=>w.heap.size<=k/\k<=w.heap.size+1) w4 w'->F2 X w cs a n c k r b (returned (agg #[slice la cs.length lc,slice aa a.1.length ac,slice na a.2.length nc,slice g (r.length+1) f,int i64 3,int i64 ((b:Int)+1),slice f0a f0l f0c,slice f1a f1l f1c,slice f2a f2l f2c,slice f3a f3l f3c,int i64 f4])) w'):=fun w' l=>by
   unfold F2;rw[j,i];obtain⟨J,K⟩:=GX.fin (s:=⟨la,lc,aa,ac,na,nc,g,f,f0a,f0l,f0c,f1a,f1l,f1c,f2a,f2l,f2c,f3a,f3l,f3c,f4⟩) (way:=(n,k+1)::r) (st:=3) (found:=(Ax n c k).1) (cs:=cs) (a:=a) d.o br.o bq.o ⟨⟨xs,L.o.ext (Y:=fun _=>False) d.o (fun _ _ h=>h)⟩,ai.o.ext d.o,⟨_,by simpa[Qw]using b5.o.base⟩,fun h=>by simp at h,M.o.ext d.o⟩ l;refine⟨_,?_,J,K⟩;rw[show((b+1:Nat):Int)=(b:Int)+1 by omega];rfl
  clear j i N cu;go_wp2;refine Jb (v:=agg #[slice la cs.length lc,slice aa a.1.length ac,slice na a.2.length nc,slice g (r.length+1) f,int i64 3,int i64 ((b:Int)+1),slice f0a f0l f0c,slice f1a f1l f1c,slice f2a f2l f2c,slice f3a f3l f3c,int i64 f4]) (by simp[results,results113,go_sem,a1,a2,a4,a5,a6,a7,a8,a9,ba,bb,a3,bc,y,b1,b2,A,B,C,D,E,F,G,z,H,ax,ay]) rfl ?_;exact I.o _ Mst
theorem GB{n:ND}(h:(Ax n c k).2=1\/(Ax n c k).2=2):(Ax n c k).2=2↔(Ax n c k).1.goals=[]:=by
 by_cases a:∃r:ND×Nat,∃m,FM m/\Cl m n/\Kv m c k r.2 r.1
 ·have e:Ax n c k=Classical.choose a:=by unfold Ax;rw[dif_pos a]
  obtain⟨m,_,j,g,gs,_,d⟩:=Classical.choose_spec a;rw[e]at h⊢;rcases d with⟨h0,_⟩|⟨h0,_⟩|⟨σ,_,_,f,i⟩
  ·omega
  ·omega
  ·rw[f,<-i]at h;rw[f,<-i];unfold Ct at h⊢;split at h
   ·omega
   ·rename_i d;rw[QP d];split
    ·rename_i b;simp[b]
    ·rename_i b;simp[b]
 ·have e:Ax n c k=(⟨[],[],[],[],0⟩,0):=by unfold Ax;rw[dif_neg a]
  rw[e]at h;simp at h
def En(way:Ln):List Nat:=(way.map (fun x=>x.2-1)).reverse
theorem L6(n:ND)(k:Nat)(r:Ln):En ((n,k+1)::r)=En r++[k]:=by simp[En]
def Ls:Ln->Prop
 |[]=>True
 |x::r=>x.1.used=En r/\(∀y∈r,1<=y.2)/\Ls r
theorem Ls.trim{N:Nat}:∀{way:Ln},Ls way->Ls (Cw N way):=by
 intro way
 induction way with
 |nil=>intro h;exact h
 |cons x r a=>
  intro h;simp only[Cw];split
  ·exact a h.2.2
  ·exact h
theorem M3{N:Nat}:∀{way:Ln}{x:ND×Nat},x∈Cw N way->x∈way:=by
 intro way
 induction way with
 |nil=>intro x h;exact h
 |cons y r a=>
  intro x h;simp only[Cw]at h;split at h
  ·exact QD _ (a h)
  ·exact h
theorem LV(cs:Lc):∀(way:Ln)(t:Lu),(DN cs way t).2.length+(DN cs way t).1.length=t.length+way.length:=by
 intro way
 induction way with
 |nil=>intro t;rfl
 |cons x r a=>
  obtain⟨n,k⟩:=x;intro t;simp only[DN];split
  ·rw[a];simp;omega
  ·rfl
structure DD(cs:List Db)(a:List (List BJ)×At)(s:SN):Prop where
 way:∀x∈s.way,x.1.goals≠[]/\x.1.vals.length=a.2.length/\x.2<=cs.length/\∀k∈x.1.used,k<cs.length
 used:Ls s.way
 tree:s.status≠3->PW cs (AN a) s.way s.tree
 trim:Cw cs.length s.way=s.way
 found:s.status=1->s.found.goals=[]/\s.found.vals.length=a.2.length/\∀k∈s.found.used,k<cs.length
 len:s.tree.length+s.way.length<=2+26*s.tries
 tries:s.tries<=3000
 no:s.status=2->s.way=[]
 st:s.status<=3
theorem ES{s:SN}{n:ND}(j:s.way=(n,k)::r)(i:cs[k]?=some c)(h0:s.status=0):
  (AQ cs s).way=Cw cs.length (Ci n c k r)/\(AQ cs s).status=Ch n c k/\(AQ cs s).tries=s.tries+1/\(Ch n c k=1->(AQ cs s).found=(Ax n c k).1):=by
 have l:=Gd n c k;unfold AQ;rw[j];simp only[i]
 by_cases d:(Ax n c k).2=3
 ·rw[QQ d];simp[CE,Dc,Ci,Ch,d]
 ·rw[QP d]
  by_cases a:(Ax n c k).2=1\/(Ax n c k).2=2
  ·rw[QQ a]
   by_cases b:(Ax n c k).1.goals=[]
   ·have e:=(GB a).2 b;simp[CE,B3,b,Dc,Ci,Ch,e]
   ·have e:(Ax n c k).2≠2:=fun h=>b ((GB a).1 h);have g:(Ax n c k).2=1:=Yo
    simp[CE,B3,b,Dc,Ci,Ch,g,h0]
  ·rw[QP a];have f:(Ax n c k).2=0:=Yo
   simp[CE,Dc,Ci,Ch,f,h0]
theorem OP{s:SN}{n:ND}(b:s.way=(n,k)::r)(a:cs[k]?=some c)(d:k<24):(AQ cs s).tree.length+(AQ cs s).way.length<=s.tree.length+s.way.length+26:=by
 have hd:(Lib.decDigits k).length<=24:=by
  have:=D8 k;omega
 unfold AQ;rw[b];simp only[a,CE,LV];split
 ·simp
 ·split
  ·unfold B3;split
   ·simp;omega
   ·simp;omega
  ·simp
theorem DD.try'{s:SN}(h:DD cs a s)(C:cs.length<=24)(h0:s.status=0){n:ND}{k:Nat}{r:Ln}{c:Db}(i:s.way=(n,k)::r)(q:cs[k]?=some c)(E:s.tries<3000):DD cs a (AQ cs s):=by
 obtain⟨o,p,B,w⟩:=ES i q h0;have D:=(Qa.1 q).1;obtain⟨w1,w2,w3,w4⟩:=h.way (n,k) (by rw[i];simp);have e:=h.used;rw[i]at e;have v:∀x∈r,x.1.goals≠[]/\x.1.vals.length=a.2.length/\x.2<=cs.length/\∀k∈x.1.used,k<cs.length:=fun x b=>h.way x (by rw[i];simp[b]);have l:(Ax n c k).2=1\/(Ax n c k).2=2->(Ax n c k).1.vals.length=a.2.length/\∀j∈(Ax n c k).1.used,j<cs.length:=fun u=>by
  refine⟨by rw[F9 u];exact w2,fun j g=> ?_⟩;rw[Gf u]at g;rcases Qk.1 g with g|g
  ·exact w4 j g
  ·simp at g;omega
 refine⟨?_,?_,?_,?_,?_,?_,?_,?_,?_⟩
 ·intro x b;rw[o]at b;have b:=M3 b;unfold Ci at b;split at b
  ·rename_i d;rcases Qp.1 b with rfl|b
   ·have f:¬(Ax n c k).1.goals=[]:=fun A=>by have:=(GB (QG d)).2 A;omega
    exact⟨f,(l (QG d)).1,Qm _,(l (QG d)).2⟩
   ·rcases Qp.1 b with rfl|b
    ·exact⟨w1,w2,by show k+1<=_;omega,w4⟩
    ·exact v x b
  ·rcases Qp.1 b with rfl|b
   ·exact⟨w1,w2,by show k+1<=_;omega,w4⟩
   ·exact v x b
 ·rw[o];apply Ls.trim;unfold Ci;split
  ·rename_i d;exact⟨by rw[L6,Gf (QG d),e.1],fun y t=>by
    rcases Qp.1 t with rfl|t
    ·exact Nat.succ_le_succ (Qm _)
    ·exact e.2.1 y t,e.1,e.2⟩
  ·exact⟨e.1,e.2⟩
 ·intro z;exact PW.try' (h.tree Yo) z
 ·rw[o,LP]
 ·intro d;rw[p]at d;rw[w d];have m:(Ax n c k).2=2:=by
   unfold Ch at d;split at d
   ·assumption
   ·split at d<;>omega
  exact⟨(GB (QO m)).1 m,(l (QO m)).1,(l (QO m)).2⟩
 ·have:=OP i q Yo;have:=h.len;omega
 ·omega
 ·intro f;rw[p]at f;unfold Ch at f;split at f
  ·omega
  ·split at f<;>omega
 ·rw[p];unfold Ch;split
  ·omega
  ·split<;>omega
noncomputable def CN(cs:Lc):Nat->SN->SN×Nat
 |0,s=>(s,0)
 |n+1,s=>open Classical in if s.status=0/\s.way≠[]/\s.tries<3000 then((CN cs n (AQ cs s)).1,(CN cs n (AQ cs s)).2+1)else(s,0)
def FE(s:SN):SN:={s with way:=[],tree:=[],status:=3}
noncomputable def Dt(s:SN):SN:=open Classical in if s.status=3 then FE s else if s.status=0 then(if s.way=[]then{s with status:=2}else if 3000<=s.tries then FE s else s)else s
noncomputable def Ff(cs:Lc)(n:Nat)(s:SN):SN×Nat:=if s.status=2\/s.status=3 then(s,0)else(Dt (CN cs n {s with status:=0}).1,(CN cs n {s with status:=0}).2)
theorem DD.full{s:SN}(h:DD cs a s):DD cs a (FE s):=
 ⟨fun x d=>by simp[FE]at d,trivial,fun c=>absurd rfl c,rfl,fun b=>by simp[FE]at b,by simp[FE],h.tries,fun _=>rfl,by simp[FE]⟩
theorem DD.end'{s:SN}(h:DD cs a s):DD cs a (Dt s):=by
 unfold Dt;split
 ·exact h.full
 ·split
  ·rename_i d h0;split
   ·rename_i c;exact⟨h.way,h.used,fun _=>h.tree Yo,h.trim,fun b=>by simp at b,h.len,h.tries,fun _=>c,Ys⟩
   ·split
    ·exact h.full
    ·exact h
  ·exact h
theorem DD.seek{s:SN}(h:DD cs a s)(d:s.status≠3):DD cs a {s with status:=0}:=
 ⟨h.way,h.used,fun _=>h.tree d,h.trim,fun b=>by simp at b,h.len,h.tries,fun c=>by simp at c,Ys⟩
theorem DD.head{s:SN}(h:DD cs a s)(f:s.way≠[]):∃n k r c,s.way=(n,k)::r/\cs[k]?=some c/\n.goals≠[]:=by
 cases e:s.way with
 |nil=>exact absurd e f
 |cons x r=>
  obtain⟨n,k⟩:=x;have b:=h.trim;rw[e]at b;have d:=K7 b;exact⟨n,k,r,_,rfl,Qb d,(h.way (n,k) (by rw[e];simp)).1⟩
theorem DD.loop(f:cs.length<=24):∀{n:Nat}{s:SN},DD cs a s->DD cs a (CN cs n s).1:=by
 intro n
 induction n with
 |zero=>intro s h;exact h
 |succ n g=>
  intro s h;unfold CN;split
  ·rename_i b;obtain⟨j,k,r,c,d,e,i⟩:=h.head b.2.1;exact g (h.try' f b.1 d e b.2.2)
  ·exact h
theorem DD.step(b:cs.length<=24){n:Nat}{s:SN}(h:DD cs a s):DD cs a (Ff cs n s).1:=by
 unfold Ff;split
 ·exact h
 ·rename_i c;exact((h.seek Yo).loop b).end'
noncomputable def KQ(cs:Lc)(a:Ll×At):SN:=CE cs (B3 ⟨[],0,0,⟨[],[],[],[],0⟩,[]⟩ (AN a))
theorem GM(h:a.1≠[]):(AN a).goals≠[]:=by simpa[AN]using h
theorem DD.new(cs:Lc){a:Ll×At}(ha:a.1≠[]):DD cs a (KQ cs a):=by
 have c:=GM ha;have e:PW cs (AN a) [(AN a,0)] [40]:=⟨rfl,c,Qm _,[],.zero _,Ys⟩;unfold KQ B3;rw[QP c];refine⟨?_,?_,?_,?_,?_,?_,?_,?_,?_⟩
 ·intro x b;simp only[CE,Dc]at b;have b:=M3 b;simp at b;subst b;exact⟨c,by simp[AN],Qm _,fun k d=>by simp[AN]at d⟩
 ·simp only[CE,Dc];exact Ls.trim ⟨rfl,fun y f=>by simp at f,trivial⟩
 ·intro _;exact e.leave
 ·simp only[CE,Dc];exact LP _ _
 ·intro h;simp[CE]at h
 ·simp only[CE,LV];simp
 ·simp[CE]
 ·intro h;simp[CE]at h
 ·simp[CE]
def BP(i:Bool)(t:TypeId):Prop:=t=133\/t=105\/t=107\/t=9\/(i=true/\t=3)
def MJ(i:Bool)(S:Np)(w:World):Prop:=∀k,S k->∃cl t fr,w.heap[k]?=some (.cells cl t fr)/\¬BP i t
abbrev DB:=MJ true
theorem MJ.own{i:Bool}{n:Nat}(d:MJ i S w)(f:BP i e)(l:Ad S w w')(h:w.ownsRow B e size v n xs):w'.ownsRow B e size v n xs:=
 Aj h (fun k a=>l.block k (h.lt k a).2 (fun m=>by
  obtain⟨cl,t,fr,b,c⟩:=d k m;rcases h.2 with⟨rfl,_⟩|⟨g,o,p,rfl,_,j,_⟩
  ·simp[Ak,Value.ownBlock]at a
  ·simp[Ak,Value.ownBlock]at a;subst a;rw[j]at b;simp at b;exact c (b.2.1▸f)))
theorem MJ.terms{i:Bool}(a:MJ i S w)(b:Ad S w w')(h:AF w v ls):AF w' v ls:=by
 obtain⟨vs,h⟩:=h;exact⟨vs,a.own (by simp[BP]) b h.owns,fun i l hl=>by
  obtain⟨x,c,d⟩:=h.all i l hl;exact⟨x,c,a.own (by simp[BP]) b d⟩⟩
theorem MJ.prog{i:Bool}{xs:List (Lv)}(a:MJ i S w)(b:Ad S w w')(h:Dy w v cs xs):Dy w' v cs xs:=
 ⟨a.own (by simp[BP]) b h.owns,h.len,h.three,fun i c g=>by
  obtain⟨j,e,k,f,d⟩:=h.all i c g;exact⟨j,e,k,f,a.own (by simp[BP]) b d.head,a.terms b d.body,a.own (by simp[BP]) b d.names⟩⟩
def CV(w:World)(gv vv rv uv:Value)(n0:ND):Prop:=∃n,F1 w gv vv rv n/\uv= .int .i64 n.vars/\FM n/\NG n/\Mt n/\Cl n n0
theorem CV.ext{b c:Value}{a:ND}(h:CV w gv vv b c a)(e:Ao w w'):CV w' gv vv b c a:=by
 obtain⟨n,d,f⟩:=h;exact⟨n,d.ext e,f⟩
theorem CV.keep{i:Bool}{e f:Value}{d:ND}(h:CV w gv vv e f d)(c:Ad S w w')(b:MJ i S w):CV w' gv vv e f d:=by
 obtain⟨n,a,g⟩:=h;exact⟨n,⟨b.terms c a.goals,b.terms c a.vals,b.terms c a.done⟩,g⟩
theorem CV.shape{f g:Value}{e:ND}(h:CV w gv vv f g e):∃a i va vl vc c o l,∃u:Nat,gv=slice a e.goals.length i/\vv=slice va vl vc/\f=slice c o l/\g=int i64 u/\u<=101000:=by
 obtain⟨n,b,rfl,d,_,_,k⟩:=h;obtain⟨a,j,rfl⟩:=b.goals.shape;obtain⟨va,p,rfl⟩:=b.vals.shape;obtain⟨c,m,rfl⟩:=b.done.shape;exact⟨a,j,va,_,p,c,_,m,n.vars,by rw[Ql,k.gl],rfl,rfl,rfl,by have:=d.vars;have:=d.ul;omega⟩
structure E8(w:World)(v:Value)(ds:List (ND×Nat))(xs:List Value):Prop where
 owns:w.ownsRow 0 135 5 v ds.length xs
 all:∀(i:Nat)(d:ND×Nat),ds[i]?=some d->∃x0 x1 x2 x3,xs[i*5]?=some x0/\xs[i*5+1]?=some x1/\xs[i*5+2]?=some x2/\xs[i*5+3]?=some x3/\xs[i*5+4]?=some (.int .i64 d.2)/\CV w x0 x1 x2 x3 d.1
theorem E8.nil(w:World):E8 w Nl [] []:=⟨Q2 _ _ _ _,fun i d h=>by simp at h⟩
theorem E8.ext(h:E8 w v ds xs)(e:Ao w w'):E8 w' v ds xs:=
 ⟨Aj h.owns (fun k a=>e.block k (h.owns.lt k a).2),fun i d hd=>by
  obtain⟨b,c,f,j,l,m,n,o,p,g⟩:=h.all i d hd;exact⟨b,c,f,j,l,m,n,o,p,g.ext e⟩⟩
theorem E8.keep{i:Bool}(h:E8 w v ds xs)(b:Ad S w w')(c:MJ i S w)(e:∀k,v.ownBlock=some k->¬S k):E8 w' v ds xs:=
 ⟨Aj h.owns (fun k a=>b.block k (h.owns.lt k a).2 (e k a)),fun i d hd=>by
  obtain⟨f,j,l,m,n,o,p,q,r,g⟩:=h.all i d hd;exact⟨f,j,l,m,n,o,p,q,r,g.keep b c⟩⟩
theorem E8.pop{g n:Nat}{d:ND×Nat}(h:E8 w (slice (some ⟨g,0,none⟩) (n+1) cap) (ds++[d]) xs)(hn:ds.length=n):E8 w (slice (some ⟨g,0,none⟩) n cap) ds (xs.take (n*5)):=by
 have a:=h.owns;rw[Qg,Qn,hn]at a;refine⟨by rw[hn];exact J2 a,fun i x b=> ?_⟩;have hi:=(Qa.1 b).1;obtain⟨c,e,f,j,k,l,m,o,p,g⟩:=h.all i x (by rw[Qc hi];exact b);exact⟨c,e,f,j,by rw[JA Yo];exact k,by rw[JA Yo];exact l,by rw[JA Yo];exact m,by rw[JA Yo];exact o,by rw[JA Yo];exact p,g⟩
theorem Hr{n:Nat}(h:w.ownsRow B 135 size v n xs):DB (Ak v) w:=fun j a=>by
 rcases h.2 with⟨rfl,_⟩|⟨g,c,d,rfl,_,b,_⟩
 ·simp[Ak,Value.ownBlock]at a
 ·simp[Ak,Value.ownBlock]at a;subst a;exact⟨_,_,_,b,by simp[BP]⟩
theorem E8.step{cv':Value}{a b c f:Value}{n:ND}(h:E8 w cv ds xs)(hn:CV w a b c f n)(ha:Ar w 0 135 5 cv (ds.length+1) (xs++[a,b,c,f,int i64 k]) cv' w'):
  E8 w' cv' (ds++[(n,k)]) (xs++[a,b,c,f,int i64 k]):=by
 have j:=Hr h.owns;have l:=h.owns.1;refine⟨by simpa using ha.owns,fun i d hd=> ?_⟩;rcases QB i ds.length with hi|hi
 ·rw[Qc hi]at hd;obtain⟨m,o,p,q,r,s,t,u,v,g⟩:=h.all i d hd;exact⟨m,o,p,q,by rw[Qc Yo];exact r,by rw[Qc Yo];exact s,by rw[Qc Yo];exact t,by rw[Qc Yo];exact u,by rw[Qc Yo];exact v,g.keep ha.kept j⟩
 ·have e:i=ds.length:=by
   have:=(Qa.1 hd).1;simp at this;omega
  subst e;rw[Qd (Qe _)]at hd;simp at hd;subst hd;exact⟨a,b,c,f,by rw[Qd Yo];simp[l],by rw[Qd Yo,show ds.length*5+1-xs.length=1 by omega];rfl,by rw[Qd Yo,show ds.length*5+2-xs.length=2 by omega];rfl,by rw[Qd Yo,show ds.length*5+3-xs.length=3 by omega];rfl,by rw[Qd Yo,show ds.length*5+4-xs.length=4 by omega];rfl,hn.keep ha.kept j⟩
structure CX where
 ca:Option Addr
 cc:Nat
 na:Option Addr
 nc:Nat
 wa:Option Addr
 wc:Nat
 va:Option Addr
 vl:Nat
 vc:Nat
 fa:Option Addr
 fl:Nat
 fc:Nat
def CX.cells(x:CX)(cl nl wl tr st:Nat)(T:Lu):Av:=#[.slice x.ca cl x.cc,.slice x.na nl x.nc,.slice x.wa wl x.wc,.int .i64 tr,.int .i64 st,.slice x.va x.vl x.vc,.slice x.fa x.fl x.fc,.string ⟨T.toArray⟩]
structure Dj(w:World)(b:Nat)(x:CX)(cs:List Db)(a:List (List BJ)×At)(m:SN):Prop where
 box:w.heap[b]?=some (.cells (x.cells cs.length a.2.length m.way.length m.tries m.status m.tree) 112 (0,0))
 prog:∃xs,Dy w (.slice x.ca cs.length x.cc) cs xs
 names:w.ownsRow 0 9 1 (.slice x.na a.2.length x.nc) a.2.length (Ba a.2)
 way:∃ys,E8 w (.slice x.wa m.way.length x.wc) m.way.reverse ys
 found:m.status=1->(∃n,AF w (.slice x.va x.vl x.vc) n.vals/\FM n/\NG n/\Cl n m.found)/\w.ownsRow 0 3 1 (.slice x.fa x.fl x.fc) m.found.used.length (AM m.found.used)
theorem Dj.ext{x:CX}(h:Dj w b x cs a m)(e:Ao w w'):Dj w' b x cs a m:=by
 obtain⟨xs,i⟩:=h.prog;obtain⟨o,j⟩:=h.way;refine⟨(e.block _ (Ac h.box)).trans h.box,⟨xs,i.ext e⟩,Aj h.names (fun k c=>e.block k (h.names.lt k c).2),⟨o,j.ext e⟩,fun l=> ?_⟩;obtain⟨⟨n,f,g⟩,d⟩:=h.found l;exact⟨⟨n,f.ext e,g⟩,Aj d (fun k c=>e.block k (d.lt k c).2)⟩
def CF(b:Nat)(x:CX):Nat->Prop:=fun k=>k=b\/(∃a,x.wa=some a/\a.block=k)
theorem Dj.keepI{x:CX}(h:Dj w b x cs a m)(f:Ad (fun k=>S k\/X k) w w')(s:DB S w)(C:∀k,X k->∃cl fr,w.heap[k]?=some (.cells cl 3 fr))(u:∀k,CF b x k->¬(S k\/X k))(D:m.status=1->∀k,(∃p,x.fa=some p/\p.block=k)->¬X k):Dj w' b x cs a m:=by
 have o:MJ false (fun k=>S k\/X k) w:=fun k d=>by
  rcases d with d|d
  ·obtain⟨cl,t,fr,i,l⟩:=s k d;exact⟨cl,t,fr,i,fun h=>l (by rcases h with h|h|h|h|⟨h,_⟩<;>simp_all [BP])⟩
  ·obtain⟨cl,fr,i⟩:=C k d;exact⟨cl,_,fr,i,by simp[BP]⟩
 obtain⟨xs,i⟩:=h.prog;obtain⟨F,l⟩:=h.way;refine⟨(f.block _ (Ac h.box) (u _ (QG rfl))).trans h.box,⟨xs,o.prog f i⟩,o.own (by simp[BP]) f h.names,⟨F,l.keep f o (fun k c=>u k (QO ?_))⟩,fun d=> ?_⟩
 ·rcases l.owns.2 with⟨e,_⟩|⟨g,v,y,e,_⟩
  ·rw[e]at c;simp[Value.ownBlock]at c
  ·rw[e]at c;simp[Value.ownBlock]at c;simp at e;exact⟨_,e.1,c⟩
 ·obtain⟨⟨n,A,B⟩,r⟩:=h.found d;refine⟨⟨n,o.terms f A,B⟩,Aj r (fun k c=>f.block k (r.lt k c).2 (fun j=>j.elim (fun j=> ?_) (D d k (by cases j:x.fa<;>simp[j,Value.ownBlock]at c⊢;exact c))))⟩;obtain⟨cl,t,fr,q,z⟩:=s k j;rcases r.2 with⟨e,_⟩|⟨g,v,y,e,_,E,_⟩
  ·rw[e]at c;simp[Value.ownBlock]at c
  ·rw[e]at c;simp[Value.ownBlock]at c;subst c;rw[E]at q;simp at q;exact z (q.2.1▸by simp[BP])
theorem Dj.keep{x:CX}(h:Dj w b x cs a m)(f:Ad S w w')(e:DB S w)(g:∀k,CF b x k->¬S k):Dj w' b x cs a m:=h.keepI (X:=fun _=>False) (f.mono (fun _ _ h=>QG h)) e (fun _ h=>h.elim) (fun k c d=>d.elim (g k c) (fun h=>h)) (fun _ _ _ h=>h)
theorem Dj.upd{x c:CX}{d:SN}(h:Dj w b x cs a m)(j:Ad (only b) w w')(A:w'.heap[b]?=some (.cells (c.cells cs.length a.2.length d.way.length d.tries d.status d.tree) 112 (0,0)))(E:c.ca=x.ca/\c.cc=x.cc/\c.na=x.na/\c.nc=x.nc)
  (D:∃l,E8 w (slice c.wa d.way.length c.wc) d.way.reverse l) (B:d.status=1->(∃n,AF w (slice c.va c.vl c.vc) n.vals/\FM n/\NG n/\Cl n d.found)/\w.ownsRow 0 3 1 (slice c.fa c.fl c.fc) d.found.used.length (AM d.found.used)):Dj w' b c cs a d:=by
 obtain⟨xs,z⟩:=h.prog;obtain⟨l,o⟩:=D;have f:DB (only b) w:=fun k e=>by
  have e:k=b:=e;subst e;exact⟨_,_,_,h.box,by simp[BP]⟩
 obtain⟨q,r,s,t⟩:=E;refine⟨A,⟨xs,by rw[q,r];exact f.prog j z⟩,by rw[s,t];exact f.own (by simp[BP]) j h.names,⟨l,o.keep j f (fun k i e=> ?_)⟩,fun C=> ?_⟩
 ·have e:k=b:=e;subst e;rcases o.owns.2 with⟨e,_⟩|⟨g,F,G,e,_,p,_⟩
  ·rw[e]at i;simp[Value.ownBlock]at i
  ·rw[e]at i;simp[Value.ownBlock]at i;subst i;rw[h.box]at p;simp at p
 ·obtain⟨⟨n,u,v⟩,y⟩:=B C;exact⟨⟨n,f.terms j u,v⟩,f.own (by simp[BP]) j y⟩
theorem Dj.off{x:CX}(h:Dj w b x cs a m):DB (only b) w:=fun k e=>by
 have e:k=b:=e;subst e;exact⟨_,_,_,h.box,by simp[BP]⟩
theorem Dj.upd'{x c:CX}{d:SN}(h:Dj w b x cs a m)(j:Ad (only b) w w')(v:w'.heap[b]?=some (.cells (c.cells cs.length a.2.length d.way.length d.tries d.status d.tree) 112 (0,0)))(A:c.ca=x.ca/\c.cc=x.cc/\c.na=x.na/\c.nc=x.nc)
  (z:∃l,E8 w (slice c.wa d.way.length c.wc) d.way.reverse l) (y:d.status=1->(∃n,AF w' (slice c.va c.vl c.vc) n.vals/\FM n/\NG n/\Cl n d.found)/\w'.ownsRow 0 3 1 (slice c.fa c.fl c.fc) d.found.used.length (AM d.found.used)):Dj w' b c cs a d:=by
 obtain⟨xs,u⟩:=h.prog;obtain⟨l,o⟩:=z;have i:=h.off;obtain⟨q,r,s,t⟩:=A;refine⟨v,⟨xs,by rw[q,r];exact i.prog j u⟩,by rw[s,t];exact i.own (by simp[BP]) j h.names,⟨l,o.keep j i (fun k f e=> ?_)⟩,y⟩;have e:k=b:=e;subst e;rcases o.owns.2 with⟨e,_⟩|⟨g,B,C,e,_,p,_⟩
 ·rw[e]at f;simp[Value.ownBlock]at f
 ·rw[e]at f;simp[Value.ownBlock]at f;subst f;rw[h.box]at p;simp at p
def El(w:World)(x x':CX):Prop:=(∀k,(∃p,x'.wa=some p/\p.block=k)->(∃p,x.wa=some p/\p.block=k)\/w.heap.size<=k)/\x'.ca=x.ca/\x'.cc=x.cc/\x'.na=x.na/\x'.nc=x.nc/\∀k,(∃p,x'.fa=some p/\p.block=k)->(∃p,x.fa=some p/\p.block=k)\/w.heap.size<=k
theorem Fp{wa:Oa}{n c:Nat}:(Value.slice wa n c).ownBlock=some k↔∃p,wa=some p/\p.block=k:=by
 cases wa<;>simp[Value.ownBlock]
theorem El.down{x c:CX}(h:El w1 x c)(b:w.heap.size<=w1.heap.size):El w x c:=
 ⟨fun k a=>(h.1 k a).imp (fun h=>h) (fun h=>Qq b h),h.2.1,h.2.2.1,h.2.2.2.1,h.2.2.2.2.1,fun k a=>(h.2.2.2.2.2 k a).imp (fun h=>h) (fun h=>Qq b h)⟩
theorem El.trans{x d e:CX}(h:El w x d)(a:El w1 d e)(c:w.heap.size<=w1.heap.size):El w x e:=
 ⟨fun k b=>(a.1 k b).elim (h.1 k) (fun h=>QO (Qq c h)),a.2.1.trans h.2.1,a.2.2.1.trans h.2.2.1,a.2.2.2.1.trans h.2.2.2.1,a.2.2.2.2.1.trans h.2.2.2.2.1,fun k b=>(a.2.2.2.2.2 k b).elim (h.2.2.2.2.2 k) (fun h=>QO (Qq c h))⟩
def OG(w:World)(x x':CX)(m m':SN):Prop:=El w x x'/\(x'.fa=x.fa/\m'.status=m.status\/∀k,(∃p,x'.fa=some p/\p.block=k)->w.heap.size<=k)
theorem OG.refl(w:World)(x:CX)(m:SN):OG w x x m m:=⟨⟨fun k a=>QG a,rfl,rfl,rfl,rfl,fun k a=>QG a⟩,QG ⟨rfl,rfl⟩⟩
theorem Dj.offS{x:CX}(h:Dj w b x cs a m):DB (CF b x) w:=fun k c=>by
 rcases c with rfl|c
 ·exact⟨_,_,_,h.box,by simp[BP]⟩
 ·obtain⟨e,d⟩:=h.way;exact Hr d.owns k (Fp.2 c)
theorem IA{a c d e f g j k:Value}(h:w.heap[b]?=some (.cells #[a,c,d,e,f,g,j,k] t (0,0))):
  w.cell? ⟨b,0,none⟩=some a/\w.cell? ⟨b,1,none⟩=some c/\w.cell? ⟨b,2,none⟩=some d/\w.cell? ⟨b,3,none⟩=some e/\w.cell? ⟨b,4,none⟩=some f/\w.cell? ⟨b,5,none⟩=some g/\w.cell? ⟨b,6,none⟩=some j/\w.cell? ⟨b,7,none⟩=some k/\∀i,w.frozen? ⟨b,i,none⟩=false:=
 ⟨Aa h 0 _ rfl,Aa h 1 _ rfl,Aa h 2 _ rfl,Aa h 3 _ rfl,Aa h 4 _ rfl,Aa h 5 _ rfl,Aa h 6 _ rfl,Aa h 7 _ rfl,fun i=>Ag h i⟩
theorem Uh{way:Ln}{d:ND×Nat}(h:way.reverse[i]?=some d):(En way)[i]?=some (d.2-1):=by
 unfold En;rw[<-List.map_reverse,Qj,h];rfl
theorem ME(w:World)(b:Nat)(wa:Oa)(wc:Nat)(way:Ln)(am:Lv)(Z:w.cell? ⟨b,2,none⟩=some (slice wa way.length wc))(u:E8 w (slice wa way.length wc) way.reverse am)(ad:way.length<=200000)(n:∀y∈way,1<=y.2/\y.2<=4000):
  Calls prog 75 #[Pt b] w fun e w'=>∃fa fc,e=returned (slice fa way.length fc)/\Ao w w'/\w'.ownsRow w.heap.size 3 1 (slice fa way.length fc) way.length (AM (En way)):=by
 obtain⟨L,l⟩:=Ex way.length;rw[<-l]at u Z ad⊢;have G:(En way).length=L:=by rw[l];simp[En]
 have z:=Yh u;have U:=Yh G;have S:=Yh n;have x:=Yh l;clear u G n l;go_enter func75,ntmps75;go_wp2
 go_loopg [3,11] (L+1) (fun gk nv ae wr=>∃(i:Nat)(f:Oa)(g:Nat),nv=slice f i g/\ae=int i64 i/\i<=L/\L-i<gk/\Ao w wr/\wr.ownsRow w.heap.size 3 1 (slice f i g) i (AM ((En way).take i)))
 case atStart=>exact⟨0,none,0,rfl,Yg,Yo,Yo,Ao.of (Ad.refl _ _),by simpa[AM]using Q2 w w.heap.size 3 1⟩
 case round=>
  obtain⟨i,f,g,rfl,rfl,hi,aw,s,E⟩:=hrel;have ac:=s.size;have c:=Yh s;have q:=Yh E;clear s E
  by_cases ab:i<L
  ·obtain⟨d,hd⟩:∃d,way.reverse[i]?=some d:=⟨_,Qb (by rw[Qv,<-x.o];exact ab)⟩;have F:=Uh hd;have C:d∈way:=List.mem_reverse.1 (Qh hd);obtain⟨au,av⟩:=S.o d C;obtain⟨a2,a3,a4,a5,J,K,M,N,O,D⟩:=z.o.all i d hd;obtain⟨V,X,aj,al,ak,af,ah,ag,ai,rfl,rfl,rfl,rfl,ay⟩:=D.shape;have a:=z.o.owns;rw[Qv,<-x.o]at a;obtain⟨j,a0,a1,I,_,H,_⟩:=An a Yo;simp only[QH]at I;obtain⟨rfl,_,rfl⟩:=I;have h:=Ac H;have an:=(c.o.cell (p:=⟨j,i*5,none⟩) h).trans (Af a _ _ J);have ao:=(c.o.cell (p:=⟨j,i*5+1,none⟩) h).trans (Af a _ _ K);have ap:=(c.o.cell (p:=⟨j,i*5+2,none⟩) h).trans (Af a _ _ M);have aq:=(c.o.cell (p:=⟨j,i*5+3,none⟩) h).trans (Af a _ _ N);have ar:=(c.o.cell (p:=⟨j,i*5+4,none⟩) h).trans (Af a _ _ O);obtain⟨r,m⟩:=Ex (wr.alloc (.cells #[slice V d.1.goals.length X,slice aj al ak,slice af ah ag,int i64 ai,int i64 d.2] 135));have t:Ao wr r:=by rw[m];exact Mxt
   have B:=Yh (Aj q.o (fun k n=>t.block k (q.o.lt k n).2));have ax:r.heap.size=wr.heap.size+1:=by rw[m];simp
   have T:YH (AM ((En way).take (i+1))=AM ((En way).take i)++[int i64 ((d.2:Int)-1)]):=by
    show _=_;rw[QU,F];simp[AM];omega
   have P:=Yh t;have Q:=Yh m
   clear hd F C J K M N O D a H t m
   go_wp2_with (at_builtin;rw[<-Q.o];go_loud (refine Al r rfl (.tmp 15) (.tmp 19) 25 rfl w.heap.size 3 infoInt underlying25 rfl Yd (slice f i g) i (AM ((En way).take i)) rfl B.o #[int i64 ((d.2:Int)-1)] rfl Yo rfl (DT _) ?_ ?_ ?_))
   ·omega
   ·omega
   intro az w2 v;obtain⟨W,Y,rfl⟩:=Ab v.owns;have A:=Yh v;clear v;go_wp2
   go_roundg (L-i)
   case measure=>omega
   case rel=>
    refine⟨i+1,W,Y,rfl,Yg,Yo,Yo,(c.o.trans (P.o.mono ac)).trans (A.o.kept.below Yo (fun k e=>(B.o.lt k e).1)),?_⟩;rw[T.o];exact A.o.owns
  ·have aa:i=L:=Yo
   subst aa;have R:YH (AM ((En way).take i)=AM (En way)):=by
    show _=_;rw[JS (by rw[U.o];omega)]
   go_wp2;go_ret;exact⟨f,g,rfl,c.o,by rw[<-R.o];exact q.o⟩
set_option maxHeartbeats 8000000 in
theorem MW(w:World)(b:Nat)(x:CX)(cs:Lc)(a:Ll×At)(m:SN)(h:Dj w b x cs a m)(ak:m.way.length<=200000)(P:∀y∈m.way,y.2<=4000)(ao:cs.length<=24)(p:m.tree.length+m.way.length<=200000):
  Calls prog 53 #[Pt b] w fun e w'=>e=Rq #[]/\Ad (only b) w w'/\Dj w' b x cs a (CE cs m):=by
 have f:=h.box;obtain⟨ca,cc,na,nc,wa,wc,va,vl,vc,fa,fl,fc⟩:=x;simp only[CX.cells]at f;obtain⟨H,b1,b2,I,J,K,L,M,N⟩:=IA f;have Z:=Yh h;have ac:=Yh P;have aa:=Yh p;clear h f P p;go_enter func53,ntmps53;go_wp2
 go_loopg [2] (m.way.length+1) (fun gk an wr=>∃(way':Ln)(d:Lu),way'.length<gk/\an=int i64 ((way'.length:Int)-1)/\DN cs way' d=DN cs m.way m.tree/\d.length+way'.length<=200000/\way'.length<=200000/\(∀y∈way',y.2<=4000)/\Ad (only b) w wr/\Dj wr b ⟨ca,cc,na,nc,wa,wc,va,vl,vc,fa,fl,fc⟩ cs a {m with way:=way',tree:=d})
 case atStart=>exact⟨m.way,m.tree,Yo,rfl,rfl,aa.o,ak,ac.o,Ad.refl _ _,Z.o⟩
 case round=>
  clear H b1 b2 I J K L M N;obtain⟨way',d,O,s,j,p,U,q,i,g⟩:=hrel;have f:=g.box;simp only[CX.cells]at f;obtain⟨H,b1,b2,I,J,K,L,M,N⟩:=IA f
  cases v:way' with
  |nil=>
   have D:u2=int i64 (-1):=by rw[s,v];rfl
   subst D;have A:YH (∀u,Ad (only b) wr u->(∀k,u.heap[k]?=wr.heap[k]?)->Ad (only b) w u/\Dj u b ⟨ca,cc,na,nc,wa,wc,va,vl,vc,fa,fl,fc⟩ cs a (CE cs m)):=fun u c C=>by
    refine⟨i.trans c,?_⟩;have e:CE cs m={m with way:=way',tree:=d}:=by
     unfold CE;rw[<-j,v];rfl
    rw[e];exact g.ext ⟨c.os,c.tape,c.output,c.size,fun k _=>C k⟩
   clear g f i j q s v O U p;go_wp2_with fail;go_quiet (fail);go_wp2;go_end0;exact⟨rfl,A.o _ ((Ad.refl _ wr).drewN _) (fun _=>rfl)⟩
  |cons y r=>
   obtain⟨G,n⟩:=y;have D:u2=int i64 (r.length:Int):=by rw[s,v];simp
   subst D;subst v;simp only[Qf]at b2 O U p;obtain⟨ax,l⟩:=g.way;simp only[Qw,Qf]at l;have t:=l.owns;rw[Qg,Qv,Qn]at t;obtain⟨E,ap,aq,T,_,S,_⟩:=An t Yo;simp only[QH]at T;obtain⟨rfl,_,rfl⟩:=T;obtain⟨ar,au,av,aw,V,W,X,Y,F,Q⟩:=l.all r.length (G,n) (by rw[Qd Ys];simp);have ag:=Af t _ _ F;simp only at ag;have am:=q (G,n) Ys;simp only at am
   by_cases z:cs.length<=n
   ·have aj:(cs.length:Int)<=(n:Int):=Yo
    have R:=l.pop Qv;have ab:=Yh f;have af:YH (∀u,Ad (only b) wr u->u.heap[b]?=some (.cells #[slice ca cs.length cc,slice na a.2.length nc,slice (some ⟨E,0,none⟩) r.length wc,int i64 m.tries,int i64 m.status,slice va vl vc,slice fa fl fc,string ⟨(d++[41]).toArray⟩] 112 (0,0))->Ad (only b) w u/\Dj u b ⟨ca,cc,na,nc,some ⟨E,0,none⟩,wc,va,vl,vc,fa,fl,fc⟩ cs a {m with way:=r,tree:=d++[41]}):=fun u c hb=>⟨i.trans c,g.upd c hb ⟨rfl,rfl,rfl,rfl⟩ ⟨_,R⟩ g.found⟩;have ae:YH (DN cs r (d++[41])=DN cs m.way m.tree):=by
     have B:=j;simp only[DN]at B;rw[QQ z]at B;exact B
    have ad:YH (∀y∈r,y.2<=4000):=fun y al=>q y (by simp[al]);clear g f i j q s l t V W X Y F Q S R z;go_wp2_with fail;go_quiet (fail);go_wp2
    go_roundg (r.length+1)
    case measure=>omega
    case rel=>
     obtain⟨ah,ai⟩:=af.o _ ((((Ad.refl (only b) wr).drewN _).put 7 _).put 2 _) (Ae (Ae (w:=wr.drewN _) ab.o 7 _) 2 _);exact⟨r,d++[41],Yo,rfl,ae.o,by simp;omega,Yo,ad.o,ah,ai⟩
   ·have aj:¬(cs.length:Int)<=(n:Int):=Yo
    have A:YH (∀u,Ad (only b) wr u->(∀k,u.heap[k]?=wr.heap[k]?)->Ad (only b) w u/\Dj u b ⟨ca,cc,na,nc,some ⟨E,0,none⟩,wc,va,vl,vc,fa,fl,fc⟩ cs a (CE cs m)):=fun u c C=>by
     refine⟨i.trans c,?_⟩;have e:CE cs m={m with way:=(G,n)::r,tree:=d}:=by
      unfold CE;rw[<-j];simp only[DN];rw[QP z]
     rw[e];exact g.ext ⟨c.os,c.tape,c.output,c.size,fun k _=>C k⟩
    clear g f i j q s l t V W X Y F Q S z;go_wp2_with fail;go_quiet (fail);go_wp2;go_end0;exact⟨rfl,A.o _ ((Ad.refl _ wr).drewN _) (fun _=>rfl)⟩
theorem infoLevel:(prog.info? 135).map (fun i=>(i.zero,i.size,i.bytes))=some (some (agg #[Nl,Nl,Nl,int i64 0,int i64 0]),5,88):=by kernel_rfl
theorem Ng{a0 b c:Oa}{g h i d e f:Nat}{v k:Int}:∀u∈(#[Value.slice a0 g d,slice b h e,slice c i f,int i64 v,int i64 k]:Av).toList,u.oneCell'=true:=by
 intro u a;simp at a;rcases a with rfl|rfl|rfl|rfl|rfl<;>rfl
theorem SO(w:World)(b:Nat)(x:CX)(cs:Lc)(a:Ll×At)(m:SN)(J T R S:Value)(n:ND)(h:Dj w b x cs a m)(hn:CV w J T R S n)(aj:m.way.length<=200000)(p:n.goals=[])(I:n.used=En m.way)(j:∀y∈m.way,1<=y.2/\y.2<=4000)(ap:m.tree.length<=200000):
  Calls prog 52 #[Pt b,agg #[J,T,R,S]] w fun e w'=>e=Rq #[]/\∃r,Ad (CF b x) w w'/\Dj w' b r cs a (B3 m n)/\El w x r:=by
 obtain⟨Q,D,N,F,E,L,G⟩:=hn;obtain⟨an,ao,z,B,A,au,aw,av,u,rfl,rfl,rfl,rfl,ar⟩:=CV.shape ⟨Q,D,N,F,E,L,G⟩;have f:=h.box;obtain⟨ca,cc,na,nc,wa,wc,va,vl,vc,fa,fl,fc⟩:=x;simp only[CX.cells]at f;obtain⟨aa,b1,b2,ab,ac,ad,ae,af,ag⟩:=IA f;have aq:=Ac f;obtain⟨U,v⟩:=h.way;have Z:=Yh (AA m.tree [33]);have O:B3 m n={m with tree:=m.tree++[33],status:=1,found:=n}:=by unfold B3;rw[QQ p]
 have W:YH (∀y,Ad (only b) w y->y.heap[b]?=some (.cells #[slice ca cs.length cc,slice na a.2.length nc,slice wa m.way.length wc,int i64 m.tries,int i64 1,slice z B A,slice fa fl fc,string ⟨(m.tree++[33]).toArray⟩] 112 (0,0))->Calls prog 75 #[Pt b] y fun e C=>∃c d,e=returned (slice c m.way.length d)/\Ad (only b) w C/\C.heap[b]?=some (.cells #[slice ca cs.length cc,slice na a.2.length nc,slice wa m.way.length wc,int i64 m.tries,int i64 1,slice z B A,slice fa fl fc,string ⟨(m.tree++[33]).toArray⟩] 112 (0,0))/\C.ownsRow w.heap.size 3 1 (slice c m.way.length d) m.way.length (AM (En m.way))):=fun y l hb=>by
  refine(ME y b wa wc m.way U (Aa hb 2 _ rfl) (v.keep l h.off (fun k q e=> ?_)) aj j).mono ?_
  ·have e:k=b:=e;subst e;rcases v.owns.2 with⟨e,_⟩|⟨g,al,am,e,_,p,_⟩
   ·rw[e]at q;simp[Value.ownBlock]at q
   ·rw[e]at q;simp[Value.ownBlock]at q;subst q;rw[f]at p;simp at p
  ·rintro e C ⟨c,d,rfl,K,t⟩;exact⟨c,d,rfl,l.then (Ad.of_below K) (fun i hi h=>by have:=l.size;omega),(K.block _ (Ac hb)).trans hb,AI t l.size⟩
 have Y:YH (∀y c d,Ad (only b) w y->y.heap[b]?=some (.cells #[slice ca cs.length cc,slice na a.2.length nc,slice wa m.way.length wc,int i64 m.tries,int i64 1,slice z B A,slice fa fl fc,string ⟨(m.tree++[33]).toArray⟩] 112 (0,0))->y.ownsRow w.heap.size 3 1 (slice c m.way.length d) m.way.length (AM (En m.way))->∃r,Ad (CF b ⟨ca,cc,na,nc,wa,wc,va,vl,vc,fa,fl,fc⟩) w (y.setCell ⟨b,6,none⟩ (slice c m.way.length d))/\Dj (y.setCell ⟨b,6,none⟩ (slice c m.way.length d)) b r cs a (B3 m n)/\El w ⟨ca,cc,na,nc,wa,wc,va,vl,vc,fa,fl,fc⟩ r):=fun y c d l hb t=>by
  have H:Ad (only b) w (y.setCell ⟨b,6,none⟩ (slice c m.way.length d)):=l.put 6 _;have ai:DB (only b) y:=fun k e=>by
   have e:k=b:=e;subst e;exact⟨_,_,_,hb,by simp[BP]⟩
  have ah:Ad (only b) y (y.setCell ⟨b,6,none⟩ (slice c m.way.length d)):=(Ad.refl _ _).put 6 _;refine⟨⟨ca,cc,na,nc,wa,wc,z,B,A,c,m.way.length,d⟩,H.mono (fun i hi e=>QG e),?_,⟨fun k j=>QG j,rfl,rfl,rfl,rfl,fun k j=>QO (t.lt k (Fp.2 j)).1⟩⟩;rw[O];refine h.upd' H (Ae hb 6 _) ⟨rfl,rfl,rfl,rfl⟩ ⟨U,v⟩ (fun _=>⟨⟨Q,h.off.terms H D.vals,F,E,G⟩,?_⟩);have hl:n.used.length=m.way.length:=by rw[I];simp[En]
  show World.ownsRow _ 0 _ 1 _ n.used.length (AM n.used);rw[hl,I];exact AI (ai.own (by simp[BP]) ah t) (Qm _)
 have X:=Yh f;rw[p];clear h D v f j I O G F E L N;go_enter func52,ntmps52;go_wp2_with fail;refine(W.o _ Mkt (Ah (by rw[<-Z.o];exact Ae (Ae (Ae X.o 7 _) 4 _) 5 _) _)).mono ?_;rintro e w3 ⟨c,d,rfl,M,s,P⟩;have ak:=Aa s 6 _ rfl;have cf:=fun i=>Ag s i;have V:=Yh (Y.o w3 c d M s P);clear M s P aa b1 b2 ab ac ad ae af ag;go_wp2;go_end0;exact⟨rfl,V.o⟩
theorem LA(w:World)(b:Nat)(x:CX)(cs:Lc)(a:Ll×At)(m:SN)(W af ad ae:Value)(n:ND)(h:Dj w b x cs a m)(hn:CV w W af ad ae n)(a7:m.way.length<=200000)(j:n.goals≠[])(bc:m.tree.length<=200000):
  Calls prog 52 #[Pt b,agg #[W,af,ad,ae]] w fun e w'=>e=Rq #[]/\∃I,Ad (CF b x) w w'/\Dj w' b I cs a (B3 m n)/\El w x I:=by
 obtain⟨v,y,F,H,G,C,E,D,u,rfl,rfl,rfl,rfl,bf⟩:=hn.shape;have a4:0<n.goals.length:=List.length_pos_iff.2 j;obtain⟨J,hz⟩:=Ex n.goals.length;rw[<-hz]at a4 hn⊢;have A:=h.box;obtain⟨ca,cc,na,nc,wa,wc,va,vl,vc,fa,fl,fc⟩:=x;simp only[CX.cells]at A;obtain⟨ao,b1,b2,ap,aq,ar,au,av,aw⟩:=IA A;have bd:=Ac A;obtain⟨O,U⟩:=h.way;obtain⟨L,P⟩:=Ex m.way.length;have N:=U.owns;rw[Qv]at N;simp only[<-P]at b2 N a7;have an:=Yh (AA m.tree [40]);have aa:B3 m n={m with way:=(n,0)::m.way,tree:=m.tree++[40]}:=by unfold B3;rw[QP j]
 have q:=Yh P;have V:=Yh A;have s:=Yh h;have aj:=Yh hn;have am:=Yh U;have ak:=Yh N;have ah:=Yh aa
 clear h hn U N A aa j hz P;go_enter func52,ntmps52;go_wp2_with fail;obtain⟨f,t⟩:=Ex ((w.setCell ⟨b,7,none⟩ (string (⟨m.tree.toArray⟩++⟨#[40]⟩))).alloc (.cells #[slice v J y,slice F H G,slice C E D,int i64 u] 87));rw[<-t];have K:Ad (only b) w f:=by rw[t];exact((Ad.refl _ _).put 7 _).alloc _
 have R:f.heap[b]?=some (.cells #[slice ca cs.length cc,slice na a.2.length nc,slice wa L wc,int i64 m.tries,int i64 m.status,slice va vl vc,slice fa fl fc,string ⟨(m.tree++[40]).toArray⟩] 112 (0,0)):=by rw[t,<-an.o,q.o];exact Ah (Ae V.o 7 _) _
 have B:f.heap[w.heap.size]?=some (.cells #[slice v J y,slice F H G,slice C E D,int i64 u] 87 (0,0)):=by rw[t];exact CO Ys _
 have be:f.heap.size=w.heap.size+1:=by rw[t];simp
 have Q:∀k,(Value.slice wa L wc).ownBlock=some k->k≠b:=fun k c e=>by
  subst e;rcases ak.o.2 with⟨e,_⟩|⟨g,ax,ay,e,_,j,_⟩
  ·rw[e]at c;simp[Value.ownBlock]at c
  ·rw[e]at c;simp[Value.ownBlock]at c;subst c;rw[V.o]at j;simp at j
 have T:=am.o.keep K s.o.off (fun k c e=>Q k (by rw[q.o];exact c) e);have ac:f.ownsRow 0 135 5 (slice wa L wc) L O:=by
  have:=T.owns;rw[Qv,<-q.o]at this;exact this
 have ai:YH (∀w2 l p,Ar (f.drewN 1) 0 135 5 (slice wa L wc) (L+1) (O++[slice v J y,slice F H G,slice C E D,int i64 u,int i64 0]) (slice l (L+1) p) w2->w2.heap[b]?=some (.cells #[slice ca cs.length cc,slice na a.2.length nc,slice wa L wc,int i64 m.tries,int i64 m.status,slice va vl vc,slice fa fl fc,string ⟨(m.tree++[40]).toArray⟩] 112 (0,0))/\∃I,Ad (CF b ⟨ca,cc,na,nc,wa,wc,va,vl,vc,fa,fl,fc⟩) w (w2.setCell ⟨b,2,none⟩ (slice l (L+1) p))/\Dj (w2.setCell ⟨b,2,none⟩ (slice l (L+1) p)) b I cs a (B3 m n)/\El w ⟨ca,cc,na,nc,wa,wc,va,vl,vc,fa,fl,fc⟩ I):=fun w2 l p d=>by
  have r:w2.heap[b]?=_:=(d.kept.block b (by show b<f.heap.size;omega) (fun e=>Q b e rfl)).trans R;refine⟨r,?_⟩;have X:Ad (Ak (slice wa L wc)) f w2:=⟨d.kept.os,d.kept.tape,d.kept.output,d.kept.size,d.kept.block⟩;have Y:Ad (only b) w2 (w2.setCell ⟨b,2,none⟩ (slice l (L+1) p)):=(Ad.refl _ _).put 2 _;have z:Ad (CF b ⟨ca,cc,na,nc,wa,wc,va,vl,vc,fa,fl,fc⟩) w (w2.setCell ⟨b,2,none⟩ (slice l (L+1) p)):=((K.mono (fun i _ e=>QG e)).trans ((X.mono (fun i _ e=>QO (Fp.1 e))):Ad (CF b ⟨ca,cc,na,nc,wa,wc,va,vl,vc,fa,fl,fc⟩) f w2)).trans (Y.mono (fun i _ e=>QG e));have M:=s.o.offS;obtain⟨xs,a2⟩:=s.o.prog;have Z:E8 w2 (slice l (L+1) p) (m.way.reverse++[(n,0)]) _:=T.step (k:=0) (aj.o.keep K s.o.off) ⟨by rw[Qv,<-q.o];exact d.owns,by rw[<-q.o];exact X,by rw[<-q.o];exact d.where_⟩;have a5:DB (only b) w2:=fun k e=>by
   have e:k=b:=e;subst e;exact⟨_,_,_,r,by simp[BP]⟩
  have a3:=Z.keep Y a5 (fun k c e=>by
   have e:k=b:=e;subst e;rcases Z.owns.2 with⟨e,_⟩|⟨g,ax,ay,e,_,j,_⟩
   ·rw[e]at c;simp[Value.ownBlock]at c
   ·rw[e]at c;simp[Value.ownBlock]at c;subst c;rw[r]at j;simp at j)
  refine⟨⟨ca,cc,na,nc,l,p,va,vl,vc,fa,fl,fc⟩,z,?_,⟨fun k S=> ?_,rfl,rfl,rfl,rfl,fun k S=>QG S⟩⟩
  ·rw[ah.o];refine⟨?_,⟨xs,M.prog z a2⟩,M.own (by simp[BP]) z s.o.names,⟨O++[slice v J y,slice F H G,slice C E D,int i64 u,int i64 ((0:Nat):Int)],?_⟩,fun a6=> ?_⟩
   ·simp only[CX.cells,Qf];rw[<-q.o];exact Ae r 2 _
   ·simp only[Qw,Qf];rw[<-q.o];exact a3
   ·obtain⟨⟨a8,az,a0⟩,a1⟩:=s.o.found a6;exact⟨⟨a8,M.terms z az,a0⟩,M.own (by simp[BP]) z a1⟩
  ·have c:(Value.slice l (L+1) p).ownBlock=some k:=Fp.2 S;rcases d.where_ with e|⟨g,e,j⟩
   ·rw[e]at c;exact QG (Fp.1 c)
   ·rw[e]at c;simp at c;subst c;exact QO (by have:f.heap.size<=g:=j;omega)
 have al:=Yh ac;have a9:=Aa R 2 _ rfl;have bg:=Aa B 0 _ rfl;have bh:=Aa B 1 _ rfl;have bi:=Aa B 2 _ rfl;have bj:=Aa B 3 _ rfl;clear t K R B Q T ac ao b1 b2 ap aq ar au av aw
 go_region_law (refine BA (f.drewN 1) rfl (.tmp 19) (.tmp 22) 110 rfl 0 135 infoLevel underlying110 rfl Yd (slice wa L wc) L O rfl al.o #[slice v J y,slice F H G,slice C E D,int i64 u,int i64 0] rfl (by show _=f.heap.size;omega) rfl Ng Yo Yo rfl ?_;intro bk w2 d;obtain⟨l,p,rfl⟩:=Ab d.owns;obtain⟨r,ab⟩:=ai.o _ _ _ d;have ba:=Aa r 2 _ rfl;have bb:=fun i=>Ag r i;have ag:=Yh ab;clear d r ab)
 all_goals
  go_wp2
  (try simp only[Exit.inBlock,Exit.then])
  refine Jb (results_none rfl _ _ _) rfl ?_;exact⟨rfl,ag.o⟩
theorem Sp(d:Nat)(w:World)(hd:d<=1000):Calls prog 80 #[int i64 d] w fun e w'=>e=returned (string ⟨(List.replicate (2*d) 32).toArray⟩)/\w'=w:=by
 go_enter func80,ntmps80;go_wp2
 go_loopg [3,4] (d+1) (fun gk h nv wr=>∃(k:Nat),nv=int i64 k/\k<=d/\d-k<gk/\h=string ⟨(List.replicate (2*k) 32).toArray⟩/\wr=w)
 case atStart=>exact⟨0,Yg,Qm _,Yo,rfl,rfl⟩
 case round=>
  obtain⟨k,rfl,j,i,rfl,rfl⟩:=hrel
  by_cases l:k<d
  ·have f:(k:Int)<(d:Int):=Yo
   have g:(⟨(List.replicate (2*k) 32).toArray⟩:ByteArray).size=2*k:=by simp[ByteArray.size]
   obtain⟨S,a⟩:=Ex ((⟨(List.replicate (2*k) (32:UInt8)).toArray⟩:ByteArray));rw[<-a]at g⊢;have b:=Yh a;clear a;go_wp2
   go_roundg (d-k)
   case measure=>omega
   case rel=>
    refine⟨k+1,Yg,Yo,Yo,?_,rfl⟩;rw[b.o];show Value.string (_++(⟨[32,32].toArray⟩:ByteArray))=_;rw[AA,show 2*(k+1)=2*k+1+1 by omega,List.replicate_succ',List.replicate_succ'];simp
  ·have c:k=d:=Yo
   subst c;have f:¬((k:Int)<(k:Int)):=Yo
   go_wp2;go_ret;exact⟨rfl,rfl⟩
theorem Po:∀{ks:List Nat}{n:ND}{i:Nat},(Az cs n ks i).2=(0,0)->(Az cs n ks i).1.used=n.used++ks:=by
 intro ks
 induction ks with
 |nil=>
  intro n i h;have e:Az cs n [] i=if n.goals=[]then(n,0,0)else(n,7,i):=by unfold Az;rfl
  rw[e]at h⊢;split
  ·simp
  ·rename_i a;rw[QP a]at h;simp at h
 |cons k ks f=>
  intro n i h;obtain⟨c,g,a,d,b⟩:=Nt h;rw[b]at h⊢;rw[f h,Gf d];simp
theorem XI{n:ND}(hn:FM n)(e:NG n)(d:Mt n):WA (n.done.map (·.1)):=by
 have hl:n.done.length<=100:=by rw[hn.dl];exact hn.ul
 have c:∀t∈n.done.map (·.1),t∈n.terms/\t.length<=30:=fun t a=>by
  refine⟨by unfold ND.terms;simp only[Qk];exact QO (QO a),?_⟩;obtain⟨x,f,rfl⟩:=Q0.1 a;exact(hn.ds x f).1
 refine XO hn e c Yp ?_;have:=Sf (n.done.map (·.1)) [] (fun t a=>by
  obtain⟨b,g⟩:=c t a;have:=VJ (hn.wf t b) (d t b);omega)
 simp only[Qt,Ql]at this;omega
theorem Pw(a:Lu)(b:Array UInt8):(⟨a.toArray⟩:ByteArray)++⟨b⟩=⟨(a++b.toList).toArray⟩:=by
 have:=AA a b.toList;simpa using this
def S6(w0:World)(I X:Lu):Lv->World->Prop
 |[],u=>u=w0
 |[a],u=>a= .string ⟨I.toArray⟩/\u=w0
 |[a,b],u=>a= .string ⟨I.toArray⟩/\b= .string ⟨X.toArray⟩/\u=w0
 |_,_=>False
theorem S6.at{c X:Lu}:∀{vs:Lv}{u:World},S6 w0 c X vs u->u=w0/\(1<=vs.length->vs.getD 0 undef=string ⟨c.toArray⟩)/\(2<=vs.length->vs.getD 1 undef=string ⟨X.toArray⟩)
 |[],u,h=>⟨h,Ys,Ys⟩
 |[a],u,h=>⟨h.2,fun _=>h.1,Ys⟩
 |[a,b],u,h=>⟨h.2.2,fun _=>h.1,fun _=>h.2.1⟩
 |_::_::_::_,u,h=>h.elim
theorem Jk(w:World)(nv ao bg be bb am:Value)(bf:Nat)(n:ND)(ds ks:List Nat)(b5:∃a l c,nv=slice a l c)(b0:∃a l c,ao=slice a l c)(b7:∃a l c,bg=slice a l c)(s:AF w be (n.done.map (·.1)))(m:w.ownsRow 0 3 1 bb ks.length (AM ks))(hd:w.ownsRow 0 3 1 am ds.length (AM ds))
  (hn:FM n) (ba:NG n) (a2:Mt n) (b2:ks.length=n.done.length) (bw:ds.length=n.done.length) (a4:∀k∈ks,k<=99) (av:∀d∈ds,d<=100) (U:(CH (Aw (n.done.map (·.1)) []).1 ds ks).length<=100000000):
  Calls prog 59 #[agg #[nv,ao,bg,be,int i64 bf,bb,am]] w fun e w'=>Ao w w'/\e=returned (string ⟨(CH (Aw (n.done.map (·.1)) []).1 ds ks).toArray⟩):=by
 obtain⟨ce,cf,cg,rfl⟩:=b5;obtain⟨bq,br,bs,rfl⟩:=b0;obtain⟨ci,cj,ck,rfl⟩:=b7;obtain⟨bc,bd,rfl⟩:=s.shape;obtain⟨ad,J,rfl⟩:=Ab m;obtain⟨da,D,rfl⟩:=Ab hd;have bv:n.done.length<=100:=by rw[hn.dl];exact hn.ul
 obtain⟨ts,ab⟩:∃l,l=n.done.map (·.1):=⟨_,rfl⟩;have b6:ts.length=n.done.length:=by rw[ab];simp
 have ac:=XI hn ba a2;rw[<-ab]at s ac U⊢;obtain⟨N,V⟩:=Ex ts.length;have Z:ks.length=N:=Yo
 have Y:ds.length=N:=Yo
 have cq:N<=100:=Yo
 rw[Z]at m⊢;rw[Y]at hd⊢;rw[<-V]at s⊢;have ag:YH (∀y,Ao w y->Calls prog 79 #[slice bc N bd] y (Pk ts y)):=fun y bu=>Nv y _ ts (s.ext bu) ac;have au:(Aw ts []).1.length=ts.length:=ET _ _;obtain⟨C,Q⟩:=Ex ((Aw ts []).1);have bn:YH (GZ ts=C.map (fun t=>A3 t [])):=by show _=_;unfold GZ;rw[Q]
 rw[<-Q]at au U⊢;obtain⟨K,S⟩:=Ex (CH C ds ks);rw[<-S]at U⊢;have bh:=Yh S;have al:=Yh m;have ak:=Yh hd;have bk:=Yh a4;have bi:=Yh av;have bl:=Yh Z;have bj:=Yh Y;have ae:YH (C.length=N):=by show _=_;omega
 have bm:YH (ts.length=N):=V.symm;clear s m hd hn ba a2 ac Q S au b2 bw a4 av Z Y ab b6 V bv;go_enter func59,ntmps59;go_wp2_with fail;apply(ag.o _ (Jc _ w|>.alloc (Qe _) _)).mono;rintro e w1 ⟨E,cy,cz,rfl,F⟩;rw[bm.o]at F⊢;rw[bn.o]at F;have cb:=E.size;simp at cb;have ap:Ao w w1:=(Jc _ w|>.alloc (Qe _) _).trans (E.mono Ys);have G:w1.heap[w.heap.size]?=some (.cells #[slice ce cf cg,slice bq br bs,slice ci cj ck,slice bc N bd,int i64 bf,slice ad N J,slice da N D] 89 (0,0)):=(E.block _ Ys).trans (QL w _);have M:w1.cell? ⟨w.heap.size,5,none⟩=some (slice ad N J):=Aa G 5 _ rfl;have O:w1.cell? ⟨w.heap.size,6,none⟩=some (slice da N D):=Aa G 6 _ rfl;have ar:=Ac G;have z:=Yh ap;have ah:=Yh F;clear E ap G F ag;go_wp2
 go_loopg [3,11] (N+1) (fun gk ch cc wr=>∃(k:Nat)(h:Lu),cc=int i64 k/\k<=N/\N-k<gk/\ch=string ⟨h.toArray⟩/\h++CH (C.drop k) (ds.drop k) (ks.drop k)=K/\Ao w1 wr)
 case atStart=>exact⟨0,[],Yg,Qm _,Yo,rfl,by rw[bh.o];rfl,Jc _ _⟩
 case round=>
  obtain⟨k,h,rfl,m,ct,rfl,i,j⟩:=hrel;have cw:=j.size;have M:wr.cell? ⟨w.heap.size,5,none⟩=some (slice ad N J):=(j.cell (p:=⟨w.heap.size,5,none⟩) ar).trans M;have O:wr.cell? ⟨w.heap.size,6,none⟩=some (slice da N D):=(j.cell (p:=⟨w.heap.size,6,none⟩) ar).trans O;have cr:w.heap.size<wr.heap.size:=Yo
  have v:=Yh j;clear j
  by_cases r:k<N
  ·have a5:k<C.length:=by rw[ae.o];exact r
   have a7:k<ds.length:=by rw[bj.o];exact r
   have a9:k<ks.length:=by rw[bl.o];exact r
   obtain⟨t,aa⟩:∃t,C[k]?=some t:=⟨_,Qb a5⟩;obtain⟨d,hd⟩:∃d,ds[k]?=some d:=⟨_,Qb a7⟩;obtain⟨x,H⟩:∃x,ks[k]?=some x:=⟨_,Qb a9⟩;have az:C.drop k=t::C.drop (k+1):=by rw[QC a5,(Qa.1 aa).2]
   have ax:ds.drop k=d::ds.drop (k+1):=by rw[QC a7,(Qa.1 hd).2]
   have a0:ks.drop k=x::ks.drop (k+1):=by rw[QC a9,(Qa.1 H).2]
   rw[az,ax,a0,CH]at i;have cs:=bi.o d (Qh hd);have cv:=bk.o x (Qh H);obtain⟨I,kc',cx,a8,_,a6,_⟩:=An al.o Yo;simp only[QH]at a8;obtain⟨rfl,_,rfl⟩:=a8;have b3:=Ac a6;obtain⟨B,co,cp,ay,_,aw,_⟩:=An ak.o Yo;simp only[QH]at ay;obtain⟨rfl,_,rfl⟩:=ay;have bx:=Ac aw;have ca:=z.o.size;have R:Ao w wr:=z.o.trans (v.o.mono ca);have cd:wr.cell? ⟨I,k,none⟩=some (int i64 x):=(R.cell (p:=⟨I,k,none⟩) b3).trans (Af al.o k _ (by simp only[AM,Qj,H,JN]));have bp:wr.cell? ⟨B,k,none⟩=some (int i64 d):=(R.cell (p:=⟨B,k,none⟩) bx).trans (Af ak.o k _ (by simp only[AM,Qj,hd,JN]));obtain⟨A,P⟩:=Ex (A3 t []);obtain⟨an,cm,cn,a1,_,a3,_⟩:=An ah.o Yo;simp only[QH]at a1;obtain⟨rfl,_,rfl⟩:=a1;have b1:=Ac a3
   have c0:wr.cell? ⟨an,k,none⟩=some (string ⟨A.toArray⟩):=(v.o.cell (p:=⟨an,k,none⟩) b1).trans (Af ah.o _ _ (by simp[Ba,aa,P]));rw[<-P]at i;obtain⟨f,T⟩:=Ex (List.replicate (2*d) (32:UInt8));obtain⟨X,W⟩:=Ex (Lib.decDigits x);rw[<-T,<-W]at i;have b4:=H1 i;simp only[Qg,Qf,Qt]at b4;have af:=Yh (Sp d wr.drew Yo);have ai:=Yh (IQ x wr.drew Yo);rw[<-T]at af;rw[<-W]at ai;have L:=Yh i
   have cu:¬((N:Int)<=(k:Int)):=Yo
   clear i az ax a0 aa hd H a6 aw a3 P T W R;go_wp2_with fail;refine BW Yk 19 [.rd 0 2 (fun _=>string ⟨h.toArray⟩),.rd 0 2 (fun _=>pointer (some ⟨w.heap.size,6,none⟩)),.rd 0 2 (fun _=>slice (some ⟨B,0,none⟩) N D),.rd 0 2 (fun _=>int i64 k),.rd 0 2 (fun _=>pointer (some ⟨B,k,none⟩)),.rd 0 2 (fun _=>int i64 d),.st 0,.rd 0 2 (fun _=>string ⟨A.toArray⟩),
    .rd 1 2 (fun _=>string ⟨(f++A).toArray⟩),.rd 1 2 (fun _=>string ⟨(f++A++[32,98,121,32]).toArray⟩),.rd 0 2 (fun _=>pointer (some ⟨w.heap.size,5,none⟩)),.rd 0 2 (fun _=>slice (some ⟨I,0,none⟩) N J),.rd 0 2 (fun _=>int i64 k),.rd 0 2 (fun _=>pointer (some ⟨I,k,none⟩)),.rd 0 2 (fun _=>int i64 x),.st 1,
    .rd 2 2 (fun _=>string ⟨(f++A++[32,98,121,32]++X).toArray⟩),.rd 2 2 (fun _=>string ⟨(f++A++[32,98,121,32]++X++[10]).toArray⟩),.rd 2 2 (fun _=>string ⟨(h++(f++A++[32,98,121,32]++X++[10])).toArray⟩),.rd 2 2 (fun _=>string ⟨(h++(f++A++[32,98,121,32]++X++[10])).toArray⟩)] 2 6 Yk
    (S6 wr.drew f X) rfl ?_ ?_
   ·refine⟨⟨trivial,fun vs u g hl b=> ?_⟩,⟨trivial,fun vs u g hl b=> ?_⟩,⟨trivial,fun vs u g hl b=> ?_⟩,⟨trivial,fun vs u g hl b=> ?_⟩,⟨trivial,fun vs u g hl b=> ?_⟩,⟨trivial,fun vs u g hl b=> ?_⟩,⟨trivial,fun vs u hl b=> ?_⟩,⟨trivial,fun vs u g hl b=> ?_⟩,⟨trivial,fun vs u g hl b=> ?_⟩,⟨trivial,fun vs u g hl b=> ?_⟩,⟨trivial,fun vs u g hl b=> ?_⟩,⟨trivial,fun vs u g hl b=> ?_⟩,⟨trivial,fun vs u g hl b=> ?_⟩,⟨trivial,fun vs u g hl b=> ?_⟩,⟨trivial,fun vs u g hl b=> ?_⟩,⟨trivial,fun vs u hl b=> ?_⟩,⟨trivial,fun vs u g hl b=> ?_⟩,⟨trivial,fun vs u g hl b=> ?_⟩,⟨trivial,fun vs u g hl b=> ?_⟩,⟨trivial,fun vs u g hl b=> ?_⟩,trivial⟩
    all_goals(obtain⟨rfl,b8,b9⟩:=b.at)
    ·simp[go_sem]
    ·simp[go_sem]
    ·simp[go_sem,O]
    ·simp[go_sem]
    ·simp[go_sem,r]
    ·simp[go_sem,bp]
    ·obtain rfl:=Q3.1 hl;refine .call 80 #[int i64 d] _ (by simp[go_sem]) (af.o.mono ?_);rintro e u ⟨rfl,rfl⟩;exact⟨_,rfl,rfl,rfl⟩
    ·simp[go_sem]
    ·have h0:vs[0]?.getD undef=string ⟨f.toArray⟩:=by have:=b8 g;rwa [QZ]at this
     simp[go_sem,h0,show¬9223372036854775807<f.length+A.length by omega,AA]
    ·simp[go_sem,show¬9223372036854775807<f.length+A.length+4 by omega,show¬9223372036854775807<f.length+(A.length+4) by omega,Pw]
    ·simp[go_sem]
    ·simp[go_sem,M]
    ·simp[go_sem]
    ·simp[go_sem,r]
    ·simp[go_sem,cd]
    ·obtain⟨cl,rfl⟩:=Q1.1 hl;refine .call 41 #[int i64 x] _ (by simp[go_sem]) (ai.o.mono ?_);rintro e u ⟨rfl,rfl⟩;exact⟨_,rfl,b.1,rfl,rfl⟩
    ·have bt:vs[1]?.getD undef=string ⟨X.toArray⟩:=by have:=b9 g;rwa [QZ]at this
     simp[go_sem,bt,show¬9223372036854775807<f.length+(A.length+4)+X.length by omega,show¬9223372036854775807<f.length+(A.length+(4+X.length)) by omega,show¬9223372036854775807<f.length+(A.length+(X.length+4)) by omega,AA]
    ·simp[go_sem,show¬9223372036854775807<f.length+(A.length+(4+X.length))+1 by omega,show¬9223372036854775807<f.length+(A.length+(X.length+4))+1 by omega,Pw]
    ·simp[go_sem,show¬9223372036854775807<h.length+(f.length+(A.length+(X.length+1+4))) by omega,AA]
    ·simp[go_sem]
   ·rintro vs u hl b;obtain⟨rfl,_,_⟩:=b.at
    simp only[EB,IB,CD,pa,Ph.kd,Ph.val,Kd.val,Qx,QX,Ja,Act.put,JC,JD,JG];have aj:YH ((h++(f++A++[32,98,121,32]++X++[10]))++CH (C.drop (k+1)) (ds.drop (k+1)) (ks.drop (k+1))=K):=by show _=_;rw[<-L.o];simp
    obtain⟨bo,aq⟩:∃q,q=h++(f++A++[32,98,121,32]++X++[10]):=⟨_,rfl⟩;rw[<-aq]at aj⊢;clear aq;go_wp2
    go_roundg (N-k)
    case measure=>omega
    case rel=>exact⟨k+1,bo,Yg,Yo,Yo,rfl,aj.o,v.o.trans ⟨rfl,rfl,rfl,Qe _,fun _ _=>rfl⟩⟩
  ·have bz:k=N:=Yo
   subst bz;have L:YH (h=K):=by
    show _=_;rw[QW (by rw[ae.o];exact Qe _)]at i;simpa[CH]using i
   clear i;go_wp2;go_ret;rw[<-L.o];exact⟨z.o.trans (v.o.mono z.o.size),rfl⟩
theorem NV:HF:=by
 intro p q x w ae af ag;have N:=Yh (Mk p q x w ae af ag);obtain⟨Y,C⟩:=Ex (Gw p q x);rw[<-C];have P:=Yh C;clear ae af ag C;go_enter func34,ntmps34;go_wp2_with fail;apply N.o.mono;rintro e w1 ⟨A,aq⟩;have a4:=A.size;have O:=Yh A;clear A N;rcases aq with⟨J,rfl⟩|⟨a,ks,n,m,b,aw,nc,ak,al,am,a1,a2,a3,ay,az,a0,ah,au,av,aj,dc,rfl,W,ap,I,F⟩
 ·obtain⟨Q,c⟩:∃r,r=(Bm p q x).2.2.1:=⟨_,rfl⟩;obtain⟨ax,K⟩:∃r,r=(Bm p q x).2.2.2:=⟨_,rfl⟩;rw[<-c,<-K];rw[<-c]at J;have v:YH (Y=([],Q,ax)):=by show _=_;rw[P.o,Gw,QP (by rw[<-c];exact J),<-c,<-K]
  have hb:((Q:Int) !=0)=true:=by rw[QR];omega
  clear c K J;unfold Cx;go_wp2_with fail;go_quiet (fail);go_wp2;go_ret3;rw[v.o];exact⟨rfl,O.o.trans (Ad.below (S:=fun i=>w.heap.size<=i) Mst Yo (fun _ h=>h))⟩
 ·have u:m.used=ks:=by
   obtain⟨cs,_,aa⟩:=b.fol;have:=Po (cs:=cs) (ks:=ks) (n:=AN a) (i:=0) (by rw[aa]);rw[aa]at this;simpa[AN]using this
  have L:=Ml b.ask b.held;rw[u]at L;have ad:ks.length=n.done.length:=by rw[b.ok.dl,b.same.used,u]
  have X:(m.done.map (·.2)).length=n.done.length:=by rw[Ql,<-b.same.dl]
  have E:∀d∈m.done.map (·.2),d<=100:=fun d hd=>by
   rw[<-b.same.dd]at hd;obtain⟨g,f,rfl⟩:=Q0.1 hd;have:=(b.ok.ds g f).2;have:=b.ok.ul;omega
  have H:∀k∈ks,k<=99:=fun k ao=>by have:=L k ao;omega
  have ab:(n.done.map (·.1)).flatten.length<=30*(n.done.map (·.1)).length:=KX (fun t l=>by
   obtain⟨g,f,rfl⟩:=Q0.1 l;exact(b.ok.ds g f).1)
  have an:n.done.length<=100:=by rw[b.ok.dl];exact b.ok.ul
  simp only[Ql]at ab;have V:(CH (Aw (n.done.map (·.1)) []).1 (m.done.map (·.2)) ks).length<=100000000:=by
   have:=Nu (n.done.map (·.1)) (m.done.map (·.2)) ks [] E H (fun t l=>by
    have ac:t∈n.terms:=by unfold ND.terms;simp only[Qk];exact QO (QO l)
    obtain⟨g,f,rfl⟩:=Q0.1 l;exact⟨b.ok.wf _ ac,by have:=(b.ok.ds g f).1;omega,fun s ar=>Qq (b.nm _ ac s ar) Yo⟩) (by simp only[Qt];omega)
   omega
  have Z:Hz m=CH (Aw (n.done.map (·.1)) []).1 (m.done.map (·.2)) ks:=by unfold Hz;rw[b.same.doneC b.ok,u]
  obtain⟨T,B⟩:=Ex (CH (Aw (n.done.map (·.1)) []).1 (m.done.map (·.2)) ks);have v:YH (Y=(T,0,0)):=by show _=_;rw[P.o,Gw,b.held,B,<-Z];simp
  have M:YH (∀y,Ao w1 y->Calls prog 59 #[agg #[slice aw a.2.length nc,slice ak al am,slice a1 a2 a3,slice ay az a0,int i64 ah,slice au ks.length av,slice aj (m.done.map (·.2)).length dc]] y fun e w'=>Ao y w'/\e=returned (string ⟨T.toArray⟩)):=fun y z=>by
   rw[B];exact Jk y _ _ _ _ _ _ ah n (m.done.map (·.2)) ks ⟨_,_,_,rfl⟩ ⟨_,_,_,rfl⟩ ⟨_,_,_,rfl⟩ (W.done.ext z) (Aj I (fun j G=>z.block j (I.lt j G).2)) (Aj F (fun j G=>z.block j (F.lt j G).2)) b.ok b.nm b.few ad X H E V
  obtain⟨D,R⟩:=Ex ((m.done.map (·.2)).length);rw[<-R]at M⊢;clear u L ad X E H ab an V Z B b W ap I F R;go_wp2_with fail;apply(M.o _ ((Jc _ w1|>.alloc (Qe _) _).alloc Ys _)).mono;rintro e w2 ⟨U,rfl⟩;have ai:=Yh U;clear U;go_wp2;go_ret3;rw[v.o];exact⟨rfl,(O.o.trans (Ad.below (S:=fun i=>w.heap.size<=i) Mst Yo (fun _ h=>h))).trans (ai.o.mono Yp)⟩
end Go.Proofs.YtlmjilpjmgjjcaaGreatDoor
