/-
  PROVED HERE: the given card of the law 'Whole' in its second form: where what it reads is of bulk at most 1048576.
-/
import Derived.Test.YtlmjilpjmgjjcaaGreatDoorT10
import Derived.Deep.DeepHandedRow
import Derived.Lib.LaidTab
import Derived.Stop.LaidErr
set_option linter.unusedSimpArgs false
set_option linter.unusedVariables false
set_option maxRecDepth 10000
set_option maxHeartbeats 4000000
namespace Go.Proofs.YtlmjilpjmgjjcaaGreatDoor
open Go.RowKit
open _root_.Go.Proofs.Tryz
open Go.Value (int slice string agg pointer tuple)
open Go.IntKind (i64)
open Go.Ending (returned)
variable {w w' w1 w2 w0 wr:World}{k B b i p size cap M rb bW x:Nat}{v cv gv vv lv:Value}{xs ys vs:Lv}{X Y S:Np}{s:ByteArray}{t e:TypeId}{P:Program}{l:Ly}{ls ts:Ll}{ρ:Nat->Nat}{σ:Nat->Ly}{cs:Lc}{c:Db}{a:Ll×At}{m:SN}{ds r:Ln}{st:RS}{L:Bj}{G:Gr}{A:List Lu}
attribute [local simp] Yj EB IB pa Ph.kd Ph.val Kd.val
open Classical in
theorem BH.lists{X Y S:Nat->Prop}{s:SC}{cs:List Db}{a:List (List BJ)×At}{D:List (ND×Nat)}(h:BH X w s cs a D m)(f:Ad (fun k=>S k\/X k) w w')(n:Dz S w)(r:∀k,k<w.heap.size->Y k->X k)(p:Mr Y w'):BH Y w' s cs a D m:=by
 obtain⟨b,c⟩:∃b:World,b={w with heap:=w.heap.mapIdx (fun i o=>if S i then(w'.heap[i]?).getD o else o)}:=⟨_,rfl⟩;have t:b.heap.size=w.heap.size:=by rw[c];simp
 have hb:∀k,k<w.heap.size->b.heap[k]?=if S k then w'.heap[k]? else w.heap[k]?:=fun k q=>by
  have d:=f.size;rw[c];simp only[Array.getElem?_mapIdx,Array.getElem?_eq_getElem q,Array.getElem?_eq_getElem (show k<w'.heap.size by omega),JN,Option.getD_some];split<;>rfl
 have l:Ad S w b:=⟨by rw[c],by rw[c],by rw[c],Yo,fun k e d=>by rw[hb k e,QP d]⟩;refine(h.keep l n).on_heap (fun k e d=> ?_) (fun k e=>r k Yo) p;rw[hb k Yo];split
 ·rfl
 ·rename_i g;exact f.block k Yo (fun j=>j.elim g d)
theorem CP.lists{l:List Ea}{la:Oa}{lc:Nat}{ls f:List (Value×Nat)}{m g sa' ka':Oa}{n j sc' kc':Nat}(h:CP w B bW (slice m ls.length n) (slice g ls.length j) l la lc)(D:Cc w B bW (slice la l.length lc) ls m n g j)
  (r:Cc w' B bW (slice la l.length lc) f sa' sc' ka' kc') (o:WD w w' bW (slice m ls.length n) (slice g ls.length j) (slice sa' f.length sc') (slice ka' f.length kc')):CP w' B bW (slice sa' f.length sc') (slice ka' f.length kc') l la lc:=by
 obtain⟨S,s⟩:∃S:Nat->Prop,S=fun k=>k=bW\/Ak (slice m ls.length n) k:=⟨_,rfl⟩;have q:Ad (fun k=>S k\/Ak (slice g ls.length j) k) w w':=o.kept.mono (fun k _ h=>by rw[s];exact h.elim (fun h=>QG (QG h)) (fun h=>h.elim (fun h=>QG (QO h)) QO));have p:∀k,S k->∃cl t fr,w.heap[k]?=some (.cells cl t fr)/\(t=76\/t=47):=fun k a=>by
  rw[s]at a;rcases a with rfl|a
  ·exact⟨_,_,_,h.box,QG rfl⟩
  ·obtain⟨cl,fr,b⟩:=own_ty D.lrow k a;exact⟨_,_,_,b,QO rfl⟩
 have E:Dz S w:=fun k a=>by
  obtain⟨cl,t,fr,b,c⟩:=p k a;exact⟨cl,t,fr,b,by rcases c with rfl|rfl<;>simp[HR]⟩
 have C:DB S w:=fun k a=>by
  obtain⟨cl,t,fr,b,c⟩:=p k a;exact⟨cl,t,fr,b,by rcases c with rfl|rfl<;>simp[BP]⟩
 have v:∀{k:Nat}{cl:Av}{t:TypeId}{fr:Nat×Nat},w.heap[k]?=some (.cells cl t fr)->t≠76->t≠47->t≠3->¬(S k\/Ak (slice g ls.length j) k):=fun b I J K a=>by
  rcases a with a|a
  ·obtain⟨L,N,M,c,A⟩:=p _ a;rw[b]at c;simp at c;obtain⟨_,rfl,_⟩:=c;exact A.elim I J
  ·exact h.xok.ty b K a
 have y:Mr (Ak (slice ka' f.length kc')) w':=own_ty r.krow;refine⟨r.box,Aj h.row (fun k u=> ?_),fun i e F=> ?_,h.apart,y⟩
 ·obtain⟨cl,fr,b⟩:=own_ty h.row k u;exact q.block k (h.row.lt k u).2 (v b Yd Yd Yd)
 ·have d:=h.all i e F;refine⟨d.code.keepI q C h.xok (fun k G=> ?_) d.fx,d.ref.lists q E o.ko y,d.inv,d.prog,d.ask,d.low,fun a k x H=> ?_⟩
  ·obtain⟨cl,t,fr,b,c⟩:=d.code.own_ty G;exact v b (by rcases c with rfl|rfl<;>decide) (by rcases c with rfl|rfl<;>decide) (by rcases c with rfl|rfl<;>decide)
  ·obtain⟨_,z⟩:=d.code.found a;exact d.fx a k x (o.ko k (z.lt k (Fp.2 x)).2 H)
structure Es(w:World)(B bW:Nat)(es:List Ea)(la:Option Addr)(lc:Nat)(ls:List (Value×Nat))(sa:Option Addr)(sc:Nat)(ka:Option Addr)(kc:Nat):Prop where
 law:CP w B bW (.slice sa ls.length sc) (.slice ka ls.length kc) es la lc
 lists:Cc w B bW (.slice la es.length lc) ls sa sc ka kc
theorem Es.ext{a:List Ea}{la:Oa}{lc:Nat}{ls:List (Value×Nat)}{d b:Oa}{f c:Nat}(h:Es w B bW a la lc ls d f b c)(e:Ao w w'):Es w' B bW a la lc ls d f b c:=⟨h.law.ext e,h.lists.ext e⟩
theorem Es.srch{q i:List Ea}{la o:Oa}{lc p:Nat}{ls:List (Value×Nat)}{f b:Oa}{g c:Nat}(h:Es w B bW q la lc ls f g b c)(r:BF B w w')(l:CP w' B bW (slice f ls.length g) (slice b ls.length c) i o p):Es w' B bW i o p ls f g b c:=by
 have d:∀{B e size n:Nat}{v:Value}{xs:Lv},w.ownsRow B e size v n xs->e=9\/e=3\/e=47->w'.ownsRow B e size v n xs:=fun a s=>Aj a (fun k t=>by
  obtain⟨cl,fr,j⟩:=own_ty a k t;rw[r.frm _ _ _ _ j s,j])
 refine⟨l,l.box,d h.lists.lrow Yd,d h.lists.krow Yd,fun x m=>⟨?_,(h.lists.all x m).2⟩⟩;obtain⟨n,hn,a⟩:=(h.lists.all x m).1;exact⟨n,hn,d a Yd⟩
def Pv(w:World)(B bW N:Nat)(e:Ending)(w':World):Prop:=
 e= .returned (.bool true)/\Below B w w'/\∃es la lc ls sa sc ka kc,es.length<=N/\ls.length<=8*N/\Es w' B bW es la lc ls sa sc ka kc
theorem Es.same{N:Nat}{a:List Ea}{la:Oa}{lc:Nat}{ls:List (Value×Nat)}{f c:Oa}{g d:Nat}{e:Ending}(h:Es w B bW a la lc ls f g c d)(k:B<=bW)(i:a.length<=N)(j:ls.length<=8*N)(b:e=returned (.bool true)/\Below w.heap.size w w'):Pv w B bW (N+1) e w':=
 ⟨b.1,b.2.mono (by have:=Ac h.law.box;omega),a,la,lc,ls,f,g,c,d,Yo,Yo,h.ext b.2⟩
theorem Vu(w:World)(B b N:Nat)(g:List Ea)(la:Oa)(lc:Nat)(ls:List (Value×Nat))(t r:Oa)(u s:Nat)(h:Es w B b g la lc ls t u r s)(c:B<=b)(G:N<=1048576)(i:g.length<=N)(j:ls.length<=8*N)(kd n m:Int)(p q x:ByteArray)(H:1<=kd/\kd<=8)(d:p.size<=maxLen)(f:q.size<=maxLen)(o:x.size<=maxLen)(hn:Ig n)(C:Ig m)(A:G4 B w):
  Calls prog 38 #[Pt b,agg #[int i64 kd,int i64 n,int i64 m,string p,string q,string x]] w (Pv w B b (N+1)):=by
 have l:kd=1\/kd=2\/(kd=3\/kd=4\/kd=5)\/kd=6\/kd=7\/kd=8:=Yo
 rcases l with rfl|rfl|l|rfl|rfl|rfl
 ·exact(Od N6 n m p q x _ w d).mono fun e w' a=>h.same c i j a
 ·exact(SX Tf n m p q x _ w f).mono fun e w' a=>h.same c i j a
 ·apply(Ro w B b g la lc h.law c Yo kd n m p q x l d f hn C).mono;rintro e w' ⟨a,v,y,D,E,hl,k⟩;exact⟨a,v.bel,y,D,E,ls,t,u,r,s,Yo,Yo,h.srch v k⟩
 ·exact(WR WN n m p q x _ w d f o).mono fun e w' a=>h.same c i j a
 ·exact(Oc NV n m p q x _ w d f o).mono fun e w' a=>h.same c i j a
 ·apply(V1 w B b _ ls t u r s h.lists c Yo n m p q x d f o A).mono;rintro e w' ⟨a,hb,F,sa',sc',ka',kc',hl,k,z⟩;exact⟨a,hb,g,la,lc,F,sa',sc',ka',kc',Yo,Yo,h.law.lists h.lists k z,k⟩
theorem Sd(V:Value)(w:World)(ap:OA w V 1048576)(N:G4 w.heap.size w):
  Calls prog 13 #[V,int i64 1,int i64 8] w fun e w'=>e=returned (int i64 (-1))/\Below w.heap.size w w':=by
 obtain⟨a,len,au,rfl,ax,P⟩:=ap;have ab:=Yh P;have E:=Yh N;clear P N;go_enter func13,ntmps13;go_wp2
 go_loopw [8] (fun i wr=>∃(k:Nat)(d:List Ea)(la:Oa)(lc:Nat)(ls:List (Value×Nat))(j:Oa)(l:Nat)(g:Oa)(h:Nat),k<=len/\i=int i64 k/\Below w.heap.size w wr/\d.length<=k/\ls.length<=8*k/\Es wr w.heap.size w.heap.size d la lc ls j l g h) (fun i _=>len-(intOf i).toNat)
 case atStart=>exact⟨0,[],none,0,[],none,0,none,0,Qm _,rfl,(Jc _ _).alloc (Qe _) _,Qe _,Qe _,CP.nil (QL w _),Cc.nil (QL w _)⟩
 case round=>
  obtain⟨k,d,la,lc,ls,j,l,g,h,aw,rfl,c,ak,am,C⟩:=hrel;have az:=Ac C.law.box;have X:=Yh C;have aa:=Yh c;clear C
  by_cases ao:k<len
  ·obtain⟨b,off,kd,n,m,p,q,x,rfl,f,G,H,I,J,K,L,v,y,z,hn,u⟩:=ab.o k ao;have ac:wr.cell? ⟨b,off+k*6,none⟩=some (int i64 kd):=(c.cell (p:=⟨b,off+k*6,none⟩) f).trans G;have ad:wr.cell? ⟨b,off+k*6+1,none⟩=some (int i64 n):=(c.cell (p:=⟨b,off+k*6+1,none⟩) f).trans H;have ae:wr.cell? ⟨b,off+k*6+2,none⟩=some (int i64 m):=(c.cell (p:=⟨b,off+k*6+2,none⟩) f).trans I;have af:wr.cell? ⟨b,off+k*6+3,none⟩=some (string p):=(c.cell (p:=⟨b,off+k*6+3,none⟩) f).trans J;have ag:wr.cell? ⟨b,off+k*6+4,none⟩=some (string q):=(c.cell (p:=⟨b,off+k*6+4,none⟩) f).trans K;have ah:wr.cell? ⟨b,off+k*6+5,none⟩=some (string x):=(c.cell (p:=⟨b,off+k*6+5,none⟩) f).trans L;have B:Ao wr (wr.alloc (.cells #[int i64 kd,int i64 n,int i64 m,string p,string q,string x] 78)):=Mxt;have A:=Yh (X.o.ext B);have r:=Yh (c.trans (B.mono Yo));clear G H I J K L B c
   by_cases t:1<=kd/\kd<=8
   ·have Z:=Yh (Vu _ w.heap.size w.heap.size k d la lc ls j g l h A.o (Qe _) Yo ak am kd n m p q x t v y z hn u (Lib.TabBelow.on E.o r.o));obtain⟨av,aj⟩:=t;clear v y z hn u;go_wp2_with fail;apply Z.o.mono;rintro e w1 ⟨rfl,O,ai,aq,ar,S,T,U,Q,R,al,an,s⟩;have F:=Yh (r.o.trans O);have a0:=Ac s.law.box;have W:=Yh (Uc w1 w.heap.size w.heap.size _ S T U Q R s.lists Yo w.heap.size (Lib.TabBelow.on E.o F.o) Yo);have Y:=Yh s;clear O s ac ad ae af ag ah;go_wp2_with fail;apply W.o.mono;rintro e w2 ⟨rfl,M⟩;have D:=Yh M;clear M;go_wp2
    go_roundw
    case rel=>exact⟨k+1,ai,aq,ar,S,T,U,Q,R,Yo,Yg,F.o.trans (D.o.mono Yo),al,an,Y.o.ext D.o⟩
    case measure=>simp[intOf];omega
   ·by_cases ay:(1:Int)<=kd
    ·have aj:¬kd<=(8:Int):=Yo
     clear t v y z hn u;go_wp2
     go_roundw
     case rel=>exact⟨k+1,d,la,lc,ls,j,l,g,h,Yo,Yg,r.o,Yo,Yo,A.o⟩
     case measure=>simp[intOf];omega
    ·clear t v y z hn u;go_wp2
     go_roundw
     case rel=>exact⟨k+1,d,la,lc,ls,j,l,g,h,Yo,Yg,r.o,Yo,Yo,A.o⟩
     case measure=>simp[intOf];omega
  ·clear c;go_wp2;go_ret;exact⟨rfl,aa.o⟩
theorem Th(a:Value)(w:World)(d:OA w a 1048576)(b:G4 w.heap.size w):
  Calls prog 9 #[a] w fun e w'=>e=returned (.bool true)/\Below w.heap.size w w':=by
 have f:=Yh (Sd a w d b);clear d b;go_enter func9,ntmps9;go_wp2_with fail;apply f.o.mono;rintro e w1 ⟨rfl,c⟩;have g:=Yh c;clear c;go_wp2;go_ret;exact⟨rfl,g.o⟩
section
open Go.ChangeShapes Go.WideShapes Go.ChangeAt Go.WideMaps Go.WideElems Go.RowKit
theorem WJ{a:Type}(d:DataW a):1<=Rows.uptoBulk d:=by
 cases d with
 |lit l=>cases l<;>simp[Rows.uptoBulk]
 |nil=>simp[Rows.uptoBulk]
 |ptr d=>simp[Rows.uptoBulk]
 |slice b f=>simp[Rows.uptoBulk]
 |agg e=>simp[Rows.uptoBulk]
 |iface t d=>simp[Rows.uptoBulk]
 |map c=>simp[Rows.uptoBulk]
 |held h=>simp[Rows.uptoBulk]
theorem WM{a:Type}(l:List (DataW a)):l.length<=Rows.uptoBulkAll l:=by
 induction l with
 |nil=>simp[Rows.uptoBulkAll]
 |cons x r b=>have:=WJ x;simp only[Rows.uptoBulkAll,Qf];omega
theorem Mq{c:Type}{e:TypeId×Value->c}{b:World}{base m:Nat}{n:Nat->Bool}{held:Bool}{a:Addr}{cs:Lv}{x:DataW c×List MemPlace}(j:∀i,i<6->b.cell? (a.add i)=cs[i]?)(o:cs.length=6)(hi:i<6)
  (h:DataW.trod e prog b base n held m 3 ((cs.drop i).take (prog.cellsOf 3))=some x):∃k:Int,b.cell? (a.add i)=some (int i64 k)/\Ig k:=by
 obtain⟨s,d,_,f⟩:=DataW.trod_int underlying3 h;rw[PT]at d;refine⟨s,?_,?_⟩
 ·rw[j i hi];have:=congrArg (fun l:Lv=>l[0]?) d;simpa using this
 ·have g:(decide (IntKind.min .i64<=s)&&decide (s<=IntKind.max .i64))=true:=f;rw[Q6,Q7,Q7,show IntKind.min .i64= -9223372036854775808 from rfl,show IntKind.max .i64=9223372036854775807 from rfl]at g;unfold Ig;omega
set_option maxRecDepth 100000 in
theorem Vj{u:Type}{N:TypeId×Value->u}{r:World}{a0:Oa}{len:Nat}{d:DataW u}{X:List MemPlace}
  (h:DataW.Trod N prog r 0 (fun _=>true) true 22 (slice a0 len cap) d X) (hb:Rows.uptoBulk d<=1048576):OA r (slice a0 len cap) 1048576:=by
 obtain⟨fuel,R⟩:=h;rcases Deep.open_slice underlying22 R with⟨q,_⟩|⟨a,l,c,m,n,D,ag,q,_,hl,ak,A,f,v⟩
 ·simp[Value.cells]at q;obtain⟨rfl,rfl,rfl⟩:=q;exact⟨none,0,0,rfl,Yd,fun k z=>absurd z Yo⟩
 ·simp[Value.cells]at q;obtain⟨rfl,rfl,rfl⟩:=q;have e:len<=1048576:=by
   have hd:d= .slice ((List.range len).map D) ((List.range (m-len)).map fun j=>D (len+j)):=congrArg Prod.fst f;rw[hd]at hb;have s:=WM ((List.range len).map D);simp only[Rows.uptoBulk]at hb;rw[Ql,List.length_range]at s;omega
  refine⟨some a,len,cap,rfl,e,fun k z=> ?_⟩;obtain⟨cs,w,S⟩:=v k (by rw[A];simp;omega);rw[Nb]at w;obtain⟨hb,e,g⟩:=World.cells?_some w;obtain⟨xs,al,_,_,aj,T,p⟩:=DataW.trod_struct underlying78 S;have f:∀i,i<6->∃x,xs[i]?=some x:=fun i hi=>⟨_,Qb (by rw[T];exact hi)⟩;obtain⟨an,H⟩:=f 0 Yo;obtain⟨ao,I⟩:=f 1 Yo;obtain⟨ap,J⟩:=f 2 Yo;obtain⟨aq,K⟩:=f 3 Yo;obtain⟨ar,L⟩:=f 4 Yo;obtain⟨au,M⟩:=f 5 Yo;obtain⟨U,q0⟩:=VZ g e (i:=0) Yo ((p 0 _ rfl).trans H);obtain⟨V,t,Y⟩:=Mq g e (i:=1) Yo ((p 1 _ rfl).trans I);obtain⟨W,C,Z⟩:=Mq g e (i:=2) Yo ((p 2 _ rfl).trans J);obtain⟨aa,E,ad⟩:=Lh g e (i:=3) Yo ((p 3 _ rfl).trans K);obtain⟨ab,F,ae⟩:=Lh g e (i:=4) Yo ((p 4 _ rfl).trans L);obtain⟨ac,G,af⟩:=Lh g e (i:=5) Yo ((p 5 _ rfl).trans M);have P:a.block<r.heap.size:=by
   have:=World.block_lt_of_cell? r _ t;rw[Deep.add_add]at this;simpa[Addr.add]using this
  have B:a.spot=none:=by
   obtain⟨ah,y,_⟩:=v 0 (by rw[A];simp;omega);rw[Nb]at y;obtain⟨_,ai,Q⟩:=World.cells?_some y;have s:=Q 0 Yo;rw[Qb Yo]at s;have O:=UB s;simpa[Addr.add]using O
  simp only[Deep.add_add]at q0 t C E F G;obtain⟨b,o,am⟩:=a;simp only at B;subst B;refine⟨b,o,U,V,W,aa,ab,ac,rfl,P,?_,?_,?_,?_,?_,?_,ad,ae,af,Y,Z⟩
  ·simpa using EP q0 rfl
  ·simpa[Nat.add_assoc]using EP t rfl
  ·simpa[Nat.add_assoc]using EP C rfl
  ·simpa[Nat.add_assoc]using EP E rfl
  ·simpa[Nat.add_assoc]using EP F rfl
  ·simpa[Nat.add_assoc]using EP G rfl
end
section
open Go.ChangeShapes Go.WideShapes Go.ChangeAt Go.WideMaps Go.WideElems Go.RowKit
theorem Vr:(Rows.laid_internal_strconv_uint64pow10:DataW Unit)=Lib.tabData .u64 Lib.pow10Tab:=by kernel_rfl
theorem X3{a:World}(h:laidMet Tryz.prog Rows.allsUptoRow.laid a):Lib.TabIs Tryz.prog a "internal/strconv.uint64pow10" .u64 Lib.pow10Tab:=by
 have b:laidMet Tryz.prog [("internal/strconv.uint64pow10",Rows.laid_internal_strconv_uint64pow10)] a:=h.tail.tail;rw[Vr]at b;exact Lib.tabIs_of_head (g:=0) (t:=258) (e:=209) (n:=20) (by kernel_rfl) (by kernel_rfl) (by kernel_rfl) (by kernel_rfl) (by kernel_rfl) (by kernel_rfl) b
end
section
open Go.ChangeShapes Go.WideShapes Go.ChangeAt Go.WideMaps Go.WideElems Go.RowKit
theorem RF(os:Os)(args:Av):laidMetH prog Rows.wholeUptoRow.laid ((World.doorLaid prog 400 os).forCall (fun _ _=>0) ⟨#[],args,[]⟩).memory:=
 laidMetH_of_parts3 (fuel:=8) (laidMet_of_run' 8 Yk Yk) Yk Yk
theorem Ru(os:Os){a:Type}(b:TypeId×Value->a):DataW.whole b prog ((World.doorLaid prog 400 os).forCall (fun _ _=>0) ⟨#[],#[Nl],[]⟩).memory f9.params.toList Rows.wholeSpec.vars false #[Value.slice none 0 0].toList 8=some ([.nil],[],[]):=by kernel_rfl
set_option maxRecDepth 100000 in
theorem OS(os:Os)(H:os.Started)(o:Type)(b:TypeId×Value->o)(n:Stop.Interp):
  ReturnsInHanded {} checked os 9 .any ((Rows.OpenSpec.upto Rows.wholeSpec).preRow b prog f9 Rows.wholeUptoRow.domain false Rows.wholeUptoRow.laid) (((Rows.OpenSpec.upto Rows.wholeSpec).at n).post b prog f9 false true false false):=by
 have g:Input.okWideB prog ((World.doorLaid prog 400 os).forCall (fun _ _=>0) ⟨#[],#[Nl],[]⟩) 9 ⟨#[],#[Nl],[]⟩=true:=by kernel_rfl
 refine returnsInHanded_of_row (C:=checked) (s:=Rows.OpenSpec.upto Rows.wholeSpec) own H Yk func9
  ⟨World.doorLaid prog 400 os,fun _ _=>0,⟨#[],#[Nl],[]⟩,rfl,World.shaped_of_RefB Yk Yk,(Input.okWide_of_okWideB (base:=0) g).1,(Input.okWide_of_okWideB g).2,
   OpenSpec.preRow_of_cond 8 (Ru os b) Yk (fun k D=>by cases D;kernel_rfl) Yk (RF os _),by
    simp only[Assume.holds];exact⟨Ys,Ys,fun _=>Modest.zero,Ys,Ys⟩⟩ ?_
 intro a base args ds gs K l f _ A _ r _ _;have i:∀(j:Nat) t v,f9.params[j]?=some t->args[j]?=some v->Value.okWide prog a .any base t v:=l;have z:Rows.uptoBulkAll (ds++gs)<=1048576:=of_decide_eq_true (A _ rfl);have y:=f;obtain⟨p,q,d,w,rfl,N,O⟩:=f;have c:DataW.TrodAll b prog a 0 (fun _=>true) true f9.params.toList args.toList ds p:=d;rw[params9]at c i;obtain⟨I,M,rfl,rfl,h0⟩:=trodAll_one c;obtain⟨rfl,rfl⟩:=trodVars_none w;have G:∀x∈p,x.block<a.heap.size:=by obtain⟨m,E⟩:=h0;exact DataW.trod_lt m _ _ _ E
 obtain⟨a0,P,L,rfl⟩:=okWide_slice underlying22 (i 0 22 I rfl rfl);have F:=Vj h0 (by simp only[Qs,Rows.uptoBulkAll]at z;omega);clear d l;have u:Lib.TabIs prog a "internal/strconv.uint64pow10" .u64 Lib.pow10Tab:=X3 r;refine(Th _ a F (Lib.tabBelow_of_tabIs u)).mono fun e J ⟨B,bel⟩=> ?_;subst B;exact⟨_,rfl,_,_,_,[],_,[],y,trodAll_mk1 (shut_bool underlying4 _),trodAll_mk1 (Below.trod W3 Yk (of_decide_eq_true Yk) h0 bel G),rfl,bel.frame _,fun h=>by cases h⟩
theorem Ud:Rows.WholeUptoSaid:=
 OpenClaim.holds_of_cond 9 f9 rfl rfl rfl rfl rfl rfl rfl ⟨rfl,rfl,rfl,rfl,rfl⟩ rfl rfl rfl rfl rfl Yk func9 Yk
  (of_decide_eq_true Yk) (by unfold Func.isWrapper;first|(rw[QQ (by decide+kernel)];kernel_rfl)|(rw[QP (by decide+kernel)];exact⟨rfl,rfl⟩))
  (fun os d b c _ a=>by rw[OpenClaim.pre_eq_preRow];exact OS os d b c a)
theorem whole_hold:Rows.WholeUptoCardSaid:=
 Claim7.holds_tied_plain_at .later [] [.data,.data,.data] true Rows.wholeUptoCard.stood.harness false
  Ud (fun _ h=>by cases h) Yk (fun _ h=>by cases h) wholeUpto_row_tie rfl ⟨rfl,rfl⟩ Yk rfl
  (fun f b d e=>by
   obtain rfl:f=9:=Option.some.inj ((show prog.funcNamed f9.name=some 9 by kernel_rfl).symm.trans d)|>.symm;obtain rfl:b=f9:=(Option.some.inj (func9.symm.trans e)).symm;exact⟨by kernel_rfl,fun j t a=>by
    rw[params9]at a;have g:t∈[22]:=by simpa using Array.mem_of_getElem? a
    have c:([22].all fun u=> !prog.wantsStandIn u)=true:=by kernel_rfl
    exact(show prog.wantsStandIn t=false by simpa using List.all_eq_true.1 c t g)⟩)
  Yk
end
end Go.Proofs.YtlmjilpjmgjjcaaGreatDoor
