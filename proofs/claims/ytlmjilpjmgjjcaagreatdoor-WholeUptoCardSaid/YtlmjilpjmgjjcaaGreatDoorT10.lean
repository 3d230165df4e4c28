/-
  PROVED HERE: the given statements of the laws 'Programs' and 'Queries': for every script, every Program and every Query of it answers as the document's own reading does (no conditions but the statements' own).
-/
import Derived.Test.YtlmjilpjmgjjcaaGreatDoorT9
import Derived.Test.YtlmjilpjmgjjcaaGreatDoorCards
import Derived.Test.YtlmjilpjmgjjcaaGreatDoorTie
import Derived.ProofKit
import Derived.LaidMore
import Derived.OpenShut
import Derived.Stop.Joined
import Derived.SevenTiedAt
import Derived.Deep.Slices
import Derived.Carry
set_option linter.unusedSimpArgs false
set_option linter.unusedVariables false
set_option maxRecDepth 10000
set_option maxHeartbeats 4000000
namespace Go.Proofs.YtlmjilpjmgjjcaaGreatDoor
open Go.RowKit
open _root_.Go.Proofs.Tryz
open Go.Value (int slice string agg pointer tuple)
open Go.IntKind (i64)
open Go.Ending (returned)
variable {w w' w1 w2 w0 wr:World}{k B b i p size cap M rb bW x:Nat}{v cv gv vv lv:Value}{xs ys vs:Lv}{X Y S:Np}{s:ByteArray}{t e:TypeId}{P:Program}{l:Ly}{ls ts:Ll}{ρ:Nat->Nat}{σ:Nat->Ly}{cs:Lc}{c:Db}{a:Ll×At}{m:SN}{ds r:Ln}{st:RS}{L:Bj}{G:Gr}{A:List Lu}
attribute [local simp] Yj EB IB pa Ph.kd Ph.val Kd.val
def YB(bW:Nat)(sv kv:Value):Nat->Prop:=fun k=>k=bW\/Ak sv k\/Ak kv k
structure WD(w w':World)(bW:Nat)(sv kv sv' kv':Value):Prop where
 kept:Ad (YB bW sv kv) w w'
 so:∀k,k<w.heap.size->Ak sv' k->Ak sv k
 ko:∀k,k<w.heap.size->Ak kv' k->Ak kv k
def VK(w:World)(B bW:Nat)(v0:Value)(N:Nat)(sv kv lv:Value)(e:Ending)(w':World):Prop:=
 e= .returned (.tuple #[])/\Ad (LO bW sv kv lv) w w'/\∃ls' sa sc ka kc,ls'.length=N/\Cc w' B bW v0 ls' sa sc ka kc/\(∀k,k<w.heap.size->Ak (.slice sa ls'.length sc) k->Ak sv k)/\∀k,k<w.heap.size->Ak (.slice ka ls'.length kc) k->Ak kv k
theorem M6{N:Nat}{a:Oa}{n m c:Nat}(h:(Value.slice a n c).ownBlock=v.ownBlock\/∃g,(Value.slice a n c).ownBlock=some g/\M<=g)(f:N<=M):∀k,k<N->Ak (slice a m c) k->Ak v k:=fun k i b=>by
 have b:(Value.slice a n c).ownBlock=some k:=by cases a<;>simp[Ak,Value.ownBlock]at b⊢;exact b
 rcases h with h|⟨g,d,e⟩
 ·rw[h]at b;exact b
 ·rw[d]at b;simp at b;omega
structure W2(w wr:World)(B:Nat)(m:Value)(i n:Nat)(lv:Value)(xs:List Value):Prop where
 kept:Ad (Ak lv) w wr
 row:wr.ownsRow B 9 1 lv n (List.replicate i m++xs.drop i)
theorem W2.step{n g c:Nat}{m:Value}(h:W2 w wr B m i n (slice (some ⟨g,0,none⟩) n c) xs)(hi:i<xs.length):W2 w (wr.setCell ⟨g,i,none⟩ m) B m (i+1) n (slice (some ⟨g,0,none⟩) n c) xs:=by
 refine⟨h.kept.setCell (p:=⟨g,i,none⟩) (fun _=>by simp[Ak,Value.ownBlock]) _,?_⟩;rw[<-Xj m xs i hi];exact BY h.row i m
structure Ww(w0 w:World)(lv gv:Value):Prop where
 kept:Ad (Ak lv) w0 w
 own:∀k,k<w0.heap.size->Ak gv k->Ak lv k
theorem Ww.step{d:Value}{e n:Nat}(h:Ww w0 w lv gv)(c:Ar w B e size gv n xs d w'):Ww w0 w' lv d:=
 ⟨h.kept.then c.kept h.own,fun k f a=>by
  rcases c.where_ with b|⟨g,b,i⟩
  ·exact h.own k f (by unfold Ak at a⊢;rw[<-b];exact a)
  ·unfold Ak at a;rw[b]at a;simp at a;have:=h.kept.size;omega⟩
theorem Hu(h:Ao w w'):Ad S w w':=⟨h.os,h.tape,h.output,h.size,fun k a _=>h.block k a⟩
theorem HW{e n c j:Nat}{a:Oa}(h:w.ownsRow B e 1 (slice a n c) n xs)(m:j<n):∃g u,a=some ⟨g,0,none⟩/\g<w.heap.size/\xs[j]?=some u/\w.cell? ⟨g,j,none⟩=some u/\∃b,w.heap[g]?=some (.cells b e (0,0)):=by
 rcases h.2 with⟨d,l⟩|⟨g,k,b,d,_,i,_⟩
 ·omega
 ·simp only[QH]at d;obtain⟨rfl,_,rfl⟩:=d;have hl:=h.1;obtain⟨u,f⟩:∃u,xs[j]?=some u:=⟨_,Qb Yo⟩;exact⟨g,u,rfl,(h.lt g rfl).2,f,Af h j u f,b,i⟩
theorem N2(n:Nat)(m:Value):List.replicate n m++[m]=List.replicate (n+1) m:=List.replicate_succ'.symm
theorem Xv{w3 w4:World}{n:Nat}{b f:Value}(h0:Ad (Ak lv) w wr)
  (j:Ar wr B 9 1 lv (n+1) (List.replicate n (DH k)++[DH k]) gv w2) (p:w2.ownsRow B 9 1 lv n (List.replicate n (DH k)))
  (d:Ar w2 B 9 1 gv (n+1+1) (List.replicate (n+1) (DH k)++[DH k]) b w3) (l:w3.ownsRow B 9 1 gv (n+1) (List.replicate (n+1) (DH k)))
  (a:Ar w3 B 9 1 b (n+2+1) (List.replicate (n+2) (DH k)++[DH k]) f w4) (e:w4.ownsRow B 9 1 b (n+2) (List.replicate (n+2) (DH k))):X2 w w4 B k n lv gv b f:=by
 have m:Ww w w4 lv f:=(((⟨h0,fun _ _ h=>h⟩:Ww w wr lv lv).step j).step d).step a;have g:=j.owns;have c:=d.owns;have i:=a.owns;rw[N2]at g c i;have q:=Iy p g d.kept l Ys Yo;have r:=Iy q c a.kept e Yp Yo;have o:=Iy l c a.kept e Ys Yo;exact⟨m.kept,r,o,e,i⟩
theorem Nn(w:World)(e:TypeId)(a b c d:Value)(h:∀u∈[a,b,c,d],u.oneCell'=true):IF (w.alloc (.cells #[a,b,c,d] e)) 1 (slice (some ⟨w.heap.size,0,none⟩) 4 4) 4 [a,b,c,d]:=
 ⟨rfl,h,QO ⟨_,_,rfl,fun j u g=>by
  have f:(⟨w.heap.size,0,none⟩:Addr).add j=⟨w.heap.size,j,none⟩:=by unfold Addr.add;split<;>simp_all
  rw[f,cell_of_row _ w.heap.size j #[a,b,c,d] e (0,0) (QL w _)];simpa using g⟩⟩
theorem Xx(w:World)(B a:Nat)(am:Value)(ls:List (Value×Nat))(c:Oa)(d:Nat)(l:Oa)(p:Nat)(h:Cc w B a am ls c d l p)(bj:B<=a)(bo:ls.length<=10000000)
  (la:Oa) (n lc:Nat) (xs:Lv) (I:w.ownsRow B 9 1 (slice la n lc) n xs) (hn:n<=20000) (ac:∀x∈ls,∀k,x.1.ownBlock=some k->(Value.slice la n lc).ownBlock≠some k) (T:Nat) (ab:G4 T w):
  Calls prog 94 #[Pt a,slice la n lc] w (VK w B a am (ls.length+4) (slice c ls.length d) (slice l ls.length p) (slice la n lc)):=by
 have az:w.cell? ⟨a,1,none⟩=some (slice c ls.length d):=Aa h.box 1 _ rfl;have HM:=Yh (Py ls.length w Yo T ab);obtain⟨m,H⟩:∃m,DH ls.length=string m:=⟨_,rfl⟩;obtain⟨L,bk⟩:=Ex ls.length;have bl:=Ac h.box;have ay:=Yh H;rw[H]at HM;have av:=Yh h;have s:=Yh I;have bu:xs.length=n:=by have:=I.1;omega
 have U:=Yh ac;clear h I ac ab H;go_enter func94,ntmps94;go_wp2_with fail;apply HM.o.mono;rintro e w1 ⟨rfl,F⟩;have O:=Yh F;have bp:=F.size;clear F az;go_wp2
 go_loopw [6] (fun i wr=>∃j:Nat,j<=n/\i=int i64 j/\W2 w1 wr B (string m) j n (slice la n lc) xs) (fun i _=>n-(intOf i).toNat)
 case atStart=>exact⟨0,Qm _,rfl,Ad.refl _ _,by simpa using Aj s.o (fun k a8=>O.o.block k (s.o.lt k a8).2)⟩
 case round=>
  obtain⟨j,bn,rfl,b⟩:=hrel;have P:=Yh b
  by_cases a9:j<n
  ·obtain⟨g,u,rfl,bm,_,cg,bf,ae⟩:=HW b.row a9;have bi:=Ag ae j;clear b ae;go_wp2
   go_roundw
   case rel=>exact⟨j+1,Yo,Yg,P.o.step Yo⟩
   case measure=>simp[intOf];omega
  ·obtain rfl:j=n:=Yo
   have V:YH (Ad (Ak (slice la j lc)) w wr):=(Hu O.o).trans b.kept;have Y:YH (wr.ownsRow B 9 1 (slice la j lc) j (List.replicate j (string m))):=by
    have:=b.row;rw[List.drop_of_length_le Yo,Qs]at this;exact this
   have bt:=b.kept.size;clear b P
   go_wp2_with (at_builtin;go_loud (refine Fb wr rfl (.tmp 27) (.tmp 29) 47 rfl B 9 infoStr underlying47 rfl Yd (slice la j lc) j (List.replicate j (string m)) rfl Y.o #[string m] (N:=wr.heap.size) rfl rfl rfl (by simp[Value.oneCell']) ?_ ?_ ?_))
   ·omega
   ·omega
   intro D w2 t ah;have K:=Yh t;have W:=Yh ah;have bq:=t.kept.size;have Q:YH (w2.ownsRow B 9 1 D (j+1) (List.replicate (j+1) (string m))):=by have:=t.owns;rw[N2]at this;exact this
   clear t ah
   go_wp2_with (at_builtin;go_loud (refine Fb w2 rfl (.tmp 31) (.tmp 33) 47 rfl B 9 infoStr underlying47 rfl Yd D (j+1) (List.replicate (j+1) (string m)) rfl Q.o #[string m] (N:=w2.heap.size) rfl rfl rfl (by simp[Value.oneCell']) ?_ ?_ ?_))
   ·omega
   ·omega
   intro J w3 v ai;have M:=Yh v;have X:=Yh ai;have br:=v.kept.size;have R:YH (w3.ownsRow B 9 1 J (j+2) (List.replicate (j+2) (string m))):=by have:=v.owns;rw[N2]at this;exact this
   clear v ai
   go_wp2_with (at_builtin;go_loud (refine Fb w3 rfl (.tmp 35) (.tmp 37) 47 rfl B 9 infoStr underlying47 rfl Yd J (j+2) (List.replicate (j+2) (string m)) rfl R.o #[string m] (N:=w3.heap.size) rfl rfl rfl (by simp[Value.oneCell']) ?_ ?_ ?_))
   ·omega
   ·omega
   intro be w4 E aj;have r:X2 w w4 B ls.length j (slice la j lc) D J be:=by
    have e:=ay.o;refine Xv (wr:=wr) (w2:=w2) (w3:=w3) V.o ?_ ?_ ?_ ?_ ?_ ?_<;>rw[e]
    ·exact K.o
    ·exact W.o
    ·exact M.o
    ·exact X.o
    ·exact E
    ·exact aj
   obtain⟨a4,a5,rfl⟩:=Ab r.g;obtain⟨ha,a7,rfl⟩:=Ab r.h;obtain⟨bc,bd,rfl⟩:=Ab r.j;have bs:=E.kept.size;have C:=Yh (fun(w5 w7:World)(sa' ka':Oa)(sc' kc':Nat)=>WO (w5:=w5) (w7:=w7) (sa':=sa') (ka':=ka') (sc':=sc') (kc':=kc') av.o (own_ty s.o) U.o hn r);clear r E aj K M W X Q R Y V U s;obtain⟨ad,ag,_⟩:=C.o w4 w4 none none 0 0;have a0:w4.cell? ⟨a,1,none⟩=some (slice c ls.length d):=Aa ad 1 _ rfl;have ax:=Yh ag;have aq:=Yh (Nn w4 47 (slice la j lc) (slice a4 (j+1) a5) (slice ha (j+2) a7) (slice bc (j+3) bd) (by simp[Value.oneCell']));clear ag ad
   go_wp2_with (at_builtin;go_loud (refine BU _ rfl (.tmp 43) (.tmp 48) 74 rfl B 47 infoStrs underlying74 rfl Yd (slice c ls.length d) ls.length (ls.map (·.1)) rfl ax.o (slice (some ⟨w4.heap.size,0,none⟩) 4 4) 4 _ rfl aq.o ?_ ?_ ?_))
   ·omega
   ·first|omega|(simp;omega)
   intro bw w5 f;obtain⟨z,A,rfl⟩:=Ab f.owns;obtain⟨y,a6,af,_⟩:=(C.o w5 w4 z none A 0).2.2 f;have an:=Yh f;have ar:YH (∀m k,k<w.heap.size->Ak (slice z m A) k->Ak (slice c ls.length d) k):=fun m=>M6 f.where_ Yp;have a1:w5.cell? ⟨a,1,none⟩=some (slice c ls.length d):=Aa y 1 _ rfl;have a2:w5.cell? ⟨a,2,none⟩=some (slice l ls.length p):=Aa y 2 _ rfl;have a3:=fun i=>Ag y i;have ba:=f.kept.size;simp at ba;have aw:=Yh af;clear f y a6 af a0;have S:=Yh (Nn (w5.setCell ⟨a,1,none⟩ (slice z (ls.length+4) A)) 3 (int i64 ls.length) (int i64 ls.length) (int i64 ls.length) (int i64 ls.length) (by simp[Value.oneCell']));rw[World.size_setCell]at S
   go_wp2_with (at_builtin;go_loud (refine BU _ rfl (.tmp 56) (.tmp 61) 25 rfl B 3 infoInt underlying25 rfl Yd (slice l ls.length p) ls.length (ls.map fun x=>int i64 x.2) rfl aw.o _ 4 _ rfl S.o ?_ ?_ ?_))
   ·omega
   ·first|omega|(simp;omega)
   intro bv w7 q;obtain⟨ak,al,rfl⟩:=Ab q.owns;obtain⟨G,Z,aa⟩:=((C.o w5 w7 z ak A al).2.2 an.o).2.2.2 q;have bg:w7.cell? ⟨a,2,none⟩=some (slice l ls.length p):=Aa G 2 _ rfl;have bh:=fun i=>Ag G i;have bb:=q.kept.size;simp at bb;have ao:=Yh Z;have au:YH (∀m k,k<w.heap.size->Ak (slice ak m al) k->Ak (slice l ls.length p) k):=fun m=>M6 q.where_ Yp;have ap:=Yh aa;clear q G Z aa a1 a2 a3;go_wp2;go_end0;exact⟨rfl,ao.o,_,_,_,_,_,Ys,ap.o,ar.o _,au.o _⟩
theorem EN.read(h:EN w v k):∃a n c,v=slice a n c/\n<=30000/\∀i,i<n->∃g,a=some ⟨g,0,none⟩/\g<w.heap.size/\w.cell? ⟨g,i,none⟩=some (DH k):=by
 obtain⟨n,hn,h⟩:=h;obtain⟨a,c,rfl⟩:=Ab h;refine⟨a,n,c,rfl,hn,fun i hi=> ?_⟩;obtain⟨g,u,rfl,e,b,d,_⟩:=HW h hi;rw[List.getElem?_replicate,QQ hi]at b
 cases b
 exact⟨g,rfl,e,d⟩
theorem G4.ext(h:G4 B w)(a:B<=w.heap.size)(e:Ao w w'):G4 B w':=Lib.TabBelow.on h (e.mono a)
theorem Uc(w:World)(B c:Nat)(G:Value)(ls:List (Value×Nat))(k:Oa)(l:Nat)(r:Oa)(s:Nat)(h:Cc w B c G ls k l r s)(W:ls.length<=50000000)(T:Nat)(E:G4 T w)(N:T<=w.heap.size):
  Calls prog 39 #[Pt c] w fun e w'=>e=returned (.bool true)/\Ao w w':=by
 have y:YH (∀u,Ao w u->Cc u B c G ls k l r s):=fun u b=>h.ext b;have H:YH (∀u,Ao w u->G4 T u):=fun u b=>E.ext N b;clear h E;go_enter func39,ntmps39;go_wp2
 go_loopw [3] (fun i wr=>∃j:Nat,j<=ls.length/\i=int i64 j/\Ao w wr) (fun i _=>ls.length-(intOf i).toNat)
 case atStart=>exact⟨0,Qm _,rfl,Jc _ _⟩
 case round=>
  obtain⟨j,U,rfl,d⟩:=hrel;have z:=Yh d;have a:=y.o wr d;have K:wr.cell? ⟨c,1,none⟩=some (slice k ls.length l):=Aa a.box 1 _ rfl;have L:wr.cell? ⟨c,2,none⟩=some (slice r ls.length s):=Aa a.box 2 _ rfl
  by_cases p:j<ls.length
  ·obtain⟨x,f⟩:∃x,ls[j]?=some x:=⟨_,Qb p⟩;obtain⟨aa,u,rfl,V,b,M,_⟩:=HW a.krow p;rw[Qj,f]at b
   cases b
   have Q:=(a.all x (Qh f)).2;have HM:=Yh (Py x.2 wr Yo T (H.o wr d));obtain⟨m,q⟩:∃m,DH x.2=string m:=⟨_,rfl⟩;rw[q]at HM;have J:=Yh q;have C:=Yh f;have P:=d.size;clear a d f q;go_wp2_with fail;apply HM.o.mono;rintro e w1 ⟨rfl,D⟩;have A:YH (Ao w w1):=z.o.trans (D.mono P);have a:=y.o w1 A.o;have R:w1.cell? ⟨c,1,none⟩=some (slice k ls.length l):=Aa a.box 1 _ rfl;obtain⟨ab,u,rfl,X,b,cs,_⟩:=HW a.lrow p;rw[Qj,C.o]at b
   cases b
   obtain⟨ac,v,ad,F,Z,n⟩:=(a.all x (Qh C.o)).1.read;simp only[F]at cs;rw[J.o]at n;have I:=Yh n;clear K L M D a n HM F Q;go_wp2
   go_loop [5] (fun i=>∃t:Nat,t<=v/\i=int i64 t) (fun i=>v-(intOf i).toNat)
   case atStart=>exact⟨0,Qm _,rfl⟩
   case round=>
    obtain⟨t,Y,rfl⟩:=hrel
    by_cases O:t<v
    ·obtain⟨g,rfl,S,cg⟩:=I.o t O;go_wp2
     go_round
     case rel=>exact⟨t+1,Yo,Yg⟩
     case measure=>simp[intOf];omega
    ·go_wp2
     go_roundw
     case rel=>exact⟨j+1,Yo,Yg,A.o⟩
     case measure=>simp[intOf];omega
  ·clear a d;go_wp2;go_ret;exact⟨rfl,z.o⟩
def Ck(l:Lu):Nat->Nat->Nat->Bool->Option Nat
 |0,p,_,_=>some p
 |f+1,p,o,due=>match l[p]? with
  |none=>if due=true\/0<o then some p else none
  |some c=>if due=true then(if c=33 then Ck l f (p+1) o false else if c=40 then Ck l f (p+1) (o+1) false else some p)
    else if o=0 then some p
    else if c=41 then Ck l f (p+1) (o-1) false
    else if(As (l.drop p)).2=0 then some p else Ck l f (p+(As (l.drop p)).2) o true
def DJ(l:Lu):Option Nat:=Ck l (l.length+1) 0 0 true
def Sh(l:Lu)(p o:Nat)(due:Bool):Prop:=∃f,l.length<f+p/\Ck l f p o due=none
theorem Sh.start{l:Lu}(h:DJ l=none):Sh l 0 0 true:=⟨l.length+1,Yo,h⟩
theorem Sh.due{l:Lu}{o:Nat}(h:Sh l p o true):(l[p]?=some 33/\Sh l (p+1) o false)\/(l[p]?=some 40/\Sh l (p+1) (o+1) false):=by
 obtain⟨f,d,a⟩:=h
 cases f with
 |zero=>simp[Ck]at a
 |succ f=>
  unfold Ck at a
  cases b:l[p]? with
  |none=>rw[b]at a;simp at a
  |some c=>
   rw[b]at a;simp only[Ja]at a;split at a
   ·rename_i e;subst e;exact QG ⟨rfl,f,Yo,a⟩
   ·split at a
    ·rename_i e;subst e;exact QO ⟨rfl,f,Yo,a⟩
    ·simp at a
theorem Sh.open{l:Lu}{o:Nat}(h:Sh l p (o+1) false):(l[p]?=some 41/\Sh l (p+1) o false)\/(∃c,l[p]?=some c/\c≠41/\(As (l.drop p)).2≠0/\Sh l (p+(As (l.drop p)).2) (o+1) true):=by
 obtain⟨f,g,a⟩:=h
 cases f with
 |zero=>simp[Ck]at a
 |succ f=>
  unfold Ck at a
  cases b:l[p]? with
  |none=>rw[b]at a;simp at a
  |some c=>
   rw[b]at a;simp only[JQ,if_false,Nat.add_one_ne_zero,Nat.add_sub_cancel]at a;split at a
   ·rename_i e;subst e;exact QG ⟨rfl,f,Yo,a⟩
   ·rename_i e;split at a
    ·simp at a
    ·rename_i d;exact QO ⟨c,rfl,e,d,f,Yo,a⟩
structure HN where
 at':Nat
 wrong:Bool
 ans:List (List UInt8)
mutual
inductive EE (cs:List Db) (names:At) (l:List UInt8):ND->Nat->List (List UInt8)->HN->Prop
 |leaf (n:ND) (p:Nat) (A:List (List UInt8)) (hc:l[p]?=some 33) (h:n.goals=[]):EE cs names l n p A ⟨p+1,false,A++[AU names n]⟩
 |noleaf (n:ND) (p:Nat) (A:List (List UInt8)) (hc:l[p]?=some 33) (h:n.goals≠[]):EE cs names l n p A ⟨p,true,A⟩
 |nonode (n:ND) (p:Nat) (A:List (List UInt8)) (hc:l[p]?=some 40) (h:n.goals=[]):EE cs names l n p A ⟨p,true,A⟩
 |node (n:ND) (p:Nat) (A:List (List UInt8)) (R:HN) (hc:l[p]?=some 40) (h:n.goals≠[]) (hk:Ib cs names l n cs.length 0 (p+1) A R):EE cs names l n p A R
inductive Ib (cs:List Db) (names:At) (l:List UInt8):ND->Nat->Nat->Nat->List (List UInt8)->HN->Prop
 |shut (n:ND) (k p:Nat) (A:List (List UInt8)) (hc:l[p]?=some 41):Ib cs names l n 0 k p A ⟨p+1,false,A⟩
 |noshut (n:ND) (k p:Nat) (A:List (List UInt8)) (c:UInt8) (hc:l[p]?=some c) (hn:c≠41):Ib cs names l n 0 k p A ⟨p,true,A⟩
 |miss (n:ND) (f k p:Nat) (A:List (List UInt8)) (c:Db) (R:HN) (hc:cs[k]?=some c) (hq:(Ax n c k).2=0) (h:Ib cs names l n f (k+1) p A R):Ib cs names l n (f+1) k p A R
 |off (n:ND) (f k p:Nat) (A:List (List UInt8)) (c:Db) (hc:cs[k]?=some c) (hq:(Ax n c k).2≠0) (hw:(As (l.drop p)).2=0\/(As (l.drop p)).1≠k\/(Ax n c k).2=3):Ib cs names l n (f+1) k p A ⟨p,true,A⟩
 |bad (n:ND) (f k p:Nat) (A:List (List UInt8)) (c:Db) (R:HN) (hc:cs[k]?=some c) (hq:(Ax n c k).2=1\/(Ax n c k).2=2) (hs:(As (l.drop p)).2≠0) (hv:(As (l.drop p)).1=k) (h:EE cs names l (Ax n c k).1 (p+(As (l.drop p)).2) A R) (hw:R.wrong=true):Ib cs names l n (f+1) k p A R
 |kid (n:ND) (f k p:Nat) (A:List (List UInt8)) (c:Db) (R R2:HN) (hc:cs[k]?=some c) (hq:(Ax n c k).2=1\/(Ax n c k).2=2) (hs:(As (l.drop p)).2≠0) (hv:(As (l.drop p)).1=k) (h:EE cs names l (Ax n c k).1 (p+(As (l.drop p)).2) A R) (hw:R.wrong=false) (h2:Ib cs names l n f (k+1) R.at' R.ans R2):Ib cs names l n (f+1) k p A R2
end
theorem Xp(cs:Lc)(names:At)(l:Lu):∀(d:Nat)(n:ND)(p o:Nat)(A:List (Lu)),l.length-p<=d->Sh l p o true->∃a,EE cs names l n p A a/\(a.wrong=false->p<a.at'/\Sh l a.at' o false):=by
 intro d
 induction d with
 |zero=>
  intro n p o A hd j;exfalso;rcases j.due with⟨h,_⟩|⟨h,_⟩
  ·have:=(Qa.1 h).1;omega
  ·have:=(Qa.1 h).1;omega
 |succ d G=>
  intro n p o A hd j;rcases j.due with⟨g,t⟩|⟨g,t⟩
  ·by_cases m:n.goals=[]
   ·exact⟨_,.leaf n p A g m,fun _=>⟨Nat.lt_succ_self _,t⟩⟩
   ·exact⟨_,.noleaf n p A g m,fun h=>by simp at h⟩
  ·have M:=(Qa.1 g).1
   by_cases m:n.goals=[]
   ·exact⟨_,.nonode n p A g m,fun h=>by simp at h⟩
   ·have kids:∀(f k p':Nat)(A:List (Lu)),f+k=cs.length->p<p'->Sh l p' (o+1) false->∃a,Ib cs names l n f k p' A a/\(a.wrong=false->p<a.at'/\Sh l a.at' o false):=by
     intro f
     induction f with
     |zero=>
      intro k p' A F w j;rcases j.open with⟨b,i⟩|⟨c,b,i,_⟩
      ·exact⟨_,.shut n k p' A b,fun _=>⟨by show p<p'+1;omega,i⟩⟩
      ·exact⟨_,.noshut n k p' A c b i,fun h=>by simp at h⟩
     |succ f B=>
      intro k p' A F w j;obtain⟨c,g⟩:∃c,cs[k]?=some c:=⟨_,Qb Yo⟩
      by_cases y:(Ax n c k).2=0
      ·obtain⟨a,b,i⟩:=B (k+1) p' A Yo w j;exact⟨a,.miss n f k p' A c a g y b,i⟩
      ·by_cases s:(As (l.drop p')).2=0\/(As (l.drop p')).1≠k\/(Ax n c k).2=3
       ·exact⟨_,.off n f k p' A c g y s,fun h=>by simp at h⟩
       ·have r:(As (l.drop p')).2≠0:=fun h=>s (QG h);have z:(As (l.drop p')).1=k:=by
         by_cases h:(As (l.drop p')).1=k
         ·exact h
         ·exact absurd (QO (QG h)) s
        have x:(Ax n c k).2=1\/(Ax n c k).2=2:=by
         have:=Gd n c k;have L:(Ax n c k).2≠3:=fun h=>s (QO (QO h));omega
        rcases j.open with⟨b,_⟩|⟨J,b,i,_,E⟩
        ·exfalso;have hl:p'<l.length:=(Qa.1 b).1;have e:l.drop p'=41::l.drop (p'+1):=by rw[QC hl,(Qa.1 b).2]
         rw[e]at r;simp[As,Fc]at r
        ·obtain⟨a,v,C⟩:=G (Ax n c k).1 (p'+(As (l.drop p')).2) (o+1) A Yo E
         cases q:a.wrong with
         |true=>exact⟨a,.bad n f k p' A c a g x r z v q,fun h=>by rw[q]at h;simp at h⟩
         |false=>
          obtain⟨K,D⟩:=C q;obtain⟨u,H,I⟩:=B (k+1) a.at' a.ans Yo Yo D;exact⟨u,.kid n f k p' A c a u g x r z v q H,I⟩
    obtain⟨a,b,i⟩:=kids cs.length 0 (p+1) A Yo Yo t;exact⟨a,.node n p A a g m b,i⟩
def Tj:Option Nat->Int
 |none=> -1
 |some p=>p
theorem FO(h:p<s.size):s.data.toList[p]?=some s[p]:=by
 have hl:p<s.data.toList.length:=by simpa using h
 rw[Qb hl];rfl
theorem KF{c d:UInt8}(h:c≠d):(c.toNat:Int)≠(d.toNat:Int):=fun e=>h (UInt8.toNat.inj Yo)
theorem Ov(s:ByteArray)(w:World)(P:s.size<=100000):Calls prog 119 #[string s] w fun e w'=>e=returned (int i64 (Tj (DJ s.data.toList)))/\w'=w:=by
 have t:s.data.toList.length=s.size:=Ys
 have HN:=Yh (fun p u (J:p<=100001)=>FT s p u Yo Yo);obtain⟨l,hl⟩:=Ex s.data.toList;rw[<-hl]at t⊢;have z:=Yh hl;have k:=Yh t;obtain⟨N,q⟩:=Ex (DJ l);rw[<-q];have D:=Yh q;clear hl q t;go_enter func119,ntmps119;go_wp2
 go_loopg [3,4,5] (s.size+1) (fun gk K E av wr=>∃(p o f:Nat)(due:Bool),K=int i64 o/\E= .bool due/\av=int i64 p/\wr=w/\p<=s.size/\s.size-p<gk/\o<=p/\s.size<f+p/\Ck l f p o due=N)
 case atStart=>exact⟨0,0,s.size+1,true,Yg,rfl,Yg,rfl,Yo,Yo,Yo,Yo,by rw[D.o];unfold DJ;rw[k.o]⟩
 case round=>
  obtain⟨p,o,f,due,rfl,rfl,rfl,rfl,J,M,O,L,B⟩:=hrel;have A:=Yh B;clear B;obtain⟨f,rfl⟩:∃F,f=F+1:=⟨f-1,Yo⟩
  by_cases G:p<s.size
  ·have c:l[p]?=some s[p]:=by rw[z.o];exact FO G
   have a:=A.o;unfold Ck at a;rw[c]at a;simp only at a
   cases due with
   |true=>
    simp only[Ja]at a
    by_cases d:s[p]=33
    ·have b:YH (Ck l f (p+1) o false=N):=by show _=_;rw[QQ d]at a;exact a
     have x:((s[p].toNat:Int) !=33)=false:=by rw[d];rfl
     have C:((s[p].toNat:Int)==40)=false:=by rw[d];rfl
     clear a d c;go_wp2
     go_roundg (s.size-p)
     case measure=>omega
     case rel=>exact⟨p+1,o,f,false,Yg,rfl,Yg,rfl,Yo,Yo,Yo,Yo,b.o⟩
    ·have x:((s[p].toNat:Int) !=33)=true:=by
      rw[QR];exact KF d
     by_cases g:s[p]=40
     ·have b:YH (Ck l f (p+1) (o+1) false=N):=by show _=_;rw[QP d,QQ g]at a;exact a
      have C:((s[p].toNat:Int) !=40)=false:=by rw[g];rfl
      have R:((s[p].toNat:Int)==40)=true:=by rw[g];rfl
      clear a d g c;go_wp2
      go_roundg (s.size-p)
      case measure=>omega
      case rel=>exact⟨p+1,o+1,f,false,Yg,rfl,Yg,rfl,Yo,Yo,Yo,Yo,b.o⟩
     ·have b:YH (some p=N):=by show _=_;rw[QP d,QP g]at a;exact a
      have C:((s[p].toNat:Int) !=40)=true:=by
       rw[QR];exact KF g
      clear a d g c;go_wp2;go_ret;rw[<-b.o];exact⟨rfl,rfl⟩
   |false=>
    simp only[JQ,if_false]at a
    by_cases h:o=0
    ·have b:YH (some p=N):=by show _=_;rw[QQ h]at a;exact a
     subst h;clear a c;go_wp2;go_ret;rw[<-b.o];exact⟨rfl,rfl⟩
    ·rw[QP h]at a;have H:((o:Int)==0)=false:=by rw[Qu];omega
     by_cases i:s[p]=41
     ·have b:YH (Ck l f (p+1) (o-1) false=N):=by show _=_;rw[QQ i]at a;exact a
      have x:((s[p].toNat:Int)==41)=true:=by rw[i];rfl
      have I:(o:Int)-1=((o-1:Nat):Int):=Yo
      clear a i c;go_wp2
      go_roundg (s.size-p)
      case measure=>omega
      case rel=>exact⟨p+1,o-1,f,false,by rw[<-I],rfl,Yg,rfl,Yo,Yo,Yo,Yo,b.o⟩
     ·rw[QP i]at a;have x:((s[p].toNat:Int)==41)=false:=by
       rw[Qu];exact KF i
      obtain⟨m,j,r⟩:∃m j,As (l.drop p)=(m,j):=⟨_,_,rfl⟩;have v:=Cd (l.drop p);rw[r]at v a;simp only[JI]at v a;rw[k.o]at v;have n:=HN.o p wr Yo;rw[<-z.o,r]at n;have y:=Yh n;clear n r i c
      by_cases hz:j=0
      ·have b:YH (some p=N):=by show _=_;rw[QQ hz]at a;exact a
       subst hz;clear a;go_wp2_with fail;apply y.o.mono;rintro e w2 ⟨rfl,rfl⟩;go_wp2;go_ret;rw[<-b.o];exact⟨rfl,rfl⟩
      ·have b:YH (Ck l f (p+j) o true=N):=by show _=_;rw[QP hz]at a;exact a
       have Q:(((j:Nat):Int)==0)=false:=by rw[Qu];omega
       clear a;go_wp2_with fail;apply y.o.mono;rintro e w2 ⟨rfl,rfl⟩;go_wp2
       go_roundg (s.size-p)
       case measure=>omega
       case rel=>exact⟨p+j,o,f,true,Yg,rfl,Yg,rfl,Yo,Yo,Yo,Yo,b.o⟩
  ·have c:l[p]?=none:=J8.2 (by rw[k.o];omega);have a:=A.o;unfold Ck at a;rw[c]at a;simp only at a
   cases due with
   |true=>
    have b:YH (some p=N):=by show _=_;rw[QQ (QG rfl)]at a;exact a
    clear a c;go_wp2;go_ret;rw[<-b.o];exact⟨rfl,rfl⟩
   |false=>
    by_cases h:0<o
    ·have b:YH (some p=N):=by show _=_;rw[QQ (QO h)]at a;exact a
     have H:(0:Int)<(o:Int):=Yo
     clear a c h;go_wp2;go_ret;rw[<-b.o];exact⟨rfl,rfl⟩
    ·have b:YH (none=N):=by show _=_;rw[QP Yp]at a;exact a
     obtain rfl:o=0:=Yo
     clear a c h;go_wp2;go_ret;rw[<-b.o];exact⟨rfl,rfl⟩
def II(P:ND->Nat->List (Lu)->HN->Prop)(cs:Lc)(l:Lu)(n:ND):Nat->Nat->Nat->List (Lu)->HN->Prop
 |0,k,p,A,R=>(l[p]?=some 41/\R=⟨p+1,false,A⟩)\/(∃c,l[p]?=some c/\c≠41/\R=⟨p,true,A⟩)
 |f+1,k,p,A,R=>∃c,cs[k]?=some c/\(((Ax n c k).2=0/\II P cs l n f (k+1) p A R)\/
   ((Ax n c k).2≠0/\((As (l.drop p)).2=0\/(As (l.drop p)).1≠k\/(Ax n c k).2=3)/\R=⟨p,true,A⟩)\/
   (((Ax n c k).2=1\/(Ax n c k).2=2)/\(As (l.drop p)).2≠0/\(As (l.drop p)).1=k/\∃R1,P (Ax n c k).1 (p+(As (l.drop p)).2) A R1/\((R1.wrong=true/\R=R1)\/(R1.wrong=false/\II P cs l n f (k+1) R1.at' R1.ans R))))
theorem EE.ind{names:At}{l:Lu}{P:ND->Nat->List (Lu)->HN->Prop}
  (o:∀n p A,l[p]?=some 33->n.goals=[]->P n p A ⟨p+1,false,A++[AU names n]⟩) (q:∀n p A,l[p]?=some 33->n.goals≠[]->P n p A ⟨p,true,A⟩) (r:∀n p A,l[p]?=some 40->n.goals=[]->P n p A ⟨p,true,A⟩)
  (s:∀n p A b,l[p]?=some 40->n.goals≠[]->II P cs l n cs.length 0 (p+1) A b->P n p A b) {n:ND} {p:Nat} {A:List (Lu)} {b:HN} (h:EE cs names l n p A b):P n p A b:=by
 refine EE.rec (motive_1:=fun n p A b _=>P n p A b) (motive_2:=fun n f k p A b _=>II P cs l n f k p A b) ?_ ?_ ?_ ?_ ?_ ?_ ?_ ?_ ?_ ?_ h
 ·intro n p A a d;exact o n p A a d
 ·intro n p A a d;exact q n p A a d
 ·intro n p A a d;exact r n p A a d
 ·intro n p A b a d _ g;exact s n p A b a d g
 ·intro n k p A a;exact QG ⟨a,rfl⟩
 ·intro n k p A c a hn;exact QO ⟨c,a,hn,rfl⟩
 ·intro n f k p A c b a e _ g;exact⟨c,a,QG ⟨e,g⟩⟩
 ·intro n f k p A c a e i;exact⟨c,a,QO (QG ⟨e,i,rfl⟩)⟩
 ·intro n f k p A c b a e j m _ i g;exact⟨c,a,QO (QO ⟨e,j,m,b,g,QG ⟨i,rfl⟩⟩)⟩
 ·intro n f k p A c b u a e j m _ i _ g t;exact⟨c,a,QO (QO ⟨e,j,m,b,g,QO ⟨i,t⟩⟩)⟩
def E5(cs:Lc)(a:Ll×At)(s:ByteArray)(n:ND)(p:Nat)(A:List (Lu))(R:HN):Prop:=
 ∀(w0 w:World)(lv qv nv:Value)(xs:Lv)(m0 m1 m2 m3 m4 hv:Value),Gb (fun _=>False) w0 lv cs xs->Fg w0 qv nv a->Ao w0 w->BC (fun _=>False) w m0 m1 m2 m3 m4 n->n.vals.length=a.2.length->w.ownsRow w0.heap.size 9 1 hv A.length (Ba A)->A.length<=p->
  Calls prog 121 #[lv,.agg #[qv,nv],.agg #[m0,m1,m2,m3,m4],.string s,.agg #[.int .i64 p,.bool false,hv]] w fun e w'=>∃hv',e= .returned (.agg #[.int .i64 R.at',.bool R.wrong,hv'])/\Ad (Ak hv) w w'/\w'.ownsRow w0.heap.size 9 1 hv' R.ans.length (Ba R.ans)/\R.ans.length<=R.at'/\R.at'<=s.size/\∀k,hv'.ownBlock=some k->hv.ownBlock=some k\/w.heap.size<=k
theorem FX{a c d:Value}(h:w.heap[b]?=some (.cells #[a,c,d] t (0,0))):
  w.cell? ⟨b,0,none⟩=some a/\w.cell? ⟨b,1,none⟩=some c/\w.cell? ⟨b,2,none⟩=some d/\∀i,w.frozen? ⟨b,i,none⟩=false:=
 ⟨Aa h 0 _ rfl,Aa h 1 _ rfl,Aa h 2 _ rfl,fun i=>Ag h i⟩
theorem Pf(cs:Lc)(a:Ll×At)(s:ByteArray)(W:s.size<=20000)(n:ND)(p:Nat)(A:List (Lu))(g:(s.data.toList[p]?=some 33/\n.goals≠[])\/(s.data.toList[p]?=some 40/\n.goals=[])):E5 cs a s n p A ⟨p,true,A⟩:=by
 intro F w Z ah nv xs ab ac ad ae af X r f B x C e q;have z:p<s.size:=by
  have:p<s.data.toList.length:=by rcases g with⟨h,_⟩|⟨h,_⟩<;>exact(Qa.1 h).1
  simpa using this
 obtain⟨J,K,M,O,N,P,R,Q,S,U,T,V,rfl,rfl,rfl,rfl,rfl⟩:=x.len;obtain⟨la,Y,rfl⟩:=Ab r.owns;obtain⟨I,m⟩:=f.atoms;obtain⟨aa,H,rfl⟩:=Ab m.1;obtain⟨na,ag,rfl⟩:=Ab f.names;obtain⟨ha,d,rfl⟩:=Ab e;have y:((s[p].toNat:Int)==33)=true/\((n.goals.length:Int)==0)=false\/((s[p].toNat:Int)==33)=false/\((n.goals.length:Int)==0)=true:=by
  rcases g with⟨h,i⟩|⟨h,i⟩
  ·rw[FO z]at h;simp at h;refine QG ⟨by rw[h];rfl,?_⟩;rw[Qu];have:n.goals.length≠0:=fun h=>i (QS h);omega
  ·rw[FO z]at h;simp at h;exact QO ⟨by rw[h];rfl,by rw[i];rfl⟩
 have l:YH (∀w',Ao w w'->∃j,(Ending.returned (agg #[int i64 p,.bool true,slice ha A.length d]))=returned (agg #[int i64 p,.bool true,j])/\Ad (Ak (slice ha A.length d)) w w'/\w'.ownsRow F.heap.size 9 1 j A.length (Ba A)/\A.length<=p/\p<=s.size/\∀k,j.ownBlock=some k->(Value.slice ha A.length d).ownBlock=some k\/w.heap.size<=k):=fun w' b=>
  ⟨_,rfl,⟨b.os,b.tape,b.output,b.size,fun k c _=>b.block k c⟩,Aj e (fun k c=>b.block k (e.lt k c).2),q,Yo,fun k c=>QG c⟩
 obtain⟨L,u⟩:=Ex A.length;obtain⟨G,t⟩:=Ex n.goals.length;rw[<-u]at l⊢;rw[<-t]at y⊢;clear g r f m B x C e q u t;rcases y with⟨D,E⟩|⟨D,E⟩
 all_goals
  go_enter func121,ntmps121;go_wp2_with fail;go_quiet (fail);go_wp2;refine Jb (v:=agg #[int i64 p,.bool true,slice ha L d]) (by simp[results,results121,go_sem]) rfl ?_;exact l.o _ Mxt
theorem H3(h:k=w.heap.size)(o:Obj):(w.alloc o).heap[k]?=some o:=by subst h;exact QL w o
theorem Wd(w:World)(A B C D:Obj):((((w.alloc A).alloc B).alloc C).alloc D).heap.size=w.heap.size+4/\((((w.alloc A).alloc B).alloc C).alloc D).heap[w.heap.size]?=some A/\((((w.alloc A).alloc B).alloc C).alloc D).heap[w.heap.size+1]?=some B/\((((w.alloc A).alloc B).alloc C).alloc D).heap[w.heap.size+1+1]?=some C/\((((w.alloc A).alloc B).alloc C).alloc D).heap[w.heap.size+1+1+1]?=some D/\Ao w ((((w.alloc A).alloc B).alloc C).alloc D):=
 ⟨Ys,Ah (Ah (Ah (H3 rfl _) _) _) _,Ah (Ah (H3 Ys _) _) _,Ah (H3 Ys _) _,H3 Ys _,Ao.of ((((Ad.refl _ _).alloc _).alloc _).alloc _|>.alloc _)⟩
theorem Ur(cs:Lc)(a:Ll×At)(s:ByteArray)(bz:s.size<=20000)(bh:a.2.length<=121)(bi:∀y∈a.2,y.length<=4096)(n:ND)(p:Nat)(A:List (Lu))(t:s.data.toList[p]?=some 33)(M:n.goals=[]):E5 cs a s n p A ⟨p+1,false,A++[AU a.2 n]⟩:=by
 intro ac w b5 cb nv xs b6 b7 b8 b9 ca b2 ax J K L a6 P bv;have bk:p<s.size:=by
  have:p<s.data.toList.length:=(Qa.1 t).1;simpa using this
 obtain⟨ah,ai,aj,al,ak,an,ap,ao,aq,au,ar,av,rfl,rfl,rfl,rfl,rfl⟩:=L.len;obtain⟨la,b4,rfl⟩:=Ab ax.owns;obtain⟨bu,aw⟩:=J.atoms;obtain⟨aa,ag,rfl⟩:=Ab aw.1;obtain⟨na,a8,rfl⟩:=Ab J.names;obtain⟨ha,d,rfl⟩:=Ab P;have b3:((s[p].toNat:Int)==33)=true:=by
  rw[FO bk]at t;simp at t;rw[t];rfl
 have a1:n.goals.length=0:=by rw[M];rfl
 rw[a1]at L⊢;obtain⟨X,a0⟩:=Ex (AU a.2 n);have ad:=Yh (fun u (a5:Ao w u)=>Ky u _ _ _ _ _ _ _ a n (J.ext (K.trans (a5.mono K.size))) (L.ext (Y:=fun _=>False) a5 (fun _ _ h=>h)) a6 bh bi);rw[<-a0]at ad⊢;obtain⟨f,S⟩:=Ex ((((w.alloc (.cells #[slice aa a.1.length ag,slice na a.2.length a8] 148)).alloc (.cells #[slice ah 0 ai,slice aj al ak,slice an ap ao,slice aq au ar,int i64 av] 152)).alloc (.cells #[int i64 p,.bool false,slice ha A.length d] 206)).alloc (.cells #[int i64 0,.bool false,Nl] 206));obtain⟨bl,W,U,N,O,Q⟩:=Wd w (.cells #[slice aa a.1.length ag,slice na a.2.length a8] 148) (.cells #[slice ah 0 ai,slice aj al ak,slice an ap ao,slice aq au ar,int i64 av] 152) (.cells #[int i64 p,.bool false,slice ha A.length d] 206) (.cells #[int i64 0,.bool false,Nl] 206);rw[<-S]at bl W U N O Q;obtain⟨q0,bs,bt⟩:=Gs W;obtain⟨bm,bn,bo,bp,bq,br⟩:=C0 U;obtain⟨E,F,G,H⟩:=FX N;obtain⟨z,B,C,D⟩:=FX O;have a3:=P.lt;have bw:=K.size;have af:=Yh P;have I:=Yh Q;have bb:=Yh N;have bd:=Yh O;have a9:=Yh S;have ae:=Yh a3;clear t M ax J aw K L a6 P a0 S W U N O Q a3 a1;go_enter func121,ntmps121;go_wp2_with fail;rw[<-a9.o];go_quiet (fail);go_wp2_with fail;have az:Ao w (f.drewN nq):=I.o.trans ((Ao.of ((Ad.refl _ f).drewN nq)).mono I.o.size);apply(ad.o _ az).mono;rintro e w1 ⟨rfl,ay⟩;have q:Ao f w1:=(Ao.of ((Ad.refl _ f).drewN nq):Ao f (f.drewN nq)).trans ay;have b0:=q.size;have R:Ao w w1:=I.o.trans (q.mono I.o.size);have T:=(q.block _ Yo).trans bb.o;have Z:=(q.block _ Yo).trans bd.o;clear q0 bs bt bm bn bo bp bq br E F G H z B C D;obtain⟨E,F,G,H⟩:=FX T;obtain⟨z,B,C,D⟩:=FX Z;have bf:=Yh (Aj af.o (fun k l=>R.block k (af.o.lt k l).2));have m:=Yh R;have bc:=Yh T;have be:=Yh Z;have bx:w.heap.size+1+1+1<w1.heap.size:=Yo
 clear ay q R T Z az
 go_wp2_with (at_builtin;go_loud (refine Al w1 rfl (.tmp 38) (.tmp 40) 47 rfl ac.heap.size 9 infoStr underlying47 rfl Yd (slice ha A.length d) A.length (Ba A) rfl bf.o #[string ⟨X.toArray⟩] rfl Ys rfl (by simp[Value.oneCell']) ?_ ?_ ?_))
 ·omega
 ·omega
 intro cc w2 c;obtain⟨r,x,rfl⟩:=Ab c.owns;have b1:=c.kept.size;have V:∀j,w.heap.size<=j->¬Ak (slice ha A.length d) j:=fun j b e=>by have:=(ae.o _ e).2;omega
 have a2:=(c.kept.block _ Yo (V _ Yo)).trans bc.o;have a4:=(c.kept.block _ Yo (V _ Yo)).trans be.o;clear E F G H z B C D;obtain⟨E,F,G,H⟩:=FX a2;obtain⟨z,B,C,D⟩:=FX a4;have bj:w.heap.size+1+1+1<w2.heap.size:=Yo
 have ba:YH (∀w',Ad (fun k=>w.heap.size+1+1<=k/\k<=w.heap.size+1+1+1) w2 w'->∃ab,(Ending.returned (agg #[int i64 ((p:Int)+1),.bool false,slice r (A.length+1) x]))=returned (agg #[int i64 ((p+1:Nat):Int),.bool false,ab])/\Ad (Ak (slice ha A.length d)) w w'/\w'.ownsRow ac.heap.size 9 1 ab (A++[X]).length (Ba (A++[X]))/\(A++[X]).length<=p+1/\p+1<=s.size/\∀k,ab.ownBlock=some k->(Value.slice ha A.length d).ownBlock=some k\/w.heap.size<=k):=fun w' l=>by
  have a7:∀k,(Value.slice r (A.length+1) x).ownBlock=some k->(Value.slice ha A.length d).ownBlock=some k\/w1.heap.size<=k:=fun k b=>by
   rcases c.where_ with e|⟨g,e,M⟩
   ·rw[e]at b;exact QG b
   ·rw[e]at b;simp at b;subst b;exact QO M
  refine⟨slice r (A.length+1) x,by rw[show((p+1:Nat):Int)=(p:Int)+1 by omega],?_,?_,by simp;omega,Yo,fun k b=> ?_⟩
  ·have bg:Ad (Ak (slice ha A.length d)) w w1:=⟨m.o.os,m.o.tape,m.o.output,m.o.size,fun k l _=>m.o.block k l⟩;exact(bg.trans c.kept).then l (fun i hi h=>by omega)
  ·have am:w2.ownsRow ac.heap.size 9 1 (slice r (A.length+1) x) (A++[X]).length (Ba (A++[X])):=by simpa[Ba]using c.owns
   refine Aj am (fun k b=>l.block k (am.lt k b).2 (fun h=> ?_));rcases a7 k b with e|e
   ·have:=(ae.o _ e).2;omega
   ·omega
  ·rcases a7 k b with e|e
   ·exact QG e
   ·exact QO Yo
 clear c a2 a4 V;go_wp2;refine Jb (v:=agg #[int i64 ((p:Int)+1),.bool false,slice r (A.length+1) x]) (by simp[results,results121,go_sem,z,B,C,D,E,F,G,H,bj]) rfl ?_;exact ba.o _ Mst
structure GK(w0 w wr:World)(cs:List Db)(a:List (List BJ)×At)(s:ByteArray)(n:ND)(hv:Value)(aa:Option Addr)(acap:Nat)(na:Option Addr)(ncap:Nat)(m0 m1 m2 m3 m4:Value)(k p:Nat)(A:List (List UInt8))(ha:Option Addr)(hc:Nat):Prop where
 kept:Ad (Ak hv) w wr
 ext:Ao w0 wr
 q:wr.heap[w.heap.size]?=some (.cells #[.slice aa a.1.length acap,.slice na a.2.length ncap] 148 (0,0))
 nd:wr.heap[w.heap.size+1]?=some (.cells #[m0,m1,m2,m3,m4] 152 (0,0))
 h:wr.heap[w.heap.size+1+1]?=some (.cells #[.int .i64 p,.bool false,.slice ha A.length hc] 206 (0,0))
 r:wr.heap[w.heap.size+1+1+1]?=some (.cells #[.int .i64 0,.bool false,.slice none 0 0] 206 (0,0))
 node:BC (fun _=>False) wr m0 m1 m2 m3 m4 n
 row:wr.ownsRow w0.heap.size 9 1 (.slice ha A.length hc) A.length (Ba A)
 new:∀j,(Value.slice ha A.length hc).ownBlock=some j->hv.ownBlock=some j\/w.heap.size+4<=j
 le:A.length<=p
 lt:p<=s.size
theorem GK.ext'{n:ND}{f:Value}{aa:Oa}{c:Nat}{na:Oa}{u:Nat}{g l m o t:Value}{A:List (Lu)}{ha:Oa}{d:Nat}(h:GK w0 w wr cs a s n f aa c na u g l m o t k p A ha d)(b:Ao wr w')(v:Nat):GK w0 w w' cs a s n f aa c na u g l m o t v p A ha d:=
 ⟨h.kept.then (Ad.of_below b) (fun i hi e=>by have:=h.kept.size;omega),h.ext.trans (b.mono h.ext.size),(b.block _ (Ac h.q)).trans h.q,(b.block _ (Ac h.nd)).trans h.nd,(b.block _ (Ac h.h)).trans h.h,(b.block _ (Ac h.r)).trans h.r,h.node.ext b (fun _ _ h=>h),Aj h.row (fun j e=>b.block j (h.row.lt j e).2),h.new,h.le,h.lt⟩
theorem VD{n:Nat}(h:w.ownsRow B 9 1 v n xs):∀k,Ak v k->∃cl t fr,w.heap[k]?=some (.cells cl t fr)/\t≠183/\t≠200/\t≠3:=fun k a=>by
 rcases h.2 with⟨e,_⟩|⟨g,c,d,e,_,b,_⟩
 ·rw[Ak,e]at a;simp[Value.ownBlock]at a
 ·rw[Ak,e]at a;simp[Value.ownBlock]at a;subst a;exact⟨_,_,_,b,Yd,Yd,Yd⟩
theorem GK.fin{n:ND}{c:Value}{aa:Oa}{g:Nat}{na:Oa}{u:Nat}{m o q r t:Value}{A:List (Lu)}{ha:Oa}{d:Nat}(h:GK w0 w wr cs a s n c aa g na u m o q r t k p A ha d)(l:∀j,c.ownBlock=some j->w0.heap.size<=j/\j<w.heap.size)(f:Ad (fun j=>w.heap.size+1+1<=j/\j<=w.heap.size+1+1+1) wr w'):Ad (Ak c) w w'/\w'.ownsRow w0.heap.size 9 1 (slice ha A.length d) A.length (Ba A)/\∀j,(Value.slice ha A.length d).ownBlock=some j->c.ownBlock=some j\/w.heap.size<=j:=
 ⟨h.kept.then f (fun i hi b=>by omega),Aj h.row (fun j b=>f.block j (h.row.lt j b).2 (fun v=>by
  rcases h.new j b with e|e
  ·have:=(l j e).2;omega
  ·omega)),fun j b=>by
  rcases h.new j b with e|e
  ·exact QG e
  ·exact QO Yo⟩
set_option maxHeartbeats 8000000 in
theorem UV(cs:Lc)(c1:∀c∈cs,KR c/\Ry c)(eh:cs.length<=24)(a:Ll×At)(s:ByteArray)(de:s.size<=20000)(n:ND)(p:Nat)(A:List (Lu))(d:HN)(m:s.data.toList[p]?=some 40)(b8:n.goals≠[])(cy:II (E5 cs a s) cs s.data.toList n cs.length 0 (p+1) A d):E5 cs a s n p A d:=by
 intro C w ff fq nv xs fg fh fi fj fk e8 b4 bq b5 bt ep bd e2;have em:p<s.size:=by
  have:p<s.data.toList.length:=(Qa.1 m).1;simpa using this
 obtain⟨ag,ah,ai,ak,aj,al,an,am,ao,aq,ap,ar,rfl,rfl,rfl,rfl,rfl⟩:=bt.len;obtain⟨la,fe,rfl⟩:=Ab b4.owns;obtain⟨e1,cv⟩:=bq.atoms;obtain⟨aa,a3,rfl⟩:=Ab cv.1;obtain⟨na,a7,rfl⟩:=Ab bq.names;obtain⟨ha,x,rfl⟩:=Ab bd;have fc:((s[p].toNat:Int)==33)=false:=by
  rw[FO em]at m;simp at m;rw[m];rfl
 obtain⟨G,cx⟩:=Ex n.goals.length;have fd:((G:Int)==0)=false:=by
  rw[Qu];have:n.goals.length≠0:=fun h=>b8 (QS h);omega
 rw[<-cx]at bt⊢;obtain⟨P,b6⟩:=Ex ((((w.alloc (.cells #[slice aa a.1.length a3,slice na a.2.length a7] 148)).alloc (.cells #[slice ag G ah,slice ai ak aj,slice al an am,slice ao aq ap,int i64 ar] 152)).alloc (.cells #[int i64 p,.bool false,slice ha A.length x] 206)).alloc (.cells #[int i64 0,.bool false,Nl] 206));obtain⟨en,ac,bx,bv,cd,br⟩:=Wd w (.cells #[slice aa a.1.length a3,slice na a.2.length a7] 148) (.cells #[slice ag G ah,slice ai ak aj,slice al an am,slice ao aq ap,int i64 ar] 152) (.cells #[int i64 p,.bool false,slice ha A.length x] 206) (.cells #[int i64 0,.bool false,Nl] 206);rw[<-b6]at en ac bx bv cd br;obtain⟨q0,bl,bm⟩:=Gs ac;obtain⟨bf,bg,bh,bi,bj,bk⟩:=C0 bx;obtain⟨L,M,N,O⟩:=FX bv;have ef:=b5.size;have cr:YH (∀nq,GK C w ((P.drewN nq).setCell ⟨w.heap.size+1+1,0,none⟩ (int i64 ((p+1:Nat):Int))) cs a s n (slice ha A.length x) aa a3 na a7 (slice ag G ah) (slice ai ak aj) (slice al an am) (slice ao aq ap) (int i64 ar) 0 (p+1) A ha x):=fun nq=>by
  have a9:Ao w (P.drewN nq):=br.trans ((Ao.of ((Ad.refl _ P).drewN nq)).mono br.size);have aw:Ad (only (w.heap.size+1+1)) (P.drewN nq) ((P.drewN nq).setCell ⟨w.heap.size+1+1,0,none⟩ (int i64 ((p+1:Nat):Int))):=(Ad.refl _ _).put 0 _;have W:Ao w ((P.drewN nq).setCell ⟨w.heap.size+1+1,0,none⟩ (int i64 ((p+1:Nat):Int))):=a9.trans (aw.below a9.size (fun j b=>by have:j=w.heap.size+1+1:=b;omega));have blk:∀(j:Nat)(o:Obj),j≠w.heap.size+1+1->P.heap[j]?=some o->((P.drewN nq).setCell ⟨w.heap.size+1+1,0,none⟩ (int i64 ((p+1:Nat):Int))).heap[j]?=some o:=fun j o b ab=>(aw.block j (by show j<P.heap.size;exact(JZ.1 ab).1) b).trans ab;exact⟨⟨W.os,W.tape,W.output,W.size,fun j b _=>W.block j b⟩,b5.trans (W.mono ef),blk _ _ Yo ac,blk _ _ Yo bx,Ae (w:=P.drewN nq) bv 0 _,blk _ _ Yo cd,bt.ext W (fun _ _ h=>h),Aj bd (fun j b=>W.block j (bd.lt j b).2),fun j b=>QG b,Yo,Yo⟩
 have di:=Yh cy;have cj:=Yh b4;have dh:=Yh bq;have dj:=Yh b6;have dk:=Yh c1;have dl:=Yh b8;have bo:=Yh bd.lt;clear m b8 b4 bq cv b5 bt bd cx cy c1 b6 ac bx bv cd br;go_enter func121,ntmps121;go_wp2_with fail;rw[<-dj.o];go_quiet (fail);go_wp2;have cf:=cr.o nq;rw[show((p+1:Nat):Int)=(p:Int)+1 by omega]at cf;have ct:=Yh cf;clear cf cr
 go_loopg [12] (cs.length+1) (fun gk ew wr=>∃(k p':Nat)(g:List (Lu))(y:Oa)(z:Nat),ew=int i64 k/\k<=cs.length/\cs.length-k<gk/\GK C w wr cs a s n (slice ha A.length x) aa a3 na a7 (slice ag G ah) (slice ai ak aj) (slice al an am) (slice ao aq ap) (int i64 ar) k p' g y z/\II (E5 cs a s) cs s.data.toList n (cs.length-k) k p' g d)
 case atStart=>exact⟨0,p+1,A,ha,x,Yg,Yo,Yo,ct.o,di.o⟩
 case round=>
  clear q0 bl bm bf bg bh bi bj bk L M N O ct;obtain⟨k,p',g,y,z,rfl,aw,e3,X,Z⟩:=hrel;obtain⟨q0,bl,bm⟩:=Gs X.q;obtain⟨bf,bg,bh,bi,bj,bk⟩:=C0 X.nd;obtain⟨L,M,N,O⟩:=FX X.h;obtain⟨R,S,T,U⟩:=FX X.r;have E:=Ac X.r;have a2:=Yh X;have cm:=Yh Z;have e6:=X.lt;clear X Z;have bp:YH (∀u w',GK C w u cs a s n (slice ha A.length x) aa a3 na a7 (slice ag G ah) (slice ai ak aj) (slice al an am) (slice ao aq ap) (int i64 ar) k p' g y z->d=⟨p',true,g⟩->Ad (fun j=>w.heap.size+1+1<=j/\j<=w.heap.size+1+1+1) u w'->∃D,(Ending.returned (agg #[int i64 p',.bool true,slice y g.length z]))=returned (agg #[int i64 d.at',.bool d.wrong,D])/\Ad (Ak (slice ha A.length x)) w w'/\w'.ownsRow C.heap.size 9 1 D d.ans.length (Ba d.ans)/\d.ans.length<=d.at'/\d.at'<=s.size/\∀j,D.ownBlock=some j->(Value.slice ha A.length x).ownBlock=some j\/w.heap.size<=j):=fun u w' a5 I aw=>by
   obtain⟨ad,ae,af⟩:=a5.fin bo.o aw;rw[I];exact⟨_,rfl,ad,ae,a5.le,a5.lt,af⟩
  have dw:YH (∀u w',GK C w u cs a s n (slice ha A.length x) aa a3 na a7 (slice ag G ah) (slice ai ak aj) (slice al an am) (slice ao aq ap) (int i64 ar) k p' g y z->d=⟨p'+1,false,g⟩->p'<s.size->Ad (fun j=>w.heap.size+1+1<=j/\j<=w.heap.size+1+1+1) u w'->∃D,(Ending.returned (agg #[int i64 ((p':Int)+1),.bool false,slice y g.length z]))=returned (agg #[int i64 d.at',.bool d.wrong,D])/\Ad (Ak (slice ha A.length x)) w w'/\w'.ownsRow C.heap.size 9 1 D d.ans.length (Ba d.ans)/\d.ans.length<=d.at'/\d.at'<=s.size/\∀j,D.ownBlock=some j->(Value.slice ha A.length x).ownBlock=some j\/w.heap.size<=j):=fun u w' a5 I bc aw=>by
   obtain⟨ad,ae,af⟩:=a5.fin bo.o aw;rw[I];have e4:=a5.le;refine⟨slice y g.length z,?_,ad,ae,?_,?_,af⟩
   ·simp only;rw[show((p'+1:Nat):Int)=(p':Int)+1 by omega]
   ·simp only;omega
   ·simp only;omega
  by_cases e5:k<cs.length
  ·obtain⟨f,ei⟩:∃f,cs.length-k=f+1:=⟨cs.length-k-1,Yo⟩;have Z:=cm.o;rw[ei]at Z;obtain⟨c,m,c0⟩:=Z;have cn:=Yh (I1 wr (fun _=>False) _ cs xs _ _ _ _ _ n k c (cj.o.ext (Y:=fun _=>False) a2.o.ext (fun _ _ h=>h)) dk.o eh a2.o.node (fun _ h=>h.elim) m dl.o);have bn:=Yh c0;clear m c0;go_wp2_with fail;apply cn.o.mono;rintro e w1 ⟨fs,rfl,a9,fl,fm,fn,fo,fp,q,rfl,eo,a0,c3⟩;obtain⟨dy,d0,dz,d1,d3,d2,d4,d6,d5,d7,d9,d8,ea,c8⟩:=eo;simp only[Value.agg.injEq,Array.mk.injEq,QI,and_true]at c8;obtain⟨rfl,rfl,rfl,rfl,rfl⟩:=c8;have au:=a2.o.ext' a9 k;clear q0 bl bm bf bg bh bi bj bk L M N O R S T U E cn;obtain⟨q0,bl,bm⟩:=Gs au.q;obtain⟨bf,bg,bh,bi,bj,bk⟩:=C0 au.nd;obtain⟨L,M,N,O⟩:=FX au.h;obtain⟨R,S,T,U⟩:=FX au.r;have E:=Ac au.r;have ca:w.heap.size+1+1<w1.heap.size:=Yo
   have c7:w.heap.size+1<w1.heap.size:=Yo
   have db:w.heap.size<w1.heap.size:=Yo
   have l:=Yh au;have dp:=Yh c3;have e0:=Yh a0;clear a9 au c3;rcases bn.o with⟨h0,c6⟩|⟨el,a6,I⟩|⟨b3,be,D,dx,bu,dd⟩
   ·have ac:q=0:=by rw[a0,h0]
    subst ac;have dr:=Yh c6;clear bn h0 c6 a0;go_wp2
    go_roundg (cs.length-k)
    case measure=>omega
    case rel=>exact⟨k+1,p',g,y,z,Yg,Yo,Yo,l.o.ext' Mxt (k+1),by rw[show cs.length-(k+1)=f by omega];exact dr.o⟩
   ·obtain⟨v,F,ay⟩:∃v F,As (s.data.toList.drop p')=(v,F):=⟨_,_,rfl⟩;have az:=fun u=>FT s p' u Yo Yo;rw[ay]at az a6;simp only at a6;have a8:=Yh az;have V:=Yh I;have be:=Cd (s.data.toList.drop p');rw[ay]at be;simp only at be;rw[<-a0]at el a6;have ac:((q:Int)==0)=false:=by rw[Qu];omega
    clear bn I ay az a0
    by_cases hz:F=0
    ·subst hz;clear a6;go_wp2_with fail;apply(a8.o _).mono;rintro e w2 ⟨rfl,rfl⟩;go_wp2;refine Jb (v:=agg #[int i64 p',.bool true,slice y g.length z]) (by simp[results,results121,go_sem,R,S,T,U,L,M,N,O,E]) rfl ?_;exact bp.o _ _ l.o V.o Mst
    ·have eq:((F:Int)==0)=false:=by rw[Qu];omega
     by_cases df:v=k
     ·have c9:q=3:=Yo
      subst c9;subst df;clear a6 hz;go_wp2_with fail;apply(a8.o _).mono;rintro e w2 ⟨rfl,rfl⟩;go_wp2;refine Jb (v:=agg #[int i64 p',.bool true,slice y g.length z]) (by simp[results,results121,go_sem,R,S,T,U,L,M,N,O,E]) rfl ?_;exact bp.o _ _ l.o V.o Mst
     ·have e9:((v:Int) !=(k:Int))=true:=by rw[QR];omega
      clear a6 hz df;go_wp2_with fail;apply(a8.o _).mono;rintro e w2 ⟨rfl,rfl⟩;go_wp2;refine Jb (v:=agg #[int i64 p',.bool true,slice y g.length z]) (by simp[results,results121,go_sem,R,S,T,U,L,M,N,O,E]) rfl ?_;exact bp.o _ _ l.o V.o Mst
   ·have ek:q=1\/q=2:=by rw[a0];exact b3
    have ac:((q:Int)==0)=false:=by rw[Qu];omega
    have c9:((q:Int)==3)=false:=by rw[Qu];omega
    obtain⟨a4,ez,B⟩:=dx;obtain⟨F,hz⟩:=Ex ((As (s.data.toList.drop p')).2);have ay:As (s.data.toList.drop p')=(k,F):=by rw[hz,<-D]
    have az:=fun u=>FT s p' u Yo Yo;have b1:=Cd (s.data.toList.drop p');rw[ay]at az b1;rw[ay]at bu;simp only at b1 bu;have fb:F<=2:=b1.2.1;have er:F≠0:=by rw[hz];exact be
    have eq:((F:Int)==0)=false:=by rw[Qu];omega
    obtain⟨H,ba⟩:=Ex ((w1.setCell ⟨w.heap.size+1+1,0,none⟩ (int i64 ((p':Int)+F))).alloc (.cells #[slice dy d0 dz,slice d1 d3 d2,slice d4 d6 d5,slice d7 d9 d8,int i64 ea] 152));have Q:Ad (only (w.heap.size+1+1)) w1 H:=by rw[ba];exact((Ad.refl _ _).put 0 _).alloc _
    have e7:H.heap.size=w1.heap.size+1:=by rw[ba];simp
    have b9:H.heap[w.heap.size+1+1]?=some (.cells #[int i64 ((p':Int)+F),.bool false,slice y g.length z] 206 (0,0)):=by rw[ba];exact Ah (Ae l.o.h 0 _) _
    have ch:∀j,only (w.heap.size+1+1) j->∃cl t fr,w1.heap[j]?=some (.cells cl t fr)/\t≠183/\t≠200/\t≠3:=fun j b=>by
     have b:j=w.heap.size+1+1:=b;subst b;exact⟨_,_,_,l.o.h,Yd,Yd,Yd⟩
    have bs:Ao C H:=l.o.ext.trans (Q.below l.o.ext.size (fun j b=>by have:j=w.heap.size+1+1:=b;omega));have cg:∀j,(Value.slice y g.length z).ownBlock=some j->j<w.heap.size\/w.heap.size+4<=j:=fun j b=>by
     rcases l.o.new j b with e|e
     ·exact QG (bo.o j e).2
     ·exact QO e
    have b0:H.ownsRow C.heap.size 9 1 (slice y g.length z) g.length (Ba g):=Aj l.o.row (fun j b=>Q.block j (l.o.row.lt j b).2 (fun e=>by
     have e:j=w.heap.size+1+1:=e;rcases cg j b with h|h<;>omega))
    have ce:=bu C H _ _ _ xs _ _ _ _ _ (slice y g.length z) cj.o dh.o bs ((dp.o ek).keep Q ch) (by rw[F9 b3];exact ep) b0 (by have:=l.o.le;omega);rw[show((p'+F:Nat):Int)=(p':Int)+F by omega]at ce;have ck:=Yh ce;have ci:YH (∀w3 J K,Ad (Ak (slice y g.length z)) H w3->w3.ownsRow C.heap.size 9 1 (slice J B.length K) B.length (Ba B)->(∀j,(Value.slice J B.length K).ownBlock=some j->(Value.slice y g.length z).ownBlock=some j\/H.heap.size<=j)->
      (∀j o,w.heap.size<=j->j<=w.heap.size+1+1+1->H.heap[j]?=some o->w3.heap[j]?=some o)/\∀w',Ad (fun j=>w.heap.size+1+1<=j/\j<=w.heap.size+1+1+1) w3 w'->Ad (Ak (slice ha A.length x)) w w'/\Ao C w'/\w'.ownsRow C.heap.size 9 1 (slice J B.length K) B.length (Ba B)/\(∀j,(Value.slice J B.length K).ownBlock=some j->(Value.slice ha A.length x).ownBlock=some j\/w.heap.size+4<=j)/\BC (fun _=>False) w' (slice ag G ah) (slice ai ak aj) (slice al an am) (slice ao aq ap) (int i64 ar) n/\(∀j o,w.heap.size<=j->j<=w.heap.size+1->H.heap[j]?=some o->w'.heap[j]?=some o)):=fun w3 J K av a1 bb=>by
     have blk:∀j o,w.heap.size<=j->j<=w.heap.size+1+1+1->H.heap[j]?=some o->w3.heap[j]?=some o:=fun j o b2 ed ab=>(av.block j (JZ.1 ab).1 (fun e=>by rcases cg j e with h|h<;>omega)).trans ab;refine⟨blk,fun w' ax=> ?_⟩;have dg:∀j,(Value.slice J B.length K).ownBlock=some j->(Value.slice ha A.length x).ownBlock=some j\/w.heap.size+4<=j:=fun j b=>by
      rcases bb j b with e|e
      ·exact l.o.new j e
      ·exact QO Yo
     have es:Ad (Ak (slice ha A.length x)) w H:=l.o.kept.then Q (fun i hi b=>by have:i=w.heap.size+1+1:=b;omega)
     have et:Ad (Ak (slice ha A.length x)) w w3:=es.then av (fun i hi b=>by
      rcases l.o.new i b with e|e
      ·exact e
      ·omega)
     have eu:Ad (Ak (slice ha A.length x)) w w':=et.then ax (fun i hi b=>by omega)
     have cw:Ao C w3:=bs.trans (av.below bs.size (fun j b=>(b0.lt j b).1));have eg:Ao C w':=cw.trans (ax.below cw.size (fun j b=>by omega));have ex:=(l.o.node.keep Q ch).keep av (VD b0);have ey:=ex.keep ax (fun j b=>by
      have ej:j=w.heap.size+1+1\/j=w.heap.size+1+1+1:=Yo
      rcases ej with rfl|rfl
      ·exact⟨_,_,_,blk _ _ Yo Yo b9,Yd,Yd,Yd⟩
      ·exact⟨_,_,_,blk _ _ Yo Yo ((Q.block _ E (fun e=>by have:w.heap.size+1+1+1=w.heap.size+1+1:=e;omega)).trans l.o.r),Yd,Yd,Yd⟩)
     refine⟨eu,eg,Aj a1 (fun j b=>ax.block j (a1.lt j b).2 (fun de=>by
      rcases dg j b with e|e
      ·have:=(bo.o j e).2;omega
      ·omega)),dg,ey,fun j o b2 ed ab=>(ax.block j (JZ.1 (blk j o b2 Yo ab)).1 (fun de=>by omega)).trans (blk j o b2 Yo ab)⟩
    have dc:=(Q.block _ E (fun e=>by have:w.heap.size+1+1+1=w.heap.size+1+1:=e;omega)).trans l.o.r;have da:=(Q.block _ db (fun e=>by have:w.heap.size=w.heap.size+1+1:=e;omega)).trans l.o.q;have c5:=(Q.block _ c7 (fun e=>by have:w.heap.size+1=w.heap.size+1+1:=e;omega)).trans l.o.nd;have dn:=Yh b9;have dv:=Yh dc;have dt:=Yh da;have dq:=Yh c5;have co:=Yh ba;have a8:=Yh az;have cq:=Yh dd;clear bn a0 b3 be D bu dd hz ay az b1 er ba Q b9 ch bs cg b0 ce dc da c5;go_wp2_with fail;apply(a8.o _).mono;rintro e w2 ⟨rfl,rfl⟩;go_wp2_with fail;rw[<-co.o];apply ck.o.mono;rintro e w3 ⟨fa,rfl,av,a1,cb,cc,bb⟩;obtain⟨J,K,rfl⟩:=Ab a1
    try simp only at a1 cb cc bb
    obtain⟨blk,cz⟩:=ci.o w3 J K av a1 bb;have bw:=blk _ _ Yo Yo dn.o;have bz:=blk _ _ Yo Yo dv.o;clear L M N O R S T U q0 bl bm bf bg bh bi bj bk E ca c7 db;obtain⟨L,M,N,O⟩:=FX bw;obtain⟨R,S,T,U⟩:=FX bz;have E:=Ac bz;have ca:=Ac bw;have cp:=Yh cz;have dm:=Yh bw;have du:=Yh bz;clear blk cz av a1 bb bw bz ci ck co a2 l
    cases ez with
    |true=>
     have V:YH (d=⟨a4,true,B⟩):=by
      rcases cq.o with⟨_,h⟩|⟨h,_⟩
      ·exact h
      ·simp at h
     go_wp2;refine Jb (v:=agg #[int i64 a4,.bool true,slice J B.length K]) (by simp[results,results121,go_sem,R,S,T,U,L,M,N,O,E,ca]) rfl ?_;refine(fun(hb:∀w',Ad (fun j=>w.heap.size+1+1<=j/\j<=w.heap.size+1+1+1) w3 w'->∃D,(Ending.returned (agg #[int i64 a4,.bool true,slice J B.length K]))=returned (agg #[int i64 d.at',.bool d.wrong,D])/\Ad (Ak (slice ha A.length x)) w w'/\w'.ownsRow C.heap.size 9 1 D d.ans.length (Ba d.ans)/\d.ans.length<=d.at'/\d.at'<=s.size/\∀j,D.ownBlock=some j->(Value.slice ha A.length x).ownBlock=some j\/w.heap.size<=j)=>hb _ Mst) (fun w' ax=> ?_);obtain⟨ad,_,ae,af,_⟩:=cp.o w' ax;rw[V.o];exact⟨_,rfl,ad,ae,cb,cc,fun j b=>by rcases af j b with e|e;exact QG e;exact QO Yo⟩
    |false=>
     have ds:YH (II (E5 cs a s) cs s.data.toList n f (k+1) a4 B d):=by
      rcases cq.o with⟨h,_⟩|⟨_,h⟩
      ·simp at h
      ·exact h
     go_wp2
     go_roundg (cs.length-k)
     case measure=>omega
     case rel=>
      have c2:Ad (only (w.heap.size+1+1)) w3 (((w3.setCell ⟨w.heap.size+1+1,0,none⟩ (int i64 a4)).setCell ⟨w.heap.size+1+1,1,none⟩ (.bool false)).setCell ⟨w.heap.size+1+1,2,none⟩ (slice J B.length K)):=(((Ad.refl _ _).put 0 _).put 1 _).put 2 _;obtain⟨ad,eb,ae,af,ec,cu⟩:=cp.o _ (c2.mono (fun i _ hi=>by have:i=w.heap.size+1+1:=hi;omega));exact⟨k+1,a4,B,J,K,Yg,Yo,Yo,⟨ad,eb,cu _ _ Yo Yo dt.o,cu _ _ Yo Yo dq.o,Ae (Ae (Ae dm.o 0 _) 1 _) 2 _,(c2.block _ E (fun e=>by have:w.heap.size+1+1+1=w.heap.size+1+1:=e;omega)).trans du.o,ec,ae,af,cb,cc⟩,by rw[show cs.length-(k+1)=f by omega];exact ds.o⟩
  ·have b7:k=cs.length:=Yo
   have Z:=cm.o;rw[b7,Nat.sub_self]at Z;rcases Z with⟨m,I⟩|⟨c,m,c4,I⟩
   ·have bc:p'<s.size:=by
     have:p'<s.data.toList.length:=(Qa.1 m).1;simpa using this
    have ev:((s[p'].toNat:Int) !=41)=false:=by
     rw[FO bc]at m;simp at m;rw[m];rfl
    have V:=Yh I;clear m I b7;go_wp2;refine Jb (v:=agg #[int i64 ((p':Int)+1),.bool false,slice y g.length z]) (by simp[results,results121,go_sem,R,S,T,U,L,M,N,O,E]) rfl ?_;refine dw.o _ _ a2.o V.o bc Mst
   ·have bc:p'<s.size:=by
     have:p'<s.data.toList.length:=(Qa.1 m).1;simpa using this
    have ev:((s[p'].toNat:Int) !=41)=true:=by
     rw[FO bc]at m;simp at m;have ee:s[p']≠41:=by rw[m];exact c4
     rw[QR];exact KF ee
    have V:=Yh I;clear m I b7 c4;go_wp2;refine Jb (v:=agg #[int i64 p',.bool true,slice y g.length z]) (by simp[results,results121,go_sem,R,S,T,U,L,M,N,O,E]) rfl ?_;exact bp.o _ _ a2.o V.o Mst
theorem OX(cs:Lc)(k:∀c∈cs,KR c/\Ry c)(j:cs.length<=24)(a:Ll×At)(g:a.2.length<=121)(i:∀y∈a.2,y.length<=4096)(s:ByteArray)(f:s.size<=20000){n:ND}{p:Nat}{A:List (Lu)}{e:HN}(h:EE cs a.2 s.data.toList n p A e):E5 cs a s n p A e:=
 h.ind (P:=E5 cs a s) (fun n p A b d=>Ur cs a s f g i n p A b d) (fun n p A b d=>Pf cs a s f n p A (QG ⟨b,d⟩)) (fun n p A b d=>Pf cs a s f n p A (QO ⟨b,d⟩)) (fun n p A e b d l=>UV cs k j a s f n p A e b d l)
open Classical in
noncomputable def Hl(cs:List Db)(a:List (List BJ)×At)(l:List UInt8):HN:=if h:∃R,EE cs a.2 l (AN a) 0 [] R then Classical.choose h else⟨0,true,[]⟩
theorem LC(cs:Lc)(a:Ll×At){l:Lu}(h:DJ l=none):EE cs a.2 l (AN a) 0 [] (Hl cs a l):=by
 obtain⟨b,d,_⟩:=Xp cs a.2 l l.length (AN a) 0 0 [] Yo (Sh.start h);have c:∃b,EE cs a.2 l (AN a) 0 [] b:=⟨b,d⟩;unfold Hl;rw[dif_pos c];exact Classical.choose_spec c
noncomputable def CA(p q t:ByteArray):List (Lu)×Nat×Nat:=
 match Bz p with
 |none=>([],4,0)
 |some cs=>match Cn q with
  |none=>([],5,0)
  |some a=>if 20000<t.size then([],1,0)else match DJ t.data.toList with
   |some pl=>([],6,pl)
   |none=>if(Hl cs a t.data.toList).wrong=true then([],7,(Hl cs a t.data.toList).at')else((Hl cs a t.data.toList).ans,0,0)
def Hh(p q t:ByteArray)(w:World)(e:Ending)(w':World):Prop:=Ao w w'/\∃va vc,e= .returned (.tuple #[.slice va (CA p q t).1.length vc,.int .i64 (CA p q t).2.1,.int .i64 (CA p q t).2.2])/\w'.ownsRow w.heap.size 9 1 (.slice va (CA p q t).1.length vc) (CA p q t).1.length (Ba (CA p q t).1)
theorem Fu{p q t:ByteArray}{a b:Nat}(h:CA p q t=([],a,b))(c:Ao w w'):Hh p q t w (Rq #[Nl,int i64 a,int i64 b]) w':=by
 refine⟨c,none,0,?_,?_⟩
 ·rw[h];rfl
 ·rw[h];exact Q2 _ _ _ _
theorem Ti(p q t:ByteArray)(w:World)(ac:p.size<=maxLen)(ad:q.size<=maxLen)(bd:t.size<=maxLen):Calls prog 93 #[string p,string q,string t] w (Hh p q t w):=by
 have aj:=Yh (fun u=>HH p q u ac ad);unfold maxLen at bd;clear ac ad;go_enter func93,ntmps93;go_wp2_with fail;apply(aj.o _).mono;rintro e w1 ⟨I,a5⟩;have G:=Yh I;have bb:=I.size;clear I;have x:YH (∀o,Ao w (w1.alloc o)):=fun o=>G.o.trans ((Mxt:Ao w1 (w1.alloc o)).mono bb);rcases a5 with⟨r,rfl⟩|⟨⟨cs,c⟩,r,rfl⟩|⟨cs,a,br,av,nv,xs,c,i,rfl,s,f⟩
 ·have b:YH (CA p q t=([],4,0)):=by show _=_;simp[CA,r]
  clear r;go_wp2;go_ret3;exact Fu b.o (x.o _)
 ·have b:YH (CA p q t=([],5,0)):=by show _=_;simp[CA,r,c]
  clear r c;go_wp2;go_ret3;exact Fu b.o (x.o _)
 ·obtain⟨U,z⟩:=f.atoms;obtain⟨la,bq,rfl⟩:=Ab s.owns;obtain⟨aa,ap,rfl⟩:=Ab z.1;obtain⟨na,ag,rfl⟩:=Ab f.names;obtain⟨_,_,_,F,a9⟩:=Cv c;obtain⟨_,_,_,D,C,a8,bk,ab,E⟩:=Cq i
  by_cases n:20000<t.size
  ·have b:YH (CA p q t=([],1,0)):=by show _=_;simp[CA,c,i,n]
   have be:(20000:Int)<(t.size:Int):=Yo
   clear s f z F D C c i E n;go_wp2;go_ret3;exact Fu b.o (x.o _)
  ·have be:¬(20000:Int)<(t.size:Int):=Yo
   have l:=Yh (fun u=>Ov t u Yo)
   cases j:DJ t.data.toList with
   |some ah=>
    have b:YH (CA p q t=([],6,ah)):=by show _=_;simp[CA,c,i,n,j]
    rw[j]at l;simp only[Tj]at l;have bo:(0:Int)<=(ah:Int):=Yo
    clear s f z F D C c i E n j;go_wp2_with fail;apply(l.o _).mono;rintro e w2 ⟨rfl,rfl⟩;go_wp2;go_ret3;exact Fu b.o (x.o _)
   |none=>
    rw[j]at l;simp only[Tj]at l;obtain⟨d,M⟩:=Ex (Hl cs a t.data.toList);have L:=LC cs a j;rw[<-M]at L;have b:YH (CA p q t=if d.wrong=true then([],7,d.at')else(d.ans,0,0)):=by show _=_;simp[CA,c,i,n,j,M]
    have T:=Yh (OX cs F a9 a ab (fun y bg=>Qq (E y bg) Yo) t Yo L);have R:=Yh (fun u (bf:Ao w1 u)=>by
     obtain⟨U,g⟩:=(f.ext bf).atoms;exact I0 u (X:=fun _=>False) (fun _ h=>h.elim) _ (slice na a.2.length ag) a U g ⟨_,_,rfl⟩ D C a8 ab)
    have ao:=Yh s;have ai:=Yh f;clear s f z F D C c i E n j L M;go_wp2_with fail;apply(l.o _).mono;rintro e w2 ⟨rfl,rfl⟩;go_wp2_with fail;apply(R.o _ Mxt).mono;rintro e w2 ⟨bs,bt,bu,bv,bw,rfl,B,O⟩;obtain⟨aq,ar,au,ax,aw,ay,a0,az,a1,a3,a2,a4,rfl,rfl,rfl,rfl,rfl⟩:=O.len;have bc:=B.size;simp at bc;have J:Ao w1 w2:=(Mxt:Ao w1 (w1.alloc _)).trans (B.mono Ys);have ae:w2.heap[w1.heap.size]?=some (.cells #[slice aa a.1.length ap,slice na a.2.length ag] 148 (0,0)):=(B.block _ Ys).trans (QL w1 _);obtain⟨q0,bx,bz⟩:=Gs ae;obtain⟨m,N⟩:=Ex (w2.alloc (.cells #[slice aq (AN a).goals.length ar,slice au ax aw,slice ay a0 az,slice a1 a3 a2,int i64 a4] 152));have K:Ao w2 m:=by rw[N];exact Mxt
    have A:Ao w1 m:=J.trans (K.mono J.size);have Y:Ao w m:=G.o.trans (A.mono G.o.size);have af:=T.o m m _ _ _ xs _ _ _ _ _ Nl (ao.o.ext A (fun _ _ h=>h)) (ai.o.ext A) (Ao.of (Ad.refl _ _)) (O.ext K (fun _ _ h=>h)) (by simp[AN]) (Q2 _ _ _ _) (Qe _);have ak:=Yh af;have al:=Yh N;have H:=Yh Y;have bn:w1.heap.size<w2.heap.size:=Yo
    clear B O J ae K A Y af N T R;go_wp2_with fail;rw[<-al.o];apply ak.o.mono;rintro e w4 ⟨bp,rfl,Z,P,bl,bm,_⟩;obtain⟨va,vc,rfl⟩:=Ab P;have V:Ao m w4:=Z.below (Qe _) (fun k e=>by simp[Ak,Value.ownBlock]at e);have v:=Yh (H.o.trans (V.mono H.o.size));have S:=Yh P;have a7:=H.o.size;have am:YH (∀o,d.wrong=false->Hh p q t w (Rq #[slice va d.ans.length vc,int i64 0,int i64 0]) (w4.alloc o)):=fun o Q=>by
     have e:CA p q t=(d.ans,0,0):=by rw[b.o,Q];rfl
     have W:Ao w4 (w4.alloc o):=Mxt;refine⟨v.o.trans (W.mono v.o.size),va,vc,by rw[e];rfl,?_⟩;rw[e];exact AI (Aj S.o (fun k ba=>W.block k (S.o.lt k ba).2)) a7
    have an:YH (∀w',Ao w4 w'->d.wrong=true->Hh p q t w (Rq #[Nl,int i64 7,int i64 d.at']) w'):=fun w' a6 Q=>Fu (by rw[b.o,Q];rfl) (v.o.trans (a6.mono v.o.size));clear Z P V;obtain⟨bj,bh,bi⟩:=d;simp only at*
    cases bh with
    |true=>
     go_wp2_with fail;go_quiet (fail);go_wp2;go_ret3;exact an.o _ Mxt Ys
    |false=>
     go_wp2;go_ret3;exact am.o _ Ys
noncomputable def D7(cs:Lc)(n:ND):Nat->Nat->Option (Nat×Db)
 |0,_=>none
 |f+1,k=>match cs[k]? with
  |none=>none
  |some c=>if(Ax n c k).2=0 then D7 cs n f (k+1)else some (k,c)
structure HM where
 ok:Bool
 at':Nat
 way:List (ND×Nat)
 ans:List (List UInt8)
def Cj(names:At)(l:Lu)(n:ND)(p:Nat)(way:Ln)(A:List (Lu)):HM:=
 if n.goals=[]then(if l[p]?=some 33 then⟨true,p+1,way,A++[AU names n]⟩else⟨false,p,way,A⟩)
 else if l[p]?=some 40 then⟨true,p+1,(n,0)::way,A⟩else⟨false,p,way,A⟩
noncomputable def LW(cs:Lc)(names:At)(l:Lu)(n:ND)(k p:Nat)(r:Ln)(A:List (Lu)):HM:=
 match D7 cs n (cs.length-k) k with
 |none=>if l[p]?=some 41 then⟨true,p+1,r,A⟩else⟨false,p,(n,cs.length)::r,A⟩
 |some (j,c)=>if(Ax n c j).2=3\/(As (l.drop p)).2=0\/(As (l.drop p)).1≠j then⟨false,p,(n,j+1)::r,A⟩else Cj names l (Ax n c j).1 (p+(As (l.drop p)).2) ((n,j+1)::r) A
inductive Kc (cs:List Db) (names:At) (l:List UInt8):Nat->List (ND×Nat)->List (List UInt8)->HN->Prop
 |done (p:Nat) (A:List (List UInt8)):Kc cs names l p [] A ⟨p,false,A⟩
 |wrong (n:ND) (k p:Nat) (r:List (ND×Nat)) (A:List (List UInt8)) (R:HN) (h:(LW cs names l n k p r A).ok=false) (hw:R.wrong=true) (ha:R.at'=(LW cs names l n k p r A).at'):Kc cs names l p ((n,k)::r) A R
 |step (n:ND) (k p:Nat) (r:List (ND×Nat)) (A:List (List UInt8)) (R:HN) (h:(LW cs names l n k p r A).ok=true) (hg:Kc cs names l (LW cs names l n k p r A).at' (LW cs names l n k p r A).way (LW cs names l n k p r A).ans R):Kc cs names l p ((n,k)::r) A R
def Kh(cs:Lc)(names:At)(l:Lu)(M:HM)(R:HN):Prop:=(M.ok=true->Kc cs names l M.at' M.way M.ans R)/\(M.ok=false->R.wrong=true/\R.at'=M.at')
theorem K2{names:At}{l:Lu}{n:ND}{A:List (Lu)}{b:HN}(h:Kh cs names l (LW cs names l n k p r A) b):Kc cs names l p ((n,k)::r) A b:=by
 cases a:(LW cs names l n k p r A).ok with
 |true=>exact .step n k p r A b a (h.1 a)
 |false=>exact .wrong n k p r A b a (h.2 a).1 (h.2 a).2
theorem TR{names:At}{l:Lu}{n:ND}{A:List (Lu)}{a:HN}(h:Kc cs names l p ((n,k)::r) A a):Kh cs names l (LW cs names l n k p r A) a:=by
 cases h with
 |wrong _ _ _ _ _ _ h c ha=>exact⟨fun e=>by rw[h]at e;simp at e,fun _=>⟨c,ha⟩⟩
 |step _ _ _ _ _ _ h b=>exact⟨fun _=>b,fun e=>by rw[h]at e;simp at e⟩
theorem V7{names:At}{l:Lu}{A:List (Lu)}{a:HN}(h:Kc cs names l p [] A a):a=⟨p,false,A⟩:=by
 cases h;rfl
theorem Vh{names:At}{l:Lu}{n:ND}{A:List (Lu)}(a:cs[k]?=some c)(b:(Ax n c k).2=0):LW cs names l n k p r A=LW cs names l n (k+1) p r A:=by
 have d:=(Qa.1 a).1;unfold LW;rw[show cs.length-k=(cs.length-(k+1))+1 by omega,D7,a];simp only[b,Ja]
theorem U3{names:At}{l:Lu}{n:ND}{A:List (Lu)}{b:HN}(h:EE cs names l n p A b):∀(way:Ln)(a:HN),(b.wrong=false->Kc cs names l b.at' way b.ans a)->(b.wrong=true->a.wrong=true/\a.at'=b.at')->Kh cs names l (Cj names l n p way A) a:=by
 refine EE.ind (P:=fun n p A b=>∀(way:Ln)(a:HN),(b.wrong=false->Kc cs names l b.at' way b.ans a)->(b.wrong=true->a.wrong=true/\a.at'=b.at')->Kh cs names l (Cj names l n p way A) a) ?_ ?_ ?_ ?_ h
 ·intro n p A d i way a q _;unfold Cj;rw[QQ i,QQ d];exact⟨fun _=>q rfl,fun e=>by simp at e⟩
 ·intro n p A d i way a _ g;unfold Cj;rw[QP i,QP (by rw[d];simp)];exact⟨fun e=>by simp at e,fun _=>g rfl⟩
 ·intro n p A d i way a _ g;unfold Cj;rw[QQ i,QP (by rw[d];simp)];exact⟨fun e=>by simp at e,fun _=>g rfl⟩
 ·intro n p A b d i w way a q g;unfold Cj;rw[QP i,QQ d];refine⟨fun _=> ?_,fun e=>by simp at e⟩;show Kc cs names l (p+1) ((n,0)::way) A a;have y:∀(f k p:Nat)(A:List (Lu)),f+k=cs.length->II (fun n p A b=>∀(way:Ln)(a:HN),(b.wrong=false->Kc cs names l b.at' way b.ans a)->(b.wrong=true->a.wrong=true/\a.at'=b.at')->Kh cs names l (Cj names l n p way A) a) cs l n f k p A b->Kc cs names l p ((n,k)::way) A a:=by
   intro f
   induction f with
   |zero=>
    intro k p A v m;refine K2 ?_;unfold LW;rw[show cs.length-k=0 by omega,D7];simp only;rcases m with⟨r,rfl⟩|⟨c,r,t,rfl⟩
    ·rw[QQ r];exact⟨fun _=>q rfl,fun e=>by simp at e⟩
    ·rw[QP (by rw[r];simpa using t)];exact⟨fun e=>by simp at e,fun _=>g rfl⟩
   |succ f s=>
    intro k p A v m;obtain⟨c,d,h⟩:=m;rcases h with⟨o,h⟩|⟨o,j,rfl⟩|⟨o,m,x,z,u,h⟩
    ·have:=TR (s (k+1) p A Yo h);rw[<-Vh d o]at this;exact K2 this
    ·refine K2 ?_;unfold LW;rw[show cs.length-k=f+1 by omega,D7,d];simp only;rw[QP o];simp only;rw[QQ (by rcases j with h|h|h<;>simp[h])];exact⟨fun e=>by simp at e,fun _=>g rfl⟩
    ·refine K2 ?_;unfold LW;rw[show cs.length-k=f+1 by omega,D7,d];simp only;rw[QP Yo];simp only;rw[QP (by rintro(h|h|h);omega;exact m h;exact h x)];refine u _ a (fun j=> ?_) (fun j=> ?_)
     ·rcases h with⟨h,_⟩|⟨_,h⟩
      ·rw[j]at h;simp at h
      ·exact s (k+1) _ _ Yo h
     ·rcases h with⟨_,rfl⟩|⟨h,_⟩
      ·exact g j
      ·rw[j]at h;simp at h
  exact y cs.length 0 (p+1) A Yo w
theorem U4(cs:Lc)(a:Ll×At){l:Lu}(h:DJ l=none):Kh cs a.2 l (Cj a.2 l (AN a) 0 [] []) (Hl cs a l):=
 U3 (LC cs a h) [] _ (fun b=>by
  have:Hl cs a l=⟨(Hl cs a l).at',false,(Hl cs a l).ans⟩:=by
   rw[<-b]
  rw[this];exact .done _ _) (fun b=>⟨b,rfl⟩)
def FL(l:Lu)(p:Nat):UInt8:=(l[p]?).getD 0
theorem Wb(h:p<s.size):FL s.data.toList p=s[p]:=by unfold FL;rw[FO h];rfl
theorem V3(h:s.size<=p):FL s.data.toList p=0:=by
 unfold FL;rw[QV (by simpa using h)];rfl
theorem PF{l:Lu}{c:UInt8}(a:c≠0):FL l p=c↔l[p]?=some c:=by
 unfold FL
 cases l[p]? with
 |none=>simp;exact fun h=>a h.symm
 |some d=>simp
theorem Ns(s:ByteArray)(p:Nat)(w:World)(d:s.size<=100000)(c:p<=100000):Calls prog 136 #[string s,int i64 p] w fun e w'=>e=returned (int .u8 (FL s.data.toList p).toNat)/\w'=w:=by
 by_cases h:p<s.size
 ·have a:=Yh (Wb h);have b:¬((s.size:Int)<=(p:Int)):=Yo
  go_enter func136,ntmps136;go_wp2;go_ret;exact⟨by rw[a.o];rfl,rfl⟩
 ·have a:=Yh (V3 (Nat.le_of_not_lt h));have b:((s.size:Int)<=(p:Int)):=Yo
  go_enter func136,ntmps136;go_wp2;go_ret;exact⟨by rw[a.o];rfl,rfl⟩
theorem PU(w:World)(b:Nat)(o:Int)(due:Bool)(hb:w.heap[b]?=some (.cells #[int i64 o,.bool due] 173 (0,0))):Calls prog 101 #[Pt b] w fun e w'=>e=returned (.bool (!due&&(o==0)))/\w'=w:=by
 obtain⟨a,b1,c⟩:=Gs hb;clear hb
 cases due with
 |true=>
  go_enter func101,ntmps101;go_wp2;go_ret;exact⟨rfl,rfl⟩
 |false=>
  go_enter func101,ntmps101;go_wp2;go_ret;exact⟨rfl,rfl⟩
def C4(l:Lu)(p o:Nat)(due:Bool):Nat×Nat×Bool:=
 if due=true then(if FL l p=33 then(p+1,o,false)else if FL l p=40 then(p+1,o+1,false)else(p,o,true))
 else if FL l p=41 then(p+1,o-1,false)else(p+(As (l.drop p)).2,o,decide (0<(As (l.drop p)).2))
def FY(l:Lu)(p o:Nat)(due:Bool)(b:Nat)(w:World)(e:Ending)(w':World):Prop:=e= .returned (.int .i64 (C4 l p o due).1)/\Ad (only b) w w'/\w'.heap[b]?=some (.cells #[.int .i64 (C4 l p o due).2.1,.bool (C4 l p o due).2.2] 173 (0,0))
theorem UZ(s:ByteArray)(p o:Nat)(due:Bool)(b:Nat)(w:World)(B:s.size<=20000)(A:p<=20000)(y:o<=20000)(k:due=false->0<o)(hb:w.heap[b]?=some (.cells #[int i64 o,.bool due] 173 (0,0))):
  Calls prog 102 #[Pt b,string s,int i64 p] w (FY s.data.toList p o due b w):=by
 obtain⟨t,b1,u⟩:=Gs hb;have x:=Ac hb;have i:=Yh hb;have h:=Yh (Ns s p w Yo Yo);obtain⟨c,a⟩:=Ex (FL s.data.toList p);rw[<-a]at h;clear hb
 cases due with
 |true=>
  by_cases f:c=33
  ·have d:YH (C4 s.data.toList p o true=(p+1,o,false)):=by show _=_;unfold C4;rw[QQ rfl,QQ (by rw[<-a];exact f)]
   have m:((c.toNat:Int) !=33)=false:=by rw[f];rfl
   have r:((c.toNat:Int)==40)=false:=by rw[f];rfl
   clear a f k;go_enter func102,ntmps102;go_wp2_with fail;apply h.o.mono;rintro e w1 ⟨rfl,rfl⟩;go_wp2;go_ret;unfold FY;rw[d.o];exact⟨Ys,(Ad.refl _ _).put 1 _,Ae i.o 1 _⟩
  ·have m:((c.toNat:Int) !=33)=true:=by rw[QR];exact KF f
   by_cases g:c=40
   ·have d:YH (C4 s.data.toList p o true=(p+1,o+1,false)):=by show _=_;unfold C4;rw[QQ rfl,QP (by rw[<-a];exact f),QQ (by rw[<-a];exact g)]
    have r:((c.toNat:Int) !=40)=false:=by rw[g];rfl
    have C:((c.toNat:Int)==40)=true:=by rw[g];rfl
    clear a f g k;go_enter func102,ntmps102;go_wp2_with fail;apply h.o.mono;rintro e w1 ⟨rfl,rfl⟩;go_wp2;go_ret;unfold FY;rw[d.o];exact⟨Ys,((Ad.refl _ _).put 0 _).put 1 _,Ae (Ae i.o 0 _) 1 _⟩
   ·have d:YH (C4 s.data.toList p o true=(p,o,true)):=by show _=_;unfold C4;rw[QQ rfl,QP (by rw[<-a];exact f),QP (by rw[<-a];exact g)]
    have r:((c.toNat:Int) !=40)=true:=by rw[QR];exact KF g
    clear a f g k;go_enter func102,ntmps102;go_wp2_with fail;apply h.o.mono;rintro e w1 ⟨rfl,rfl⟩;go_wp2;go_ret;unfold FY;rw[d.o];exact⟨rfl,Ad.refl _ _,i.o⟩
 |false=>
  have z:=k rfl
  by_cases j:c=41
  ·have d:YH (C4 s.data.toList p o false=(p+1,o-1,false)):=by show _=_;unfold C4;rw[QP Ys,QQ (by rw[<-a];exact j)]
   have m:((c.toNat:Int)==41)=true:=by rw[j];rfl
   clear a j k;go_enter func102,ntmps102;go_wp2_with fail;apply h.o.mono;rintro e w1 ⟨rfl,rfl⟩;go_wp2;go_ret;unfold FY;rw[d.o];refine⟨Ys,(Ad.refl _ _).put 0 _,?_⟩;rw[show((p+1,o-1,false):Nat×Nat×Bool).2.1=o-1 from rfl,show((o-1:Nat):Int)=(o:Int)-1 by omega];exact Ae i.o 0 _
  ·obtain⟨N,l⟩:=Ex ((As (s.data.toList.drop p)).2);have d:YH (C4 s.data.toList p o false=(p+N,o,decide (0<N))):=by show _=_;unfold C4;rw[QP Ys,QP (by rw[<-a];exact j),<-l]
   have m:((c.toNat:Int)==41)=false:=by rw[Qu];exact KF j
   have n:=Yh (Sl s p w Yo Yo);obtain⟨V,q⟩:=Ex ((As (s.data.toList.drop p)).1);rw[<-l,<-q]at n;clear a j k l q;go_enter func102,ntmps102;go_wp2_with fail;apply h.o.mono;rintro e w1 ⟨rfl,rfl⟩;go_wp2_with fail;apply n.o.mono;rintro e w1 ⟨rfl,rfl⟩
   by_cases h0:0<N
   ·have v:(p:Int)<(p:Int)+(N:Int):=Yo
    go_wp2;go_ret;unfold FY;rw[d.o];refine⟨Ys,(Ad.refl _ _).put 1 _,?_⟩;rw[show((p+N,o,decide (0<N)):Nat×Nat×Bool).2.2=true from decide_eq_true h0];exact Ae i.o 1 _
   ·obtain rfl:N=0:=Yo
    go_wp2;go_ret;unfold FY;rw[d.o];refine⟨Ys,(Ad.refl _ _).put 1 _,?_⟩;exact Ae i.o 1 _
def Ou(l:Lu)(w:World)(e:Ending)(w':World):Prop:=Ao w w'/\e= .returned (match DJ l with|none=> .agg #[.int .i64 0,.int .i64 0]|some p=> .agg #[.int .i64 6,.int .i64 p])
theorem Tn{l:Lu}{f o:Nat}{due:Bool}(h:l.length<=p):Ck l (f+1) p o due=if due=true\/0<o then some p else none:=by
 unfold Ck;rw[QV h]
theorem Op{l:Lu}{f:Nat}(h:p<l.length):Ck l (f+1) p 0 false=some p:=by
 unfold Ck;rw[Qb h];simp
theorem PJ{l:Lu}{f o:Nat}{due:Bool}(h:p<l.length)(a:due=false->0<o):Ck l (f+1) p o due=if(C4 l p o due).1=p then some p else Ck l f (C4 l p o due).1 (C4 l p o due).2.1 (C4 l p o due).2.2:=by
 have hb:FL l p=l[p]:=by unfold FL;rw[Qb h];rfl
 rw[Ck,C4,Qb h,hb];simp only
 cases due with
 |true=>
  simp only[Ja];split
  ·simp
  ·split
   ·simp
   ·simp
 |false=>
  have:=a rfl;simp only[JQ,if_false];rw[QP Yo];split
  ·simp
  ·by_cases h0:(As (l.drop p)).2=0
   ·simp[h0]
   ·rw[QP h0,QP (by simp only;omega)];simp[show 0<(As (l.drop p)).2 by omega]
theorem VE{l:Lu}{o:Nat}{due:Bool}(h:p<l.length)(a:o<=p):p<=(C4 l p o due).1/\(C4 l p o due).1<=l.length/\((C4 l p o due).1≠p->(C4 l p o due).2.1<=(C4 l p o due).1):=by
 have hn:=Cd (l.drop p);simp only[JI]at hn;unfold C4;split
 ·split
  ·exact⟨Nat.le_succ _,h,fun _=>by show o<=p+1;omega⟩
  ·split
   ·exact⟨Nat.le_succ _,h,fun _=>by show o+1<=p+1;omega⟩
   ·exact⟨Qe _,JW h,fun h=>absurd rfl h⟩
 ·split
  ·exact⟨Nat.le_succ _,h,fun _=>by show o-1<=p+1;omega⟩
  ·exact⟨Nat.le_add_right _ _,by show p+_<=_;omega,fun _=>by show o<=p+_;omega⟩
theorem C2(h:Ao w w1)(a:Ad (only b) w1 w2)(hb:w.heap.size<=b):Ao w w2:=
 h.trans (a.below h.size (fun k e=>by have e:k=b:=e;omega))
theorem MD(s:ByteArray)(w:World)(af:s.size<=20000):Calls prog 81 #[string s] w (Ou s.data.toList w):=by
 have N:s.data.toList.length=s.size:=Ys
 obtain⟨l,hl⟩:=Ex s.data.toList;have P:=Yh (fun p o due b u (G:p<=20000) (H:o<=20000) h3 h4=>UZ s p o due b u af G H h3 h4);rw[<-hl]at N P⊢;have V:=Yh (fun u b o due hb=>PU u b o due hb);have i:=Yh N;clear N;go_enter func81,ntmps81;go_wp2
 go_loopg [4] (s.size+1) (fun gk av wr=>∃(p o f:Nat)(due:Bool),av=int i64 p/\p<=s.size/\s.size-p<gk/\o<=p/\s.size<f+p/\Ck l f p o due=DJ l/\Ao w wr/\wr.heap[w.heap.size]?=some (.cells #[int i64 0,int i64 0] 91 (0,0))/\wr.heap[w.heap.size+1]?=some (.cells #[int i64 o,.bool due] 173 (0,0)))
 case atStart=>exact⟨0,0,s.size+1,true,Yg,Yo,Yo,Yo,Yo,by unfold DJ;rw[i.o],Mxt,Ah (QL w _) _,CO Ys _⟩
 case round=>
  obtain⟨p,o,f,due,rfl,ak,aj,ae,ai,c,j,k,g⟩:=hrel;obtain⟨f,rfl⟩:∃Z,f=Z+1:=⟨f-1,Yo⟩;have al:=Ac g;have d:=Yh (V.o wr _ o due g)
  by_cases m:p<s.size/\¬(due=false/\o=0)
  ·obtain⟨x,ac⟩:=m;have L:due=false->0<o:=fun h=>Nat.pos_of_ne_zero (fun F=>ac ⟨h,F⟩);have y:(!due&&((o:Int)==0))=false:=by
    cases due with
    |true=>rfl
    |false=>
     have:=L rfl;simp;omega
   rw[y]at d;have D:=Yh (P.o p o due (w.heap.size+1) wr Yo Yo L g);rw[PJ (by rw[i.o];exact x) L]at c;obtain⟨z,M⟩:=Ex ((C4 l p o due).1);obtain⟨U,K⟩:=Ex ((C4 l p o due).2.1);obtain⟨Q,S⟩:=Ex ((C4 l p o due).2.2);unfold FY at D;rw[<-M,<-K,<-S]at c D;have R:=VE (l:=l) (p:=p) (o:=o) (due:=due) (by rw[i.o];exact x) ae;rw[<-M,<-K,i.o]at R;obtain⟨ag,aa,ab⟩:=R;have E:=Yh c;have q:=Yh j;have W:=Yh k;have T:(p:Int)<(s.size:Int):=Yo
   clear c j k g y M K S;go_wp2_with fail;apply d.o.mono;rintro e w1 ⟨rfl,rfl⟩;go_wp2_with fail;apply D.o.mono;rintro e w2 ⟨rfl,A,I⟩;have B:=(A.block w.heap.size Yo (fun e=>by have e:w.heap.size=w.heap.size+1:=e;omega)).trans W.o;have O:YH (Ao w w2):=C2 q.o A Yo
   by_cases C:z=p
   ·have a:YH (DJ l=some p):=by show _=_;rw[<-E.o,QQ C]
    subst C;obtain⟨r,t,cf⟩:=Gs B;clear B A I;go_wp2;refine Jb (v:=agg #[int i64 6,int i64 z]) (by simp[results,results81,go_sem,r,t,cf]) rfl ?_;exact⟨C2 O.o (((Ad.refl _ _).put 0 _).put 1 _) (Qe _),by rw[a.o]⟩
   ·have ah:((z:Int)==(p:Int))=false:=by rw[Qu];omega
    have a:YH (Ck l f z U Q=DJ l):=by show _=_;rw[<-E.o,QP C]
    have X:=Yh B;have Y:=Yh I;have ad:=ab C;clear B A I E;go_wp2
    go_roundg (s.size-p)
    case measure=>omega
    case rel=>exact⟨z,U,f,Q,rfl,aa,Yo,ad,Yo,a.o,O.o,X.o,Y.o⟩
  ·have J:¬(((!(!due&&((o:Int)==0)))&&decide ((p:Int)<(s.size:Int)))=true):=fun h=>by
    rw[Q6,decide_eq_true_iff]at h;refine m ⟨Yo,fun⟨G,H⟩=> ?_⟩;rw[G,H]at h;simp at h
   obtain⟨r,t,cf⟩:=Gs k;have q:=Yh j
   by_cases x:p<s.size
   ·have n:due=false/\o=0:=by
     by_cases h:due=false/\o=0
     ·exact h
     ·exact absurd ⟨x,h⟩ m
    obtain⟨rfl,rfl⟩:=n;have a:YH (DJ l=some p):=by show _=_;rw[<-c];exact Op (by rw[i.o];exact x)
    have T:(p:Int)<(s.size:Int):=Yo
    clear c j k g J m;go_wp2_with fail;apply d.o.mono;rintro e w1 ⟨rfl,rfl⟩;go_wp2;refine Jb (v:=agg #[int i64 6,int i64 p]) (by simp[results,results81,go_sem,r,t,cf]) rfl ?_;exact⟨C2 q.o (((Ad.refl _ _).put 0 _).put 1 _) (Qe _),by rw[a.o]⟩
   ·have T:¬(p:Int)<(s.size:Int):=Yo
    have hn:=Tn (l:=l) (f:=f) (p:=p) (o:=o) (due:=due) (by rw[i.o];omega);rw[c]at hn
    by_cases n:due=false/\o=0
    ·obtain⟨rfl,rfl⟩:=n;have a:YH (DJ l=none):=by show _=_;rw[hn];simp
     clear c j k g J m hn;go_wp2_with fail;apply d.o.mono;rintro e w1 ⟨rfl,rfl⟩;go_wp2_with fail;apply d.o.mono;rintro e w1 ⟨rfl,rfl⟩;go_wp2;refine Jb (v:=agg #[int i64 0,int i64 0]) (by simp[results,results81,go_sem,r,t,cf]) rfl ?_;exact⟨C2 q.o (((Ad.refl _ _).put 0 _).put 1 _) (Qe _),by rw[a.o]⟩
    ·have a:YH (DJ l=some p):=by
      show _=_;rw[hn,QQ]
      by_cases h:due=true
      ·exact QG h
      ·refine QO (Nat.pos_of_ne_zero (fun F=>n ⟨by simpa using h,F⟩))
     have y:(!due&&((o:Int)==0))=false:=by
      cases due with
      |true=>rfl
      |false=>
       simp;intro h;exact n ⟨rfl,Yo⟩
     rw[y]at d;clear c j k g J m hn y n;go_wp2_with fail;apply d.o.mono;rintro e w1 ⟨rfl,rfl⟩;go_wp2_with fail;apply d.o.mono;rintro e w1 ⟨rfl,rfl⟩;go_wp2;refine Jb (v:=agg #[int i64 6,int i64 p]) (by simp[results,results81,go_sem,r,t,cf]) rfl ?_;exact⟨C2 q.o (((Ad.refl _ _).put 0 _).put 1 _) (Qe _),by rw[a.o]⟩
def HK(t:TypeId):Prop:=t=142\/t=235\/t=9
def Eh(w w':World):Prop:=∀(k:Nat)(cl:Av)(t:TypeId)(fr:Nat×Nat),w.heap[k]?=some (.cells cl t fr)->¬HK t->w'.heap[k]?=some (.cells cl t fr)
theorem Eh.trans{w3:World}(h:Eh w1 w2)(b:Eh w2 w3):Eh w1 w3:=fun k cl t fr e a=>b k cl t fr (h k cl t fr e a) a
theorem Eh.of_ext(h:Ao w w'):Eh w w':=fun k cl t fr e _=>(h.block k (Ac e)).trans e
theorem Eh.of_kept(h:Ad S w w')(c:∀k,S k->∃cl t fr,w.heap[k]?=some (.cells cl t fr)/\HK t):Eh w w':=fun k cl t fr e f=>(h.block k (Ac e) (fun d=>by
 obtain⟨g,j,i,a,b⟩:=c k d;rw[a]at e;simp at e;exact f (e.2.1▸b))).trans e
theorem Eh.own{n:Nat}(c:Eh w w')(d:¬HK e)(h:w.ownsRow B e size v n xs):w'.ownsRow B e size v n xs:=
 Aj h (fun k a=>by
  rcases h.2 with⟨rfl,_⟩|⟨g,f,i,rfl,_,b,_⟩
  ·simp[Value.ownBlock]at a
  ·simp[Value.ownBlock]at a;subst a;rw[c _ _ _ _ b d,b])
theorem Eh.terms(a:Eh w w')(h:AF w v ls):AF w' v ls:=by
 obtain⟨vs,h⟩:=h;exact⟨vs,a.own (by simp[HK]) h.owns,fun i l hl=>by
  obtain⟨x,b,c⟩:=h.all i l hl;exact⟨x,b,a.own (by simp[HK]) c⟩⟩
theorem CV.fr{d e:Value}{c:ND}(h:CV w gv vv d e c)(b:Eh w w'):CV w' gv vv d e c:=by
 obtain⟨n,a,f⟩:=h;exact⟨n,⟨b.terms a.goals,b.terms a.vals,b.terms a.done⟩,f⟩
structure HA(B:Nat)(w:World)(v:Value)(ds:List (ND×Nat))(xs:List Value):Prop where
 owns:w.ownsRow B 235 5 v ds.length xs
 all:∀(i:Nat)(d:ND×Nat),ds[i]?=some d->∃x0 x1 x2 x3,xs[i*5]?=some x0/\xs[i*5+1]?=some x1/\xs[i*5+2]?=some x2/\xs[i*5+3]?=some x3/\xs[i*5+4]?=some (.int .i64 d.2)/\CV w x0 x1 x2 x3 d.1
theorem HA.keep(h:HA B w v ds xs)(a:Eh w w')(b:∀k,v.ownBlock=some k->w'.heap[k]?=w.heap[k]?):HA B w' v ds xs:=
 ⟨Aj h.owns b,fun i d hd=>by
  obtain⟨c,e,f,j,l,m,n,o,p,g⟩:=h.all i d hd;exact⟨c,e,f,j,l,m,n,o,p,g.fr a⟩⟩
theorem HA.pop{g n:Nat}{d:ND×Nat}(h:HA B w (slice (some ⟨g,0,none⟩) (n+1) cap) (ds++[d]) xs)(hn:ds.length=n):HA B w (slice (some ⟨g,0,none⟩) n cap) ds (xs.take (n*5)):=by
 have a:=h.owns;rw[Qg,Qn,hn]at a;refine⟨by rw[hn];exact J2 a,fun i x b=> ?_⟩;have hi:=(Qa.1 b).1;obtain⟨c,e,f,j,k,l,m,o,p,g⟩:=h.all i x (by rw[Qc hi];exact b);exact⟨c,e,f,j,by rw[JA Yo];exact k,by rw[JA Yo];exact l,by rw[JA Yo];exact m,by rw[JA Yo];exact o,by rw[JA Yo];exact p,g⟩
structure OE(w0 w:World)(b:Nat)(cv nv:Value)(s:ByteArray)(p:Nat)(way:List (ND×Nat))(A:List (List UInt8))(wa:Option Addr)(wc:Nat)(aa:Option Addr)(ac:Nat):Prop where
 ext:Ao w0 w
 low:w0.heap.size<=b
 box:w.heap[b]?=some (.cells #[cv,nv,.string s,.int .i64 p,.slice wa way.length wc,.slice aa A.length ac] 142 (0,0))
 row:∃ys,HA w0.heap.size w (.slice wa way.length wc) way.reverse ys
 ans:w.ownsRow w0.heap.size 9 1 (.slice aa A.length ac) A.length (Ba A)
def FJ(w0 w:World)(b:Nat)(cv nv:Value)(s:ByteArray)(p:Nat)(way:Ln)(A:List (Lu)):Prop:=∃wa wc aa ac,OE w0 w b cv nv s p way A wa wc aa ac
theorem DY{e n:Nat}{cl:Av}{fr:Nat×Nat}(h:w.ownsRow B e size v n xs)(hb:w.heap[b]?=some (.cells cl t fr))(d:e≠t):∀k,v.ownBlock=some k->k≠b:=fun k a e'=>by
 subst e';rcases h.2 with⟨rfl,_⟩|⟨g,f,i,rfl,_,c,_⟩
 ·simp[Value.ownBlock]at a
 ·simp[Value.ownBlock]at a;subst a;rw[c]at hb;simp at hb;exact d hb.2.1
theorem OE.grow{nv:Value}{way:Ln}{A:List (Lu)}{wa:Oa}{wc:Nat}{aa:Oa}{ac:Nat}(h:OE w0 w b cv nv s p way A wa wc aa ac)(e:Ao w w'):OE w0 w' b cv nv s p way A wa wc aa ac:=by
 obtain⟨d,c⟩:=h.row;exact⟨h.ext.trans (e.mono h.ext.size),h.low,(e.block _ (Ac h.box)).trans h.box,⟨d,c.keep (Eh.of_ext e) (fun k a=>e.block k (c.owns.lt k a).2)⟩,Aj h.ans (fun k a=>e.block k (h.ans.lt k a).2)⟩
theorem OE.upd{nv:Value}{p':Nat}{way way':Ln}{A:List (Lu)}{wa f:Oa}{wc g:Nat}{aa:Oa}{ac:Nat}(h:OE w0 w b cv nv s p way A wa wc aa ac)(c:Ad (only b) w w')(l:w'.heap[b]?=some (.cells #[cv,nv,string s,int i64 p',slice f way'.length g,slice aa A.length ac] 142 (0,0)))
  (m:∃i,HA w0.heap.size w (slice f way'.length g) way'.reverse i):OE w0 w' b cv nv s p' way' A f g aa ac/\Eh w w':=by
 obtain⟨i,d⟩:=m;have j:Eh w w':=Eh.of_kept c (fun k e=>by
  have e:k=b:=e;subst e;exact⟨_,_,_,h.box,by simp[HK]⟩)
 refine⟨⟨C2 h.ext c h.low,h.low,l,⟨i,d.keep j (fun k a=>c.block k (d.owns.lt k a).2 (DY d.owns h.box Yd k a))⟩,Aj h.ans (fun k a=>c.block k (h.ans.lt k a).2 (DY h.ans h.box Yd k a))⟩,j⟩
theorem K6(j w:World)(b:Nat)(i nv:Value)(s:ByteArray)(p:Nat)(way:Ln)(A:List (Lu))(c:UInt8)(l:c≠0)(h:FJ j w b i nv s p way A)(B:s.size<=20000)(z:p<=s.size):
  Calls prog 137 #[Pt b,int .u8 c.toNat] w fun e w'=>Eh w w'/\((s.data.toList[p]?=some c/\e=returned (.bool true)/\FJ j w' b i nv s (p+1) way A)\/(s.data.toList[p]?≠some c/\e=returned (.bool false)/\FJ j w' b i nv s p way A)):=by
 obtain⟨wa,wc,aa,ac,h⟩:=h;obtain⟨r,b1,b2,t,v,x,y⟩:=Iw h.box;have a:=Yh h;have f:=Yh (fun u=>Ns s p u Yo Yo)
 by_cases g:s.data.toList[p]?=some c
 ·rw[(PF l).2 g]at f;have q:((c.toNat:Int) !=(c.toNat:Int))=false:=Ys
  clear h;go_enter func137,ntmps137;go_wp2_with fail;go_quiet ((go_at_call 136;exact Calls.quiet_of_same (f.o _)));go_wp2;go_ret;obtain⟨m,n⟩:=a.o.upd (p':=p+1) (((Ad.refl (only b) w).drewN nq).put 3 (int i64 ((p:Int)+1))) (Ae (w:=w.drewN nq) a.o.box 3 _) a.o.row;exact⟨n,QG ⟨g,rfl,_,_,_,_,m⟩⟩
 ·obtain⟨d,hd⟩:=Ex (FL s.data.toList p);rw[<-hd]at f;have q:((d.toNat:Int) !=(c.toNat:Int))=true:=by
   rw[QR];exact KF (fun e=>g ((PF l).1 (hd▸e)))
  clear h hd;go_enter func137,ntmps137;go_wp2_with fail;go_quiet ((go_at_call 136;exact Calls.quiet_of_same (f.o _)));go_wp2;go_ret;have k:Ao w (w.drewN nq):=Ao.of ((Ad.refl _ w).drewN _);exact⟨Eh.of_ext k,QO ⟨g,rfl,_,_,_,_,a.o.grow k⟩⟩
theorem RM(l w:World)(b:Nat)(g nv:Value)(s:ByteArray)(p:Nat)(d:ND×Nat)(r:Ln)(A:List (Lu))(h:FJ l w b g nv s p (d::r) A)(I:s.size<=20000)(G:p<=s.size)(P:r.length<=20000):
  Calls prog 139 #[Pt b] w fun e w'=>Eh w w'/\((s.data.toList[p]?=some 41/\e=returned (.bool true)/\FJ l w' b g nv s (p+1) r A)\/(s.data.toList[p]?≠some 41/\e=returned (.bool false)/\FJ l w' b g nv s p (d::r) A)):=by
 have f:=Yh (K6 l w b g nv s p (d::r) A 41 Yd h I G);obtain⟨wa,wc,aa,ac,h⟩:=h;have t:=h.box;simp only[Qf]at t;obtain⟨v,b1,b2,x,y,z,B⟩:=Iw t;have O:decide ((r.length:Int)<0)=false:=by rw[decide_eq_false_iff_not];omega
 simp only[show((41:UInt8).toNat:Int)=41 from rfl]at f;clear h t;go_enter func139,ntmps139;go_wp2_with fail;apply f.o.mono;rintro e w1 ⟨i,⟨c,rfl,a⟩|⟨c,rfl,a⟩⟩
 ·obtain⟨R,L,M,N,a⟩:=a;have j:=a.box;simp only[Qf]at j;clear v b1 b2 x y z B;obtain⟨v,b1,b2,x,y,z,B⟩:=Iw j;obtain⟨U,k⟩:=a.row;simp only[Qf,Qw]at k;have u:=k.owns;rw[Qg,Qv,Qn]at u;obtain⟨K,S,T,C,_,J,Q⟩:=An u Yo;simp only[QH]at C;obtain⟨rfl,_,rfl⟩:=C;have H:=Yh (k.pop Qv);have m:=Yh a;have n:=Yh i;have D:=Yh j;have q:=Yh c;clear a j k u J i c f;go_wp2;go_ret;obtain⟨E,F⟩:=m.o.upd (way':=r) ((Ad.refl (only b) w1).put 4 (slice (some ⟨K,0,none⟩) r.length L)) (Ae D.o 4 _) ⟨_,H.o⟩;exact⟨n.o.trans F,QG ⟨q.o,rfl,_,_,_,_,E⟩⟩
 ·have m:=Yh a;have n:=Yh i;have q:=Yh c;clear a i c f;go_wp2;go_ret;exact⟨n.o,QO ⟨q.o,rfl,m.o⟩⟩
def PZ(w0 w:World)(b:Nat)(cv nv:Value)(s:ByteArray)(M:HM)(e:Ending)(w':World):Prop:=Eh w w'/\e= .returned (.bool M.ok)/\FJ w0 w' b cv nv s M.at' M.way M.ans
theorem FJ.grow{nv:Value}{way:Ln}{A:List (Lu)}(h:FJ w0 w b cv nv s p way A)(e:Ao w w'):FJ w0 w' b cv nv s p way A:=by
 obtain⟨wa,wc,aa,ac,h⟩:=h;exact⟨wa,wc,aa,ac,h.grow e⟩
theorem OE.answer{nv:Value}{way:Ln}{A:List (Lu)}{wa:Oa}{wc:Nat}{aa c:Oa}{ac d:Nat}{Y:Lu}(h:OE w0 w b cv nv s p way A wa wc aa ac)
  (ha:Ar w w0.heap.size 9 1 (slice aa A.length ac) (A.length+1) (Ba A++[string ⟨Y.toArray⟩]) (slice c (A.length+1) d) w1):
  w1.heap[b]?=w.heap[b]?/\OE w0 (w1.setCell ⟨b,5,none⟩ (slice c (A.length+1) d)) b cv nv s p way (A++[Y]) wa wc c d/\Eh w (w1.setCell ⟨b,5,none⟩ (slice c (A.length+1) d)):=by
 obtain⟨r,j⟩:=h.row;have hn:=DY h.ans h.box Yd;have q:w1.heap[b]?=w.heap[b]?:=ha.kept.block b (Ac h.box) (fun e=>hn b e rfl);have n:Eh w w1:=Eh.of_kept ha.kept (fun k e=>by
  rcases h.ans.2 with⟨e',_⟩|⟨g,t,u,e',_,l,_⟩
  ·rw[e']at e;simp[Ak,Value.ownBlock]at e
  ·rw[e']at e;simp[Ak,Value.ownBlock]at e;subst e;exact⟨_,_,_,l,by simp[HK]⟩)
 have m:HA w0.heap.size w1 (slice wa way.length wc) way.reverse r:=j.keep n (fun k a=>ha.kept.block k (j.owns.lt k a).2 (fun e=>by
  rcases h.ans.2 with⟨e',_⟩|⟨g,t,u,e',_,l,_⟩
  ·rw[e']at e;simp[Ak,Value.ownBlock]at e
  ·rw[e']at e;simp[Ak,Value.ownBlock]at e;subst e;exact DY j.owns l Yd _ a rfl))
 have v:Ao w0 w1:=h.ext.trans (ha.kept.below h.ext.size (fun k e=>(h.ans.lt k e).1));have i:=q.trans h.box;have f:Ad (only b) w1 (w1.setCell ⟨b,5,none⟩ (slice c (A.length+1) d)):=(Ad.refl _ _).put 5 _;have o:Eh w1 (w1.setCell ⟨b,5,none⟩ (slice c (A.length+1) d)):=Eh.of_kept f (fun k e=>by
  have e:k=b:=e;subst e;exact⟨_,_,_,i,by simp[HK]⟩)
 have hl:(A++[Y]).length=A.length+1:=Ys
 have x:Ba (A++[Y])=Ba A++[string ⟨Y.toArray⟩]:=by simp[Ba]
 refine⟨q,⟨C2 v f h.low,h.low,by rw[hl];exact Ae i 5 _,⟨r,m.keep o (fun k a=>f.block k (m.owns.lt k a).2 (DY m.owns i Yd k a))⟩,?_⟩,n.trans o⟩;rw[hl,x];exact Aj ha.owns (fun k a=>f.block k (ha.owns.lt k a).2 (DY ha.owns i Yd k a))
theorem Re(m w:World)(b:Nat)(O nv:Value)(s:ByteArray)(p:Nat)(way:Ln)(A:List (Lu))(names:At)(ai a2 az a0:Value)(n:ND)(h:FJ m w b O nv s p way A)(hn:CV w ai a2 az a0 n)(V:n.goals=[])(X:m.ownsRow 0 9 1 nv names.length (Ba names))(bg:n.vals.length=names.length)(be:names.length<=60)(ar:∀x∈names,x.length<=8)(bd:s.size<=20000)(bc:p<=s.size)(bk:A.length<=20000):
  Calls prog 103 #[Pt b,agg #[ai,a2,az,a0]] w (PZ m w b O nv s (Cj names s.data.toList n p way A)):=by
 obtain⟨ag,ah,g,l,k,aw,ay,ax,u,rfl,rfl,rfl,rfl,bn⟩:=hn.shape;obtain⟨H,f⟩:=Ex (w.alloc (.cells #[slice ag n.goals.length ah,slice g l k,slice aw ay ax,int i64 u] 87));have Q:Ao w H:=by rw[f];exact Mxt
 have ap:H.heap[w.heap.size]?=some (.cells #[slice ag n.goals.length ah,slice g l k,slice aw ay ax,int i64 u] 87 (0,0)):=by rw[f];exact QL w _
 have r:=Yh (K6 m H b O nv s p way A 33 Yd (h.grow Q) bd bc);have C:Cj names s.data.toList n p way A=if s.data.toList[p]?=some 33 then⟨true,p+1,way,A++[AU names n]⟩else⟨false,p,way,A⟩:=by unfold Cj;rw[QQ V]
 obtain⟨Y,S⟩:=Ex (AU names n);rw[<-S]at C;obtain⟨M,al⟩:=Ex (Cj names s.data.toList n p way A);rw[<-al]at C⊢;have ae:=Yh C;have bl:b<w.heap.size:=by
  obtain⟨_,_,_,_,h⟩:=h;exact Ac h.box
 have a7:=Yh hn;have E:=Yh Q;have ad:=Yh ap;simp only[show((33:UInt8).toNat:Int)=33 from rfl]at r;rw[V,Qt]at f ad⊢;have a6:=Yh f;have af:=Yh X;obtain⟨na,nc,rfl⟩:=Ab X;clear h hn C Q ap f V X al;go_enter func103,ntmps103;go_wp2_with fail;rw[<-a6.o];apply r.o.mono;rintro e w1 ⟨d,⟨B,rfl,c⟩|⟨B,rfl,c⟩⟩
 ·obtain⟨bp,bq,a8,a9,c⟩:=c;obtain⟨I,b1,b2,J,K,L,N⟩:=Iw c.box;have au:=d _ _ _ _ ad.o (by simp[HK]);have a1:=Aa au 1 _ rfl;obtain⟨ab,am,bb,z,R,ba,a⟩:=(a7.o.ext E.o).fr d;have aq:ab.vals.length=names.length:=by rw[a.vl,bg]
  have an:AU names ab=AU names n:=by unfold AU;rw[a.valsC z]
  have Z:=Aj af.o (fun j W=>c.ext.block j (af.o.lt j W).2);have ac:YH (Calls prog 70 #[slice na names.length nc,slice g l k] w1.drew fun e w'=>Ao w1.drew w'/\e=returned (string ⟨(AU names n).toArray⟩)):=by
   have t:Ao w1 w1.drew:=⟨rfl,rfl,rfl,Qe _,fun _ _=>rfl⟩;rw[<-an];exact FG _ _ _ names ab.vals (Aj Z (fun j W=>t.block j (Z.lt j W).2)) (am.vals.ext t) (NM z R Yo) aq.symm (It z R Yo be ar)
  rw[<-S]at ac;have G:YH (M=⟨true,p+1,way,A++[Y]⟩):=by show _=_;rw[ae.o,QQ B]
  have D:=Yh c;have F:=Yh ((Eh.of_ext E.o).trans d);clear c d au am bb z R ba a aq an Z S r ar;go_wp2_with fail;refine BW Yk 999 [.rd 0 1 (fun _=>Pt b),.rd 0 1 (fun _=>Pt b),.rd 0 1 (fun _=>pointer (some ⟨b,1,none⟩)),.rd 0 0 (fun _=>slice na names.length nc),.rd 0 1 (fun _=>pointer (some ⟨w.heap.size,1,none⟩)),.rd 0 0 (fun _=>slice g l k),.st 0,.rd 1 1 (fun _=>string ⟨Y.toArray⟩)] 1 7 Yk (TE w1.drew (string ⟨Y.toArray⟩)) rfl ?_ ?_
  ·refine⟨⟨trivial,fun vs y _ hl a=> ?_⟩,⟨trivial,fun vs y _ hl a=> ?_⟩,⟨trivial,fun vs y _ hl a=> ?_⟩,⟨trivial,fun vs y _ hl a=> ?_⟩,⟨trivial,fun vs y _ hl a=> ?_⟩,⟨trivial,fun vs y _ hl a=> ?_⟩,⟨trivial,fun vs y hl a=> ?_⟩,⟨trivial,fun vs y bm hl a=> ?_⟩,trivial⟩
   ·simp[go_sem]
   ·simp[go_sem]
   ·simp[go_sem]
   ·obtain rfl:=a.at hl;simp[go_sem,b1]
   ·simp[go_sem]
   ·obtain rfl:=a.at hl;simp[go_sem,a1]
   ·obtain rfl:=Q3.1 hl;obtain rfl:y=w1.drew:=a;refine .call 70 #[slice na names.length nc,slice g l k] _ (by simp[go_sem]) (ac.o.mono ?_);rintro e u ⟨t,rfl⟩;exact⟨_,rfl,rfl,t⟩
   ·obtain⟨v,rfl⟩:=Q1.1 (show vs.length=1 by omega);obtain⟨rfl,_⟩:=a;simp[go_sem]
  rintro vs y hl a;obtain⟨v,rfl⟩:=Q1.1 hl;obtain⟨bf,av⟩:=a;have aa:=av.undrew;have P:=D.o.grow aa;have a4:=Yh (F.o.trans (Eh.of_ext aa));clear I b1 b2 J K L N a1;obtain⟨I,b1,b2,J,K,L,N⟩:=Iw P.box;have q:=Yh P;simp only[EB,IB,CD,pa,Ph.kd,Ph.val,Kd.val,Qx,QX,Ja,Act.put,JC,JD,JG];clear bf av aa P
  go_wp2_with (at_builtin;go_loud (refine Al y rfl (.tmp 24) (.tmp 26) 47 rfl m.heap.size 9 infoStr underlying47 rfl Yd (slice a8 A.length a9) A.length (Ba A) rfl q.o.ans #[string ⟨Y.toArray⟩] rfl Yo rfl (by simp[Value.oneCell']) ?_ ?_ ?_))
  ·omega
  ·have:=q.o.ext.size;omega
  intro bo w2 T;obtain⟨bi,bj,rfl⟩:=Ab T.owns;obtain⟨ao,aj,ak⟩:=q.o.answer T;have U:=ao.trans q.o.box;have bh:=Aa U 5 _ rfl;have cf:=fun i=>Ag U i;have a3:=Yh aj;have a5:=Yh ak;clear T ao aj ak U I b1 b2 J K L N;go_wp2;go_ret;rw[G.o];exact⟨a4.o.trans a5.o,rfl,_,_,_,_,a3.o⟩
 ·have D:=Yh c;have F:=Yh ((Eh.of_ext E.o).trans d);have G:YH (M=⟨false,p,way,A⟩):=by show _=_;rw[ae.o,QP B]
  clear c d B r;go_wp2;go_ret;rw[G.o];exact⟨F.o,rfl,D.o⟩
theorem infoLevelT:(prog.info? 235).map (fun i=>(i.zero,i.size,i.bytes))=some (some (agg #[Nl,Nl,Nl,int i64 0,int i64 0]),5,88):=by kernel_rfl
theorem HA.step{cv':Value}{a b c f:Value}{n:ND}(h:HA B w cv ds xs)(hn:CV w a b c f n)(j:Eh w w')(l:w'.ownsRow B 235 5 cv' (ds.length+1) (xs++[a,b,c,f,int i64 k])):
  HA B w' cv' (ds++[(n,k)]) (xs++[a,b,c,f,int i64 k]):=by
 have m:=h.owns.1;refine⟨by simpa using l,fun i d hd=> ?_⟩;rcases QB i ds.length with hi|hi
 ·rw[Qc hi]at hd;obtain⟨o,p,q,r,s,t,u,v,x,g⟩:=h.all i d hd;exact⟨o,p,q,r,by rw[Qc Yo];exact s,by rw[Qc Yo];exact t,by rw[Qc Yo];exact u,by rw[Qc Yo];exact v,by rw[Qc Yo];exact x,g.fr j⟩
 ·have e:i=ds.length:=by
   have:=(Qa.1 hd).1;simp at this;omega
  subst e;rw[Qd (Qe _)]at hd;simp at hd;subst hd;exact⟨a,b,c,f,by rw[Qd Yo];simp[m],by rw[Qd Yo,show ds.length*5+1-xs.length=1 by omega];rfl,by rw[Qd Yo,show ds.length*5+2-xs.length=2 by omega];rfl,by rw[Qd Yo,show ds.length*5+3-xs.length=3 by omega];rfl,by rw[Qd Yo,show ds.length*5+4-xs.length=4 by omega];rfl,hn.fr j⟩
theorem OE.push{nv:Value}{way:Ln}{A:List (Lu)}{wa c:Oa}{wc d:Nat}{aa:Oa}{ac:Nat}{n:ND}{u v x y:Value}(h:OE w0 w b cv nv s p way A wa wc aa ac)(f:HA w0.heap.size w (slice wa way.length wc) way.reverse ys)(hn:CV w u v x y n)
  (ha:Ar w w0.heap.size 235 5 (slice wa way.length wc) (way.length+1) (ys++[u,v,x,y,int i64 0]) (slice c (way.length+1) d) w1):
  w1.heap[b]?=w.heap[b]?/\OE w0 (w1.setCell ⟨b,4,none⟩ (slice c (way.length+1) d)) b cv nv s p ((n,0)::way) A c d aa ac/\Eh w (w1.setCell ⟨b,4,none⟩ (slice c (way.length+1) d)):=by
 have D:=DY f.owns h.box Yd;have t:w1.heap[b]?=w.heap[b]?:=ha.kept.block b (Ac h.box) (fun e=>D b e rfl);have q:Eh w w1:=Eh.of_kept ha.kept (fun k e=>by
  rcases f.owns.2 with⟨e',_⟩|⟨g,z,B,e',_,m,_⟩
  ·rw[e']at e;simp[Ak,Value.ownBlock]at e
  ·rw[e']at e;simp[Ak,Value.ownBlock]at e;subst e;exact⟨_,_,_,m,by simp[HK]⟩)
 have o:=f.step (k:=0) hn q (by rw[Qv];exact ha.owns);have l:w1.ownsRow w0.heap.size 9 1 (slice aa A.length ac) A.length (Ba A):=Aj h.ans (fun k a=>ha.kept.block k (h.ans.lt k a).2 (fun e=>by
  rcases f.owns.2 with⟨e',_⟩|⟨g,z,B,e',_,m,_⟩
  ·rw[e']at e;simp[Ak,Value.ownBlock]at e
  ·rw[e']at e;simp[Ak,Value.ownBlock]at e;subst e;exact DY h.ans m Yd _ a rfl))
 have C:Ao w0 w1:=h.ext.trans (ha.kept.below h.ext.size (fun k e=>(f.owns.lt k e).1));have j:=t.trans h.box;have i:Ad (only b) w1 (w1.setCell ⟨b,4,none⟩ (slice c (way.length+1) d)):=(Ad.refl _ _).put 4 _;have r:Eh w1 (w1.setCell ⟨b,4,none⟩ (slice c (way.length+1) d)):=Eh.of_kept i (fun k e=>by
  have e:k=b:=e;subst e;exact⟨_,_,_,j,by simp[HK]⟩)
 exact⟨t,⟨C2 C i h.low,h.low,Ae j 4 _,⟨_,by rw[Qw];exact o.keep r (fun k a=>i.block k (o.owns.lt k a).2 (DY o.owns j Yd k a))⟩,Aj l (fun k a=>i.block k (l.lt k a).2 (DY l j Yd k a))⟩,q.trans r⟩
theorem PV(d w:World)(b:Nat)(r nv:Value)(s:ByteArray)(p:Nat)(way:Ln)(A:List (Lu))(names:At)(X ag ae af:Value)(n:ND)(h:FJ d w b r nv s p way A)(hn:CV w X ag ae af n)(Q:n.goals≠[])(ay:s.size<=20000)(ax:p<=s.size)(az:way.length<=20000):
  Calls prog 103 #[Pt b,agg #[X,ag,ae,af]] w (PZ d w b r nv s (Cj names s.data.toList n p way A)):=by
 obtain⟨t,v,F,H,G,C,E,D,u,rfl,rfl,rfl,rfl,bc⟩:=hn.shape;have aw:0<n.goals.length:=List.length_pos_iff.2 Q;obtain⟨m,hz⟩:=Ex n.goals.length;rw[<-hz]at aw hn⊢;obtain⟨N,y⟩:=Ex (w.alloc (.cells #[slice t m v,slice F H G,slice C E D,int i64 u] 87));have O:Ao w N:=by rw[y];exact Mxt
 have ab:N.heap[w.heap.size]?=some (.cells #[slice t m v,slice F H G,slice C E D,int i64 u] 87 (0,0)):=by rw[y];exact QL w _
 have q:=Yh (K6 d N b r nv s p way A 40 Yd (h.grow O) ay ax);have S:Cj names s.data.toList n p way A=if s.data.toList[p]?=some 40 then⟨true,p+1,(n,0)::way,A⟩else⟨false,p,way,A⟩:=by unfold Cj;rw[QP Q]
 obtain⟨M,Z⟩:=Ex (Cj names s.data.toList n p way A);rw[<-Z]at S⊢;have W:=Yh S;have ba:b<w.heap.size:=by
  obtain⟨_,_,_,_,h⟩:=h;exact Ac h.box
 have ap:=Yh hn;have K:=Yh O;have al:=Yh ab;simp only[show((40:UInt8).toNat:Int)=40 from rfl]at q;have ak:=Yh y
 have bd:((m:Int)==0)=false:=by rw[Qu];omega
 clear h hn S O ab y Q Z hz;go_enter func103,ntmps103;go_wp2_with fail;rw[<-ak.o];apply q.o.mono;rintro e w1 ⟨f,⟨B,rfl,a⟩|⟨B,rfl,a⟩⟩
 ·obtain⟨T,U,a0,a1,a⟩:=a;have l:=f _ _ _ _ al.o (by simp[HK]);have z:=a.box;obtain⟨L,x⟩:=Ex way.length;rw[<-x]at z az;obtain⟨a2,b1,b2,a3,a4,a5,a6⟩:=Iw z;have be:=Aa l 0 _ rfl;have bf:=Aa l 1 _ rfl;have bg:=Aa l 2 _ rfl;have bh:=Aa l 3 _ rfl;have bb:=Ac a.box;obtain⟨V,j⟩:=a.row;have Y:=(ap.o.ext K.o).fr f;have c:Ao w1 (w1.drewN 1):=Ao.of ((Ad.refl _ w1).drewN _);have ad:(w1.drewN 1).ownsRow d.heap.size 235 5 (slice T L U) L V:=by
   have:=(j.keep (Eh.of_ext c) (fun k R=>c.block k (j.owns.lt k R).2)).owns;rw[Qv,<-x]at this;exact this
  have a9:=a.ext.size;have an:YH (∀w2 I J,Ar (w1.drewN 1) d.heap.size 235 5 (slice T L U) (L+1) (V++[slice t m v,slice F H G,slice C E D,int i64 u,int i64 0]) (slice I (L+1) J) w2->w2.heap[b]?=w1.heap[b]?/\PZ d w b r nv s M (returned (.bool true)) (w2.setCell ⟨b,4,none⟩ (slice I (L+1) J))):=fun w2 I J g=>by
   have hd:=a.grow c;rw[x]at g⊢;obtain⟨ar,au,av⟩:=hd.push (j.keep (Eh.of_ext c) (fun k R=>c.block k (j.owns.lt k R).2)) (Y.ext c) g;refine⟨ar,?_⟩;rw[W.o,QQ B];exact⟨(((Eh.of_ext K.o).trans f).trans (Eh.of_ext c)).trans av,rfl,_,_,_,_,au⟩
  have aq:=Yh ad;have am:=Yh z;clear a f l z j Y c ad q x;go_wp2_with fail
  go_region_law (refine BA (w1.drewN 1) rfl (.tmp 37) (.tmp 40) 140 rfl d.heap.size 235 infoLevelT underlying140 rfl Yd (slice T L U) L V rfl aq.o #[slice t m v,slice F H G,slice C E D,int i64 u,int i64 0] rfl (by show _=w1.heap.size;omega) rfl Ng Yo (by show _<=w1.heap.size;omega) rfl ?_;intro bi w2 g;obtain⟨I,J,rfl⟩:=Ab g.owns;obtain⟨aa,ac⟩:=an.o _ _ _ g;have P:=aa.trans am.o;have a7:=Aa P 4 _ rfl;have a8:=fun i=>Ag P i;have ai:=Yh ac;clear g aa P ac)
  all_goals
   go_wp2;go_ret;exact ai.o
 ·have ah:=Yh a;have aj:=Yh ((Eh.of_ext K.o).trans f);have ao:YH (M=⟨false,p,way,A⟩):=by show _=_;rw[W.o,QP B]
  clear a f B q;go_wp2;go_ret;rw[ao.o];exact⟨aj.o,rfl,ah.o⟩
theorem HA.bump{b:Nat}{n:ND}(h:HA B w (slice (some ⟨b,0,none⟩) (ds.length+1) cap) (ds++[(n,k)]) xs)(a:Nat):
  HA B (w.setCell ⟨b,ds.length*5+4,none⟩ (int i64 a)) (slice (some ⟨b,0,none⟩) (ds.length+1) cap) (ds++[(n,a)]) (xs.set (ds.length*5+4) (int i64 a))/\Eh w (w.setCell ⟨b,ds.length*5+4,none⟩ (int i64 a)):=by
 have c:=h.owns;have z:=c.1;rw[Qg,Qn]at c z;have y:=CK w b (ds.length+1) cap (ds.length*5+4) (int i64 a);have f:Eh w (w.setCell ⟨b,ds.length*5+4,none⟩ (int i64 a)):=Eh.of_kept y (fun j u=>by
  rcases c.2 with⟨e,_⟩|⟨g,A,C,e,_,x,_⟩
  ·simp at e
  ·simp at e;obtain⟨rfl,_⟩:=e;simp[Ak,Value.ownBlock]at u;subst u;exact⟨_,_,_,x,by simp[HK]⟩)
 refine⟨⟨by rw[Qg,Qn];exact BY c _ _,fun i d hd=> ?_⟩,f⟩;rcases QB i ds.length with hi|hi
 ·rw[Qc hi]at hd;obtain⟨l,m,o,p,q,r,s,t,v,g⟩:=h.all i d (by rw[Qc hi];exact hd);exact⟨l,m,o,p,by rw[QF Yo];exact q,by rw[QF Yo];exact r,by rw[QF Yo];exact s,by rw[QF Yo];exact t,by rw[QF Yo];exact v,g.fr f⟩
 ·have e:i=ds.length:=by
   have:=(Qa.1 hd).1;simp at this;omega
  subst e;rw[Qd (Qe _)]at hd;simp at hd;subst hd;obtain⟨l,m,o,p,q,r,s,t,v,g⟩:=h.all ds.length (n,k) (by rw[Qd (Qe _)];simp);exact⟨l,m,o,p,by rw[QF Yo];exact q,by rw[QF Yo];exact r,by rw[QF Yo];exact s,by rw[QF Yo];exact t,by rw[List.getElem?_set_self Yo],g.fr f⟩
theorem OE.bump{a:Nat}{nv:Value}{n:ND}{A:List (Lu)}{wc:Nat}{aa:Oa}{ac:Nat}(h:OE w0 w b cv nv s p ((n,k)::r) A (some ⟨a,0,none⟩) wc aa ac)(d:Nat):
  OE w0 (w.setCell ⟨a,r.length*5+4,none⟩ (int i64 d)) b cv nv s p ((n,d)::r) A (some ⟨a,0,none⟩) wc aa ac/\Eh w (w.setCell ⟨a,r.length*5+4,none⟩ (int i64 d)):=by
 obtain⟨u,c⟩:=h.row;rw[Qf,Qw]at c;have t:a≠b:=DY c.owns h.box Yd a rfl;have q:w0.heap.size<=a:=(c.owns.lt a rfl).1;obtain⟨l,i⟩:=HA.bump (ds:=r.reverse) (n:=n) (k:=k) (xs:=u) (by rw[Qv];exact c) d;rw[Qv]at l i;have f:Ad (only a) w (w.setCell ⟨a,r.length*5+4,none⟩ (int i64 d)):=(Ad.refl _ _).put _ _;refine⟨⟨C2 h.ext f q,h.low,(f.block b (Ac h.box) (fun e=>t (by have e:b=a:=e;exact e.symm))).trans h.box,⟨_,by rw[Qf,Qw];exact l⟩,Aj h.ans (fun j m=>f.block j (h.ans.lt j m).2 (fun e=> ?_))⟩,i⟩;have e:j=a:=e;subst e;rcases c.owns.2 with⟨e',_⟩|⟨g,v,x,e',_,o,_⟩
 ·simp at e'
 ·simp at e';obtain⟨rfl,_⟩:=e';exact DY h.ans o Yd _ m rfl
theorem OE.other{q:Nat}{nv:Value}{way:Ln}{A:List (Lu)}{wa:Oa}{wc:Nat}{aa:Oa}{ac:Nat}{cl:Av}(h:OE w0 w b cv nv s p way A wa wc aa ac)(c:Ad (only q) w w')(f:w.heap[q]?=some (.cells cl 87 (0,0)))(hl:w0.heap.size<=q):OE w0 w' b cv nv s p way A wa wc aa ac:=by
 obtain⟨z,j⟩:=h.row;have l:DB (only q) w:=fun k e=>by
  have e:k=q:=e;subst e;exact⟨_,_,_,f,by simp[BP]⟩
 refine⟨C2 h.ext c hl,h.low,(c.block b (Ac h.box) (fun e=> ?_)).trans h.box,⟨z,Aj j.owns (fun k a=>c.block k (j.owns.lt k a).2 (DY j.owns f Yd k a)),fun i d hd=> ?_⟩,Aj h.ans (fun k a=>c.block k (h.ans.lt k a).2 (DY h.ans f Yd k a))⟩
 ·have e:b=q:=e;subst e;rw[h.box]at f;simp at f
 ·obtain⟨m,n,o,r,t,u,v,x,y,g⟩:=j.all i d hd;exact⟨m,n,o,r,t,u,v,x,y,g.keep c l⟩
theorem Eh.put{q:Nat}(h:Eh w w1)(b:Ad (only q) w1 w2)(d:w.heap.size<=q):Eh w w2:=fun k cl t fr e c=>by
 have a:=h k cl t fr e c;exact(b.block k (Ac a) (fun e'=>by have e':k=q:=e';have:=Ac e;omega)).trans a
theorem ST{a c d e:Value}(h:w.heap[b]?=some (.cells #[a,c,d,e] t (0,0))):
  w.cell? ⟨b,0,none⟩=some a/\w.cell? ⟨b,1,none⟩=some c/\w.cell? ⟨b,2,none⟩=some d/\w.cell? ⟨b,3,none⟩=some e/\∀i,w.frozen? ⟨b,i,none⟩=false:=
 ⟨Aa h 0 _ rfl,Aa h 1 _ rfl,Aa h 2 _ rfl,Aa h 3 _ rfl,fun i=>Ag h i⟩
def N9(w0 w:World)(b:Nat)(cv nv:Value)(s:ByteArray)(p:Nat)(n:ND)(r:Ln)(A:List (Lu))(L:Nat)(N:Option (Nat×Db))(e:Ending)(w':World):Prop:=Eh w w'/\
 ((N=none/\e= .returned (.tuple #[.int .i64 0,.agg #[.slice none 0 0,.slice none 0 0,.slice none 0 0,.int .i64 0],.int .i64 0])/\FJ w0 w' b cv nv s p ((n,L)::r) A)\/
 (∃j c,N=some (j,c)/\∃g1 g2 g3 v1 v2 v3 q1 q2 q3,∃uu o:Nat,e= .returned (.tuple #[.int .i64 j,.agg #[.slice g1 g2 g3,.slice v1 v2 v3,.slice q1 q2 q3,.int .i64 uu],.int .i64 o])/\FJ w0 w' b cv nv s p ((n,j+1)::r) A/\((o=2/\(Ax n c j).2=3)\/(o=1/\((Ax n c j).2=1\/(Ax n c j).2=2)/\CV w' (.slice g1 g2 g3) (.slice v1 v2 v3) (.slice q1 q2 q3) (.int .i64 uu) (Ax n c j).1))))
theorem Ul(I w:World)(b:Nat)(ca:Oa)(cc:Nat)(nv:Value)(s:ByteArray)(p:Nat)(n:ND)(k:Nat)(r:Ln)(A:List (Lu))(cs:Lc)(xs:List (Lv))(h:FJ I w b (slice ca cs.length cc) nv s p ((n,k)::r) A)(cq:Dy I (slice ca cs.length cc) cs xs)(cy:n.goals≠[])(bj:k<=cs.length)(ej:r.length<=20000)(cx:∀c∈cs,KR c/\Ry c)(cv:∀c∈cs,Mu c)(eh:cs.length<=24):
  Calls prog 138 #[Pt b] w (N9 I w b (slice ca cs.length cc) nv s p n r A cs.length (D7 cs n (cs.length-k) k)):=by
 obtain⟨N,bd⟩:=Ex (D7 cs n (cs.length-k) k);rw[<-bd];have dv:∃wa wc,w.cell? ⟨b,4,none⟩=some (slice wa (r.length+1) wc)/\b<w.heap.size:=by
  obtain⟨wa,wc,aa,ac,h⟩:=h;exact⟨wa,wc,Aa h.box 4 _ rfl,Ac h.box⟩
 obtain⟨wa,wc,K,eg⟩:=dv;have bv:=Yh h;have dm:=Yh cq;have dr:=Yh cy;have dq:=Yh cx;have dn:=Yh cv;have HN:=Yh bd;clear h cq cy cx cv bd;go_enter func138,ntmps138;go_wp2
 go_loopg [6] (cs.length+1) (fun gk tv wr=>∃ae:Nat,ae<=cs.length/\cs.length-ae<gk/\D7 cs n (cs.length-ae) ae=N/\FJ I wr b (slice ca cs.length cc) nv s p ((n,ae)::r) A/\Eh w wr/\wr.heap[w.heap.size]?=some (.cells #[Nl,Nl,Nl,int i64 0] 87 (0,0)))
 case atStart=>exact⟨k,bj,Yo,HN.o.symm,bv.o.grow Mxt,Eh.of_ext Mxt,QL w _⟩
 case round=>
  clear K bj;obtain⟨k,bj,ei,bm,⟨wa,wc,aa,ac,h⟩,ba,av⟩:=hrel;have E:=h.box;simp only[Qf]at E;obtain⟨ap,b1,b2,a5,K,a6,a7⟩:=Iw E;obtain⟨es,ad⟩:=h.row;simp only[Qf,Qw]at ad;have Z:=ad.owns;rw[Qg,Qv,Qn]at Z;obtain⟨ay,eq,er,c6,_,bn,em⟩:=An Z Yo;simp only[QH]at c6;obtain⟨rfl,_,rfl⟩:=c6;obtain⟨d9,ea,eb,ec,S,T,U,ak,al,au⟩:=ad.all r.length (n,k) (by rw[Qd Ys];simp);have b7:=Af Z _ _ al;simp only at b7;have d5:=fun i=>Ag bn i;have ek:(0:Int)<=(r.length:Int):=Yo
  have el:(r.length:Int)<(r.length:Int)+1:=Yo
  have bz:=Yh av;have bw:=Yh ba;have bx:=Yh h;have bk:I.heap.size<=w.heap.size:=by
   obtain⟨_,_,_,_,h⟩:=bv.o;exact h.ext.size
  by_cases bl:k<cs.length
  ·have d1:(k:Int)<(cs.length:Int):=Yo
   clear E ad Z bn S T U ak al au h ba av;go_wp2_with fail;go_quiet (fail);go_wp2_with fail;obtain⟨ao,bg⟩:=Ex ((wr.drewN nq).setCell ⟨ay,r.length*5+4,none⟩ (int i64 ((k:Int)+1)));rw[<-bg];have a9:Ao wr (wr.drewN nq):=Ao.of ((Ad.refl _ wr).drewN _);obtain⟨O,bb⟩:=(bx.o.grow a9).bump (k+1);rw[show((k+1:Nat):Int)=(k:Int)+1 by omega,<-bg]at O bb;have bc:Eh wr ao:=(Eh.of_ext a9).trans bb;have bh:=O.box;simp only[Qf]at bh;clear ap b1 b2 a5 K a6 a7 b7 d5;obtain⟨ap,b1,b2,a5,K,a6,a7⟩:=Iw bh;obtain⟨et,aw⟩:=O.row;simp only[Qf,Qw]at aw;have Q:=aw.owns;rw[Qg,Qv,Qn]at Q;obtain⟨d9,ea,eb,ec,S,T,U,ak,al,au⟩:=aw.all r.length (n,k+1) (by rw[Qd Ys];simp);obtain⟨d,P,rfl,be,cn,ck,ct⟩:=au;obtain⟨ci,cj,rfl⟩:=P.goals.shape;obtain⟨de,df,rfl⟩:=P.vals.shape;obtain⟨dc,dd,rfl⟩:=P.done.shape;simp only[Ql]at P S T U;have b3:=Af Q _ _ S;have b4:=Af Q _ _ T;have b5:=Af Q _ _ U;have b6:=Af Q _ _ ak;obtain⟨c,W⟩:∃c,cs[k]?=some c:=⟨_,Qb bl⟩;have bf:=dm.o.ext O.ext;obtain⟨lb,en,eo,c1,_,d0,_⟩:=An bf.owns Yo;simp only[QH]at c1;obtain⟨rfl,_,rfl⟩:=c1;obtain⟨ed,ee,cv2,c8,c9,da,X⟩:=bf.cell W;obtain⟨b8,b9,rfl⟩:=Ab X.head;obtain⟨cb,cd,rfl⟩:=X.body.shape;obtain⟨ce,cf,rfl⟩:=Ab X.names;obtain⟨bi,cw⟩:=dq.o c (Qh W);have dk:YH (∀V u,Ao ao.drew u->(∀k,V k->ao.heap.size<=k/\k<u.heap.size)->Calls prog 97 #[agg #[slice ci d.goals.length cj,slice de d.vals.length df,slice dc d.done.length dd,int i64 d.vars],agg #[slice b8 c.head.length b9,slice cb c.body.length cd,slice ce c.names.length cf]] u fun e bo=>∃r,e=returned r/\Ao u bo/\Ke d c k V r bo):=fun V u a du=>by
    have c7:Ao ao u:=a.undrew;apply(Mf u _ _ _ _ _ _ d c k be bi (P.ext c7) (X.ext c7)).mono;intro e bo h;exact h.toX (fun j dy=>(du j dy).2)
   have a2:=Yh bi;have a1:=Yh be;have dl:=Yh cn;have dj:=Yh ck;have am:=Yh ct;have dp:=Yh cw;have dh:YH (Mu c):=dn.o c (Qh W);have dg:=Yh O;have di:=Yh (bw.o.trans bc);have b0:=Yh (bc _ _ _ _ bz.o (by simp[HK]));have a4:YH ((if(Ax n c k).2=0 then D7 cs n (cs.length-(k+1)) (k+1)else some (k,c))=N):=by
    show _=_;rw[<-bm,show cs.length-k=(cs.length-(k+1))+1 by omega,D7,W]
   have dz:k+1<=cs.length:=bl;clear bg a9 O bb bc bh aw Q S T U ak al P bf X d0 bi be cn ck ct cw bm W;refine DL Yk [.pur (Pt b),.pur (Pt b),.pur (pointer (some ⟨b,4,none⟩)),.pur (slice (some ⟨ay,0,none⟩) (r.length+1) wc),.pur (int i64 r.length),.pur (pointer (some ⟨ay,r.length*5,none⟩)),.pur (pointer (some ⟨ay,r.length*5,none⟩)),.pur (agg #[slice ci d.goals.length cj,slice de d.vals.length df,slice dc d.done.length dd,int i64 d.vars]),
    .pur (Pt b),.pur (Pt b),.pur (Pt b),.pur (slice (some ⟨lb,0,none⟩) cs.length cc),.pur (int i64 k),.pur (pointer (some ⟨lb,k*3,none⟩)),.pur (agg #[slice b8 c.head.length b9,slice cb c.body.length cd,slice ce c.names.length cf]),
    .cal,.post (fun v=>v),.post (A9 0),.post (A9 1),.alo 87 #[Nl,Nl,Nl,int i64 0] 20 (fun v=>cellsOf (A9 0 v)),.sto 19,.post (A9 1)] 15 Yk (Ke d c k) 97 _ Ke.stable dk.o ?_ rfl Yd ?_
   ·refine⟨fun vc β u a=> ?_,fun vc β u a=> ?_,fun vc β u a=> ?_,fun vc β u a=> ?_,fun vc β u a=> ?_,fun vc β u a=> ?_,fun vc β u a=> ?_,fun vc β u a=> ?_,fun vc β u a=> ?_,fun vc β u a=> ?_,fun vc β u a=> ?_,fun vc β u a=> ?_,fun vc β u a=> ?_,fun vc β u a=> ?_,fun vc β u a=> ?_,fun vc β u=> ?_,?_,?_,?_,fun vc β u=> ?_,?_,?_,trivial⟩
    all_goals try(simp[pa,Kd.val,go_sem,a.up ap,a.up K,a.up b3,a.up b4,a.up b5,a.up b6,a.up c8,a.up c9,a.up da,bl];done)
    all_goals try(simp[pa,Kd.val,go_sem];done)
    all_goals try(rintro vc β V u ⟨f,M,g,z,B,C,m,q,x,y,db,rfl,_⟩;simp[pa,Kd.val,go_sem,A9];done)
    all_goals try(simp[pa,Kd.val,go_sem];intro h;omega)
    rintro vc β V u t eu ep cl Y ⟨f,M,g,z,B,C,m,q,x,y,db,rfl,_⟩ hb;simp at Y;obtain⟨rfl,rfl,rfl,rfl⟩:=Y;have bp:=Aa hb 0 _ rfl;have bq:=Aa hb 1 _ rfl;have br:=Aa hb 2 _ rfl;have bs:=Aa hb 3 _ rfl;have bu:=fun i=>Ag hb i;refine⟨_,?_,Ae (Ae (Ae (Ae hb 0 _) 1 _) 2 _) 3 _,((((Ad.refl (only (β 19)) u).put 0 _).put 1 _).put 2 _).put 3 _⟩;simp[pa,Kd.val,go_sem,bp,bq,br,bs,bu,A9]
   rintro vc β w5 F ⟨f,M,g,z,B,C,m,q,x,y,db,rfl,d2⟩ ar _;have F:=F.undrew;obtain⟨ef,E⟩:=ar 19 _ _ _ _ rfl;have H:w5.heap[β 19]?=some (.cells #[slice f M g,slice z B C,slice m q x,int i64 y] 87 (0,0)):=E;generalize dw:β 19=bt at*;have az:=Yh (dg.o.grow F);have a0:=Yh (di.o.trans (Eh.of_ext F));have R:=(F.block _ (Ac b0.o)).trans b0.o;have an:=Yh R;clear ap b1 b2 a5 K a6 a7 b3 b4 b5 b6 c8 c9 da;simp only[CD,pa,Kd.val,Ja,Act.put,A9];rw[dw];rcases d2 with⟨rfl,l⟩|⟨rfl,L,l⟩|⟨rfl,L,q0,ab,l,rfl,rfl,dx,d4,d3⟩
   ·have c2:(Ax n c k).2=0:=by
     rcases l with h|h
     ·exact absurd (QS (by rw[<-am.o.gl,h];rfl)) dr.o
     ·exact(Eb a1.o am.o a2.o h).1.symm
    have dt:YH (D7 cs n (cs.length-(k+1)) (k+1)=N):=by show _=_;rw[<-a4.o,QQ c2]
    clear E H ar F R l c2;go_wp2
    go_roundg (cs.length-k)
    case measure=>omega
    case rel=>exact⟨k+1,dz,Yo,dt.o,⟨_,_,_,_,az.o⟩,a0.o,an.o⟩
   ·have c3:(Ax n c k).2=3:=(Eb a1.o am.o a2.o l).1.symm;have a3:YH (∀J,Ad (only w.heap.size) w5 J->N9 I w b (slice (some ⟨lb,0,none⟩) cs.length cc) nv s p n r A cs.length N (Rq #[int i64 k,agg #[slice f M g,slice z B C,slice m q x,int i64 y],int i64 2]) J):=fun J D=>by
     refine⟨a0.o.put D (Qe _),QO ⟨k,c,?_,f,M,g,z,B,C,m,q,x,y,2,rfl,⟨_,_,_,_,az.o.other D an.o bk⟩,QG ⟨rfl,c3⟩⟩⟩;rw[<-a4.o,QP Yo]
    obtain⟨af,ag,ah,ai,aj⟩:=ST R;obtain⟨bp,bq,br,bs,bu⟩:=ST H;clear E H ar F R l c3;go_wp2_with fail;go_region
    all_goals
     go_wp2;refine Jb (v:=tuple #[int i64 k,agg #[slice f M g,slice z B C,slice m q x,int i64 y],int i64 2]) (by simp[results,results138,go_sem,af,ag,ah,ai,aj]) rfl ?_;exact a3.o _ Mkt
   ·obtain⟨cg,ch⟩:=Eb a1.o am.o a2.o l;obtain⟨cp,cu⟩:=ch ab;have c0:(Ax n c k).2=1\/(Ax n c k).2=2:=by rw[<-cg];exact ab
    have co:=OM l ab dl.o dp.o;have cm:=N5 l ab dj.o dh.o;obtain⟨d6,cz,_⟩:=dx;obtain⟨d7,c5,_⟩:=d4;obtain⟨d8,c4,_⟩:=d3;have a8:CV w5 (slice f L.goals.length g) (slice z B C) (slice m q x) (int i64 L.vars) (Ax n c k).1:=⟨L,⟨⟨d6,cz⟩,⟨d7,c5⟩,⟨d8,c4⟩⟩,rfl,cp,co,cm,cu⟩;have cr:DB (only w.heap.size) w5:=fun j e=>by
     have e:j=w.heap.size:=e;subst e;exact⟨_,_,_,an.o,by simp[BP]⟩
    obtain⟨G,aq⟩:=Ex L.goals.length;obtain⟨y,ax⟩:=Ex L.vars;rw[<-aq,<-ax]at a8;rw[<-aq]at H;rw[<-ax]at H;have a3:YH (∀J,Ad (only w.heap.size) w5 J->N9 I w b (slice (some ⟨lb,0,none⟩) cs.length cc) nv s p n r A cs.length N (Rq #[int i64 k,agg #[slice f G g,slice z B C,slice m q x,int i64 y],int i64 1]) J):=fun J D=>by
     refine⟨a0.o.put D (Qe _),QO ⟨k,c,?_,f,G,g,z,B,C,m,q,x,y,1,rfl,⟨_,_,_,_,az.o.other D an.o bk⟩,QO ⟨rfl,c0,a8.keep D cr⟩⟩⟩;rw[<-a4.o,QP Yo]
    obtain⟨af,ag,ah,ai,aj⟩:=ST R;obtain⟨bp,bq,br,bs,bu⟩:=ST H;rw[<-aq,<-ax];clear E H ar F R l ab c0 cg ch cp cu co cm cz c5 c4 a8 cr aq ax;go_wp2_with fail;go_region
    all_goals
     go_wp2;refine Jb (v:=tuple #[int i64 k,agg #[slice f G g,slice z B C,slice m q x,int i64 y],int i64 1]) (by simp[results,results138,go_sem,af,ag,ah,ai,aj]) rfl ?_;exact a3.o _ Mkt
  ·have Y:k=cs.length:=Yo
   have d1:¬(k:Int)<(cs.length:Int):=Yo
   obtain⟨af,ag,ah,ai,aj⟩:=ST av;have ds:YH (N=none):=by show _=_;rw[<-bm,Y,Nat.sub_self];rfl
   clear E ad Z bn S T U ak al au h ba av;go_wp2_with fail;go_quiet (fail);go_wp2;refine Jb (v:=tuple #[int i64 0,agg #[Nl,Nl,Nl,int i64 0],int i64 0]) (by simp[results,results138,go_sem,af,ag,ah,ai,aj]) rfl ?_;have D:Ad (only w.heap.size) wr (((((wr.drewN nq).setCell ⟨w.heap.size,0,none⟩ Nl).setCell ⟨w.heap.size,1,none⟩ Nl).setCell ⟨w.heap.size,2,none⟩ Nl).setCell ⟨w.heap.size,3,none⟩ (int i64 0)):=(((((Ad.refl _ wr).drewN _).put 0 _).put 1 _).put 2 _).put 3 _;exact⟨bw.o.put D (Qe _),QG ⟨ds.o,rfl,_,_,_,_,Y▸bx.o.other D bz.o bk⟩⟩
theorem O2{n:ND}:∀{f k j:Nat}{c:Db},D7 cs n f k=some (j,c)->cs[j]?=some c/\j<k+f:=by
 intro f
 induction f with
 |zero=>intro k j c h;simp[D7]at h
 |succ f e=>
  intro k j c h;rw[D7]at h
  cases a:cs[k]? with
  |none=>rw[a]at h;simp at h
  |some d=>
   rw[a]at h;simp only at h;split at h
   ·obtain⟨b,g⟩:=e h;exact⟨b,Yo⟩
   ·simp at h;obtain⟨rfl,rfl⟩:=h;exact⟨a,Yo⟩
structure Yb(w0:World)(ca:Option Addr)(cc:Nat)(nv:Value)(cs:List Db)(names:At):Prop where
 prog:∃xs,Dy w0 (.slice ca cs.length cc) cs xs
 ok:∀c∈cs,KR c/\Ry c
 cf:∀c∈cs,Mu c
 cl:cs.length<=24
 row:w0.ownsRow 0 9 1 nv names.length (Ba names)
 few:names.length<=60
 short:∀x∈names,x.length<=8
theorem Yb.enter{ca:Oa}{cc:Nat}{nv:Value}{way:Ln}{A:List (Lu)}{names:At}{a c:Value}{n:ND}(d:Yb w0 ca cc nv cs names)(h:FJ w0 w b (slice ca cs.length cc) nv s p way A)(hn:CV w gv vv a c n)(j:n.vals.length=names.length)(g:s.size<=20000)(f:p<=s.size)(i:A.length<=20000)(k:way.length<=20000):
  Calls Tryz.prog 103 #[Pt b,agg #[gv,vv,a,c]] w (PZ w0 w b (slice ca cs.length cc) nv s (Cj names s.data.toList n p way A)):=by
 by_cases e:n.goals=[]
 ·exact Re w0 w b _ nv s p way A names gv vv a c n h hn e d.row j d.few d.short g f i
 ·exact PV w0 w b _ nv s p way A names gv vv a c n h hn e g f k
theorem VF(G w:World)(b:Nat)(ca:Oa)(cc:Nat)(nv:Value)(s:ByteArray)(p:Nat)(n:ND)(k:Nat)(r:Ln)(A:List (Lu))(cs:Lc)(names:At)(y:Yb G ca cc nv cs names)(h:FJ G w b (slice ca cs.length cc) nv s p ((n,k)::r) A)(a0:n.goals≠[])(bp:n.vals.length=names.length)(bk:k<=cs.length)(a2:s.size<=20000)(bo:p<=s.size)(bj:A.length<=20000)(b7:r.length+1<=20000):
  Calls Tryz.prog 104 #[Pt b] w (PZ G w b (slice ca cs.length cc) nv s (LW cs names s.data.toList n k p r A)):=by
 obtain⟨xs,ax⟩:=y.prog;have z:=Yh (Ul G w b ca cc nv s p n k r A cs xs h ax a0 bk Yo y.ok y.cf y.cl);obtain⟨M,Z⟩:=Ex (LW cs names s.data.toList n k p r A);have ab:∀j c,D7 cs n (cs.length-k) k=some (j,c)->j<24:=fun j c h=>by
  have:=(O2 h).2;have:=y.cl;omega
 have R:=Z;unfold LW at R;rw[<-Z];obtain⟨N,av⟩:=Ex (D7 cs n (cs.length-k) k);rw[<-av]at R ab z;have C:=Yh R;have ah:=Yh y;have X:=Yh ab;clear h a0 y ax Z R av ab;go_enter Tryz.func104,Tryz.ntmps104;go_wp2_with fail;apply z.o.mono;rintro e w1 ⟨E,⟨aw,rfl,l⟩|⟨j,c,O,aj,ak,al,a7,a8,a9,a3,a4,a5,a6,o,rfl,l,bn⟩⟩
 ·obtain⟨d,g⟩:=Ex (w1.alloc (.cells #[Nl,Nl,Nl,int i64 0] 87));have m:Ao w1 d:=by rw[g];exact Mxt
  have U:=Yh (RM G d b _ nv s p (n,cs.length) r A (l.grow m) a2 bo Yo);have f:YH (M=if s.data.toList[p]?=some 41 then⟨true,p+1,r,A⟩else⟨false,p,(n,cs.length)::r,A⟩):=by show _=_;rw[C.o,aw]
  have t:=Yh (E.trans (Eh.of_ext m));have B:=Yh g;clear l E m g aw z C;go_wp2_with fail;rw[<-B.o];apply U.o.mono;rintro e w2 ⟨K,⟨F,rfl,D⟩|⟨F,rfl,D⟩⟩
  ·have a:YH (M=⟨true,p+1,r,A⟩):=by show _=_;rw[f.o,QQ F]
   have v:=Yh (t.o.trans K);have q:=Yh D;clear K D F U;go_wp2;go_ret;rw[a.o];exact⟨v.o,rfl,q.o⟩
  ·have a:YH (M=⟨false,p,(n,cs.length)::r,A⟩):=by show _=_;rw[f.o,QP F]
   have v:=Yh (t.o.trans K);have q:=Yh D;clear K D F U;go_wp2;go_ret;rw[a.o];exact⟨v.o,rfl,q.o⟩
 ·obtain⟨d,g⟩:=Ex (w1.alloc (.cells #[slice aj ak al,slice a7 a8 a9,slice a3 a4 a5,int i64 a6] 87));have m:Ao w1 d:=by rw[g];exact Mxt
  have b4:=X.o j c O;have t:=Yh (E.trans (Eh.of_ext m));have H:=Yh (l.grow m);have f:=C.o;rw[O]at f;simp only at f;rcases bn with⟨rfl,an⟩|⟨rfl,am,aq⟩
  ·have a:YH (M=⟨false,p,(n,j+1)::r,A⟩):=by show _=_;rw[f,QQ (QG an)]
   have B:=Yh g;clear l E m g O z C f an X ah;go_wp2;go_ret;rw[<-B.o,a.o];exact⟨t.o,rfl,H.o⟩
  ·obtain⟨V,P⟩:=Ex ((As (s.data.toList.drop p)).1);obtain⟨i,Q⟩:=Ex ((As (s.data.toList.drop p)).2);have a1:=Cd (s.data.toList.drop p);rw[JI,show s.data.toList.length=s.size by simp,<-P,<-Q]at a1;obtain⟨b8,b9,cb⟩:=a1;have T:=Yh (fun u=>Sl s p u Yo Yo);rw[<-P,<-Q]at T;rw[<-P,<-Q]at f;have az:d.heap[w1.heap.size]?=some (.cells #[slice aj ak al,slice a7 a8 a9,slice a3 a4 a5,int i64 a6] 87 (0,0)):=by rw[g];exact QL w1 _
   have W:=Yh az;have ba:=Yh (aq.ext m);have B:=Yh g;have bq:(Ax n c j).1.vals.length=names.length:=by rw[F9 am];exact bp
   have bm:(Ax n c j).2≠3:=Yo
   obtain⟨wa,wc,aa,ac,Y⟩:=H.o;obtain⟨be,b1,b2,bf,bg,bh,bi⟩:=Iw Y.box;have I:=Yh Y;have J:=Yh f;clear l E m g O z C f X P Q az aq Y am;go_wp2_with fail;rw[<-B.o];go_quiet ((go_at_call 96;exact Calls.quiet_of_same (T.o _)));have x:Ao d (d.drewN nq):=Ao.of ((Ad.refl _ d).drewN _)
   by_cases ae:i=0
   ·have a:YH (M=⟨false,p,(n,j+1)::r,A⟩):=by show _=_;rw[J.o,QQ (QO (QG ae))]
    have q:=Yh (H.o.grow x);have v:=Yh (t.o.trans (Eh.of_ext x));subst ae;clear x;go_wp2;go_ret;rw[a.o];exact⟨v.o,rfl,q.o⟩
   ·have b5:(((p:Int)+(i:Int))==(p:Int))=false:=by rw[Qu];omega
    by_cases ad:V=j
    ·subst ad;have a:YH (M=Cj names s.data.toList (Ax n c V).1 (p+i) ((n,V+1)::r) A):=by show _=_;rw[J.o,QP (by rintro(h|h|h);exact bm h;exact ae h;exact h rfl)]
     have bl:((V:Int) !=(V:Int))=false:=Ys
     obtain⟨w5,S⟩:=Ex ((d.drewN nq).setCell ⟨b,3,none⟩ (int i64 ((p:Int)+(i:Int))));have au:Ad (only b) d w5:=by rw[S];exact((Ad.refl _ _).drewN _).put 3 _
     obtain⟨ap,L⟩:=I.o.upd (p':=p+i) au (by rw[S,show((p+i:Nat):Int)=(p:Int)+(i:Int) by omega];exact Ae (w:=d.drewN nq) I.o.box 3 _) I.o.row;have ag:=Yh (ah.o.enter (way:=(n,V+1)::r) (A:=A) (p:=p+i) ⟨_,_,_,_,ap⟩ (ba.o.fr L) bq a2 Yo bj (by rw[Qf];omega));have bb:=Yh (t.o.trans L);have ay:=L _ _ _ _ W.o (by simp[HK]);obtain⟨bw,bx,bz,b0,b3⟩:=ST ay;have b6:b≠w1.heap.size:=fun e=>by
      have l:=W.o;rw[<-e,I.o.box]at l;simp at l
     have bd:=Yh S;obtain⟨br,bs,bt,bu,bv⟩:=ST W.o;clear x au ap L ay S T J;go_wp2_with fail;rw[<-bd.o];apply ag.o.mono;rintro e cd ⟨ar,rfl,ao⟩;have af:=Yh ao;have bc:=Yh (bb.o.trans ar);rw[<-a.o]at af;have ai:(Cj names s.data.toList (Ax n c V).1 (p+i) ((n,V+1)::r) A)=M:=a.o.symm;rw[ai];clear ao ar ag a ai be b1 b2 bf bg bh bi bw bx bz b0 b3 br bs bt bu bv;go_wp2;go_ret;exact⟨bc.o,rfl,af.o⟩
    ·have bl:((V:Int) !=(j:Int))=true:=by rw[QR];omega
     have a:YH (M=⟨false,p,(n,j+1)::r,A⟩):=by show _=_;rw[J.o,QQ (QO (QO ad))]
     have q:=Yh (H.o.grow x);have v:=Yh (t.o.trans (Eh.of_ext x));clear x ad;go_wp2;go_ret;rw[a.o];exact⟨v.o,rfl,q.o⟩
structure O8(cs:List Db)(names:At)(l:List UInt8)(M:HM):Prop where
 way:∀y∈M.way,y.1.goals≠[]/\y.2<=cs.length/\y.1.vals.length=names.length
 le:M.at'<=l.length
 cnt:M.ans.length+M.way.length<=M.at'
theorem Nk{names:At}{l:Lu}{n:ND}{way:Ln}{A:List (Lu)}(h:O8 cs names l ⟨true,p,way,A⟩)(hn:n.vals.length=names.length):O8 cs names l (Cj names l n p way A)/\((Cj names l n p way A).ok=true->p<(Cj names l n p way A).at'):=by
 obtain⟨a,b,c⟩:=h;simp only at a b c;unfold Cj;split
 ·split
  ·rename_i d;have:=(Qa.1 d).1;exact⟨⟨a,this,by simp only[Qg,Qn];omega⟩,fun _=>Nat.lt_succ_self _⟩
  ·exact⟨⟨a,b,c⟩,fun e=>by simp at e⟩
 ·rename_i g;split
  ·rename_i d;have:=(Qa.1 d).1;refine⟨⟨fun y f=> ?_,this,by simp only[Qf];omega⟩,fun _=>Nat.lt_succ_self _⟩;rcases Qp.1 f with rfl|f
   ·exact⟨g,Qm _,hn⟩
   ·exact a y f
  ·exact⟨⟨a,b,c⟩,fun e=>by simp at e⟩
theorem XY{names:At}{l:Lu}{n:ND}{A:List (Lu)}(h:O8 cs names l ⟨true,p,(n,k)::r,A⟩):O8 cs names l (LW cs names l n k p r A)/\((LW cs names l n k p r A).ok=true->p<(LW cs names l n k p r A).at'):=by
 obtain⟨g,i,s⟩:=h;simp only[Qf]at g i s;have o:=g (n,k) Ys;have v:∀y∈r,y.1.goals≠[]/\y.2<=cs.length/\y.1.vals.length=names.length:=fun y b=>g y (by simp[b]);have m:∀q,q<=cs.length->∀y∈(n,q)::r,y.1.goals≠[]/\y.2<=cs.length/\y.1.vals.length=names.length:=fun q x y b=>by
  rcases Qp.1 b with rfl|b
  ·exact⟨o.1,x,o.2.2⟩
  ·exact v y b
 unfold LW
 cases t:D7 cs n (cs.length-k) k with
 |none=>
  simp only;split
  ·rename_i a;have:=(Qa.1 a).1;exact⟨⟨v,this,by simp only;omega⟩,fun _=>Nat.lt_succ_self _⟩
  ·exact⟨⟨m _ (Qe _),i,by simp only[Qf];omega⟩,fun e=>by simp at e⟩
 |some D=>
  obtain⟨j,c⟩:=D;obtain⟨a,_⟩:=O2 t;have u:=(Qa.1 a).1;simp only;split
  ·exact⟨⟨m _ u,i,by simp only[Qf];omega⟩,fun e=>by simp at e⟩
  ·rename_i B;have z:=Cd (l.drop p);rw[JI]at z;have w:(Ax n c j).2=1\/(Ax n c j).2=2:=by
    have h0:(Ax n c j).2≠0:=by
     have:∀{f k:Nat},D7 cs n f k=some (j,c)->(Ax n c j).2≠0:=by
      intro f
      induction f with
      |zero=>intro k h;simp[D7]at h
      |succ f C=>
       intro k h;rw[D7]at h
       cases a:cs[k]? with
       |none=>rw[a]at h;simp at h
       |some d=>
        rw[a]at h;simp only at h;split at h
        ·exact C h
        ·simp at h;obtain⟨rfl,rfl⟩:=h;assumption
     exact this t
    have s:(Ax n c j).2≠3:=fun h=>B (QG h);have:=Gd n c j;omega
   have:=Nk (cs:=cs) (names:=names) (l:=l) (n:=(Ax n c j).1) (p:=p+(As (l.drop p)).2) (way:=(n,j+1)::r) (A:=A) ⟨m _ u,by simp only;omega,by simp only[Qf];omega⟩ (by rw[F9 w];exact o.2.2);exact⟨this.1,fun e=>by have:=this.2 e;omega⟩
def KU(w0 w:World)(R:HN)(e:Ending)(w':World):Prop:=Eh w w'/\Ao w0 w'/\
 ((R.wrong=true/\e= .returned (.tuple #[.slice none 0 0,.agg #[.int .i64 7,.int .i64 R.at']]))\/(R.wrong=false/\∃va vc,e= .returned (.tuple #[.slice va R.ans.length vc,.agg #[.int .i64 0,.int .i64 0]])/\w'.ownsRow w0.heap.size 9 1 (.slice va R.ans.length vc) R.ans.length (Ba R.ans)))
theorem KM(c w:World)(b:Nat)(ca:Oa)(cc:Nat)(nv:Value)(s:ByteArray)(cs:Lc)(names:At)(ae ax av aw:Value)(n:ND)(i:HN)(S:Yb c ca cc nv cs names)(h:FJ c w b (slice ca cs.length cc) nv s 0 [] [])(hn:CV w ae ax av aw n)(T:n.vals.length=names.length)(aq:s.size<=20000)(N:Kh cs names s.data.toList (Cj names s.data.toList n 0 [] []) i):
  Calls prog 82 #[Pt b,agg #[ae,ax,av,aw]] w (KU c w i):=by
 obtain⟨bd,be,bk,bm,bl,bh,bj,bi,u,rfl,rfl,rfl,rfl,br⟩:=hn.shape;obtain⟨bn,hz⟩:=Ex n.goals.length;rw[<-hz]at hn⊢;obtain⟨F,z⟩:=Ex ((w.alloc (.cells #[slice bd bn be,slice bk bm bl,slice bh bj bi,int i64 u] 87)).alloc (.cells #[int i64 0,int i64 0] 91));have x:Ao w F:=by rw[z];exact Mxt
 have aj:F.heap[w.heap.size+1]?=some (.cells #[int i64 0,int i64 0] 91 (0,0)):=by rw[z];exact CO Ys _
 have ar:s.data.toList.length=s.size:=Ys
 have B:=Yh (S.enter (h.grow x) (hn.ext x) T aq (Qm _) Ys Ys);have ap:=Nk (cs:=cs) (names:=names) (l:=s.data.toList) (n:=n) (p:=0) (way:=[]) (A:=[]) ⟨fun y bg=>by simp at bg,Qm _,Ys⟩ T;have Z:=Yh ap.1;obtain⟨M,ah⟩:=Ex (Cj names s.data.toList n 0 [] []);rw[<-ah]at B N Z;have a2:=Yh N;have a7:=Yh S;have W:=Yh x;have a4:=Yh aj;have a3:=Yh z;have ab:=Yh ar;have bp:c.heap.size<=w.heap.size:=by
  obtain⟨_,_,_,_,h⟩:=h;exact h.ext.size
 clear h hn S N x aj z ar ap ah hz T;go_enter func82,ntmps82;go_wp2_with fail;rw[<-a3.o];apply B.o.mono;rintro e w1 ⟨af,rfl,J⟩;have ay:=Yh J;have a0:=Yh af;clear J af B;go_wp2
 go_loopg [6] (s.size+2) (fun gk bf wr=>∃M:HM,bf= .bool M.ok/\Kh cs names s.data.toList M i/\O8 cs names s.data.toList M/\(if M.ok then s.size-M.at'+1 else 0)<gk/\FJ c wr b (slice ca cs.length cc) nv s M.at' M.way M.ans/\Eh F wr)
 case atStart=>exact⟨M,rfl,a2.o,Z.o,by split<;>omega,ay.o,a0.o⟩
 case round=>
  obtain⟨⟨ok,p,way,A⟩,rfl,d,a,j,⟨wa,wc,aa,ac,t⟩,K⟩:=hrel;simp only at d a j t;have Q:=a.le;have O:=a.cnt;rw[ab.o]at Q;simp only at Q O;have ak:=t.box;obtain⟨a9,b1,b2,ba,ad,bb,bc⟩:=Iw ak;have P:=K _ _ _ _ a4.o (by simp[HK]);obtain⟨G,H,I⟩:=Gs P;have f:=Yh t;have C:=Yh K;have a5:=Yh P;clear t K P ak
  cases ok with
  |false=>
   obtain⟨au,ha⟩:=d.2 rfl;simp only at ha;have E:YH (∀w2,Ad (only (w.heap.size+1)) wr w2->KU c w i (Rq #[Nl,agg #[int i64 7,int i64 p]]) w2):=fun w2 g=>by
    refine⟨((Eh.of_ext W.o).trans C.o).put g Yo,C2 f.o.ext g Yo,QG ⟨au,by rw[ha]⟩⟩
   clear d a j au ha;go_wp2_with fail;go_region
   all_goals
    go_wp2;refine Jb (v:=tuple #[Nl,agg #[int i64 7,int i64 p]]) (by simp[results,results82,go_sem,G,H,I]) rfl ?_;exact E.o _ Mkt
  |true=>
   cases way with
   |nil=>
    have m:=V7 (d.1 rfl);simp only at m;have E:YH (∀w2,Ad (only (w.heap.size+1)) wr w2->KU c w i (Rq #[slice aa A.length ac,agg #[int i64 0,int i64 0]]) w2):=fun w2 g=>by
     refine⟨((Eh.of_ext W.o).trans C.o).put g Yo,C2 f.o.ext g Yo,QO ⟨by rw[m],aa,ac,by rw[m],?_⟩⟩;rw[m];exact Aj f.o.ans (fun k ao=>g.block k (f.o.ans.lt k ao).2 (DY f.o.ans a5.o Yd k ao))
    clear d a j m;go_wp2;refine Jb (v:=tuple #[slice aa A.length ac,agg #[int i64 0,int i64 0]]) (by simp[results,results82,go_sem,G,H,I]) rfl ?_;exact E.o _ Mkt
   |cons y r=>
    obtain⟨V,U⟩:=y;obtain⟨al,am,an⟩:=a.way (V,U) Ys;have D:=Yh (VF c wr b ca cc nv s p V U r A cs names a7.o ⟨_,_,_,_,f.o⟩ al an am aq Q Yo (by simp only[Qf]at O;omega));have X:=Yh (TR (d.1 rfl));obtain⟨L,R⟩:=XY a;obtain⟨a8,ai⟩:=Ex (LW cs names s.data.toList V U p r A);rw[<-ai]at D X L R;have Y:=Yh L;have a6:=Yh R;simp only[Qf]at ad O;have bq:(0:Int)<(r.length:Int)+1:=Yo
    have bo:s.size-p+1<gk:=by simpa using j
    clear d a j al am an L R ai;go_wp2_with fail;apply D.o.mono;rintro e w2 ⟨ag,rfl,q⟩;have az:=Yh q;have a1:=Yh (C.o.trans ag);clear q ag D a9 b1 b2 ba ad bb bc G H I;go_wp2
    go_roundg (s.size-p+1)
    case measure=>omega
    case rel=>
     refine⟨a8,rfl,X.o,Y.o,?_,az.o,a1.o⟩;split
     ·rename_i e;have J:=a6.o e;have q:=Y.o.le;rw[ab.o]at q;omega
     ·omega
def Iz(p q t:ByteArray)(w:World)(e:Ending)(w':World):Prop:=Ao w w'/\∃va vc,e= .returned (.tuple #[.slice va (CA p q t).1.length vc,.agg #[.int .i64 (CA p q t).2.1,.int .i64 (CA p q t).2.2]])/\w'.ownsRow w.heap.size 9 1 (.slice va (CA p q t).1.length vc) (CA p q t).1.length (Ba (CA p q t).1)
theorem J7{p q t:ByteArray}{a b:Nat}(h:CA p q t=([],a,b))(c:Ao w w'):Iz p q t w (Rq #[Nl,agg #[int i64 a,int i64 b]]) w':=by
 refine⟨c,none,0,?_,?_⟩
 ·rw[h];rfl
 ·rw[h];exact Q2 _ _ _ _
theorem PC(p q t:ByteArray)(w:World)(br:p.size<=maxLen)(bs:q.size<=maxLen)(ck:t.size<=maxLen):Calls prog 60 #[string p,string q,string t] w (Iz p q t w):=by
 obtain⟨U,P⟩:=Ex (w.alloc (.cells #[int i64 0,int i64 0] 91));have a4:=Yh (Ka p q U br bs);have bd:Ao w U:=by rw[P];exact Mxt
 have bm:U.heap[w.heap.size]?=some (.cells #[int i64 0,int i64 0] 91 (0,0)):=by rw[P];exact QL w _
 have co:U.heap.size=w.heap.size+1:=by rw[P];simp
 have bx:=Yh P;have a5:=Yh bd;have b2:=Yh bm;unfold maxLen at ck;clear br bs P bd bm;go_enter func60,ntmps60;go_wp2_with fail;rw[<-bx.o];apply a4.o.mono;rintro e w1 ⟨aa,ca⟩;have cp:=aa.size;have aj:=(aa.block _ Yo).trans b2.o;obtain⟨m,n,r⟩:=Gs aj;have Q:=Ac aj;have G:=Yh (a5.o.trans (aa.mono a5.o.size));have ba:=Yh aj;clear aa aj a4;have aq:YH (∀w2 au D,CA p q t=([],au,D)->Ad (only w.heap.size) w1 w2->Iz p q t w (Rq #[Nl,agg #[int i64 (au:Nat),int i64 (D:Nat)]]) w2):=fun w2 au D ha z=>J7 ha (C2 G.o z (Qe _));rcases ca with⟨R,rfl⟩|⟨⟨cs,c⟩,R,rfl⟩|⟨cs,a,M,lc,xs,X,Y,Z,b1,W,y,nc,c,x,rfl,ag,ah,K⟩
 ·have g:YH (CA p q t=([],4,0)):=by show _=_;simp[CA,R]
  clear R;go_wp2;refine Jb (v:=tuple #[Nl,agg #[int i64 4,int i64 0]]) (by simp[results,results60,go_sem,m,n,r,Q]) rfl ?_;exact aq.o _ 4 0 g.o Mkt
 ·have g:YH (CA p q t=([],5,0)):=by show _=_;simp[CA,R,c]
  clear R c;go_wp2;refine Jb (v:=tuple #[Nl,agg #[int i64 5,int i64 0]]) (by simp[results,results60,go_sem,m,n,r,Q]) rfl ?_;exact aq.o _ 5 0 g.o Mkt
 ·by_cases L:20000<t.size
  ·have g:YH (CA p q t=([],1,0)):=by show _=_;simp[CA,c,x,L]
   have cl:(20000:Int)<(t.size:Int):=Yo
   clear ag ah K c x L;go_wp2;refine Jb (v:=tuple #[Nl,agg #[int i64 1,int i64 0]]) (by simp[results,results60,go_sem,m,n,r,Q]) rfl ?_;exact aq.o _ 1 0 g.o Mkt
  ·have cl:¬(20000:Int)<(t.size:Int):=Yo
   obtain⟨V,J⟩:=Ex (w1.alloc (.cells #[slice X Y Z,slice b1 a.1.length W,slice y a.2.length nc] 107));have I:Ao w1 V:=by rw[J];exact Mxt
   have a0:V.heap[w1.heap.size]?=some (.cells #[slice X Y Z,slice b1 a.1.length W,slice y a.2.length nc] 107 (0,0)):=by rw[J];exact QL w1 _
   have cq:V.heap.size=w1.heap.size+1:=by rw[J];simp
   have f:=Yh (MD t V Yo);have a9:=Yh J
   cases C:DJ t.data.toList with
   |some D=>
    have g:YH (CA p q t=([],6,D)):=by show _=_;simp[CA,c,x,L,C]
    unfold Ou at f;rw[C]at f;simp only at f;have N:=Yh I;have bn:=(I.block _ Q).trans ba.o;have ap:=Yh bn;clear ag ah K c x L C I a0 J bn;go_wp2_with fail;rw[<-a9.o];apply f.o.mono;rintro e w3 ⟨s,rfl⟩;have cj:=s.size;have az:=(s.block _ Yo).trans ap.o;have T:=Yh (N.o.trans (s.mono N.o.size));clear s f m n r;obtain⟨m,n,r⟩:=Gs az;have O:YH (∀w4,Ad (only w.heap.size) w3 w4->Iz p q t w (Rq #[Nl,agg #[int i64 6,int i64 D]]) w4):=fun w4 z=>J7 g.o (C2 (G.o.trans (T.o.mono G.o.size)) z (Qe _));have ch:=Ac az;clear az;go_wp2_with fail;go_region
    all_goals
     go_wp2;refine Jb (v:=tuple #[Nl,agg #[int i64 6,int i64 D]]) (by simp[results,results60,go_sem,m,n,r,ch]) rfl ?_;exact O.o _ Mkt
   |none=>
    obtain⟨l,ax⟩:=Ex (Hl cs a t.data.toList);have aw:=U4 cs a C;rw[<-ax]at aw;have g:YH (CA p q t=if l.wrong=true then([],7,l.at')else(l.ans,0,0)):=by show _=_;simp[CA,c,x,L,C,ax]
    unfold Ou at f;rw[C]at f;simp only at f;obtain⟨_,_,_,bp,cg⟩:=Cv c;obtain⟨_,_,_,af,bi,cd,ce,bj,bl⟩:=Cq x;have bk:=Jl x;have bg:=NN x;have bh:Yb w1 M lc (slice y a.2.length nc) cs a.2:=⟨⟨xs,ag⟩,bp,K9 c,cg,K,bk,bl⟩;have a8:YH (∀u,Ao w1 u->Calls prog 51 #[agg #[slice X Y Z,slice b1 a.1.length W,slice y a.2.length nc]] u _):=fun u bt=>Lm u (slice X Y Z) (slice b1 a.1.length W) (slice y a.2.length nc) a.1 a.2 ⟨_,_,_,rfl⟩ (ah.ext bt) (Aj K (fun j am=>bt.block j (K.lt j am).2)) Yo Yo (Vq af bj);have bc:YH (∀u A B E vc b,FJ w1 u b (slice M cs.length lc) (slice y a.2.length nc) t 0 [] []->AF u (slice A a.1.length B) a.1->AF u (slice E a.2.length vc) ((List.range a.2.length).map vr)->Calls prog 82 #[Pt b,agg #[slice A a.1.length B,slice E a.2.length vc,Nl,int i64 a.2.length]] u (KU w1 u l)):=fun u A B E vc b cc al ao=>by
     have cb:CV u (slice A a.1.length B) (slice E a.2.length vc) Nl (int i64 a.2.length) (AN a):=by
      refine⟨AN a,⟨?_,ao,⟨[],AK.nil _ _⟩⟩,rfl,af,bi,bg,Cl.refl af⟩;have:(AN a).goals.map (·.1)=a.1:=by unfold AN;rw[QK];exact(JE (fun _ _=>rfl)).trans (List.map_id _)
      rw[this];exact al
     exact KM w1 u b M lc _ t cs a.2 _ _ _ _ (AN a) l bh cc cb (by simp[AN]) Yo aw
    have N:=Yh I;have ap:=Yh ((I.block _ Q).trans ba.o);have b6:=Yh a0;clear ag ah K c x L C I a0 J bp af bi cd ce bj bk bl bg bh aw ax;go_wp2_with fail;rw[<-a9.o];apply f.o.mono;rintro e w3 ⟨s,rfl⟩;have cj:=s.size;have b3:=Yh ((s.block _ Yo).trans ap.o);have a1:=(s.block _ Yo).trans b6.o;have T:=Yh (N.o.trans (s.mono N.o.size));obtain⟨H,ai⟩:=Ex ((w3.alloc (.cells #[int i64 0,int i64 0] 91)).alloc (.cells #[slice M cs.length lc,slice y a.2.length nc,string t,int i64 0,Nl,Nl] 142));have ac:Ao w3 H:=by rw[ai];exact Mxt
    have bo:H.heap[w3.heap.size+1]?=some (.cells #[slice M cs.length lc,slice y a.2.length nc,string t,int i64 0,Nl,Nl] 142 (0,0)):=by rw[ai];exact heap_alloc2_new w3 _ _
    have ab:Ao w1 H:=T.o.trans (ac.mono T.o.size);have bw:YH (FJ w1 H (w3.heap.size+1) (slice M cs.length lc) (slice y a.2.length nc) t 0 [] []):=⟨none,0,none,0,ab,Yo,bo,⟨[],⟨Q2 _ _ _ _,fun i d h=>by simp at h⟩⟩,Q2 _ _ _ _⟩;obtain⟨b7,b8,b9,cf⟩:=FX a1;have cn:=Ac a1;have a7:=Yh (a8.o H ab);have bb:=Yh ((ac.block _ Yo).trans b3.o);have cm:=Yh ab;have bz:=Yh ai;have cr:=ac.size;clear s f m n r a1 ac bo ab ai a8;go_wp2_with fail;rw[<-bz.o];apply a7.o.mono;rintro e bu ⟨ad,A,B,E,vc,rfl,al,ao⟩;have ct:=ad.size;obtain⟨ar,ay⟩:=Ex (bu.alloc (.cells #[slice A a.1.length B,slice E a.2.length vc,Nl,int i64 a.2.length] 87));have ae:Ao bu ar:=by rw[ay];exact Mxt
    have av:Ao H ar:=ad.trans (ae.mono ad.size);have a3:=Yh (bc.o ar A B E vc (w3.heap.size+1) (bw.o.grow av) (al.ext ae) (ao.ext ae));have b4:=Yh ((av.block _ (Ac bb.o)).trans bb.o);have b0:=Yh ay;clear ad al ao ae av ay bc a7 b7 b8 b9 cf;go_wp2_with fail;rw[<-b0.o];apply a3.o.mono;rintro e bv ⟨bf,be,ci⟩;have ak:=bf _ _ _ _ b4.o (by simp[HK]);obtain⟨m,n,r⟩:=Gs ak;have bq:=Ac ak;have a6:=Yh (G.o.trans (be.mono G.o.size));have b5:=Yh ak;clear bf be ak a3;rcases ci with⟨S,rfl⟩|⟨S,va,a2,rfl,an⟩
    ·have O:YH (∀F,Ad (only w.heap.size) bv F->Iz p q t w (Rq #[Nl,agg #[int i64 7,int i64 l.at']]) F):=fun F z=>J7 (by rw[g.o,QQ S]) (C2 a6.o z (Qe _));clear S;go_wp2;refine Jb (v:=tuple #[Nl,agg #[int i64 7,int i64 l.at']]) (by simp[results,results60,go_sem,m,n,r,bq]) rfl ?_;exact O.o _ Mkt
    ·have O:YH (∀F,Ad (only w.heap.size) bv F->Iz p q t w (Rq #[slice va l.ans.length a2,agg #[int i64 0,int i64 0]]) F):=fun F z=>by
      have e:CA p q t=(l.ans,0,0):=by rw[g.o,QP (by rw[S];simp)]
      refine⟨C2 a6.o z (Qe _),va,a2,by rw[e];rfl,?_⟩;rw[e];exact AI (Aj an (fun k am=>z.block k (an.lt k am).2 (DY an b5.o Yd k am))) G.o.size
     clear S an;go_wp2;refine Jb (v:=tuple #[slice va l.ans.length a2,agg #[int i64 0,int i64 0]]) (by simp[results,results60,go_sem,m,n,r,bq]) rfl ?_;exact O.o _ Mkt
theorem Xk(p q t:ByteArray):((CA p q t).2.1≠0->(CA p q t).1=[])/\((CA p q t).2.1=0->(CA p q t).2.2=0):=by
 unfold CA;split
 ·exact⟨fun _=>rfl,fun h=>by simp at h⟩
 ·split
  ·exact⟨fun _=>rfl,fun h=>by simp at h⟩
  ·split
   ·exact⟨fun _=>rfl,fun h=>by simp at h⟩
   ·split
    ·exact⟨fun _=>rfl,fun h=>by simp at h⟩
    ·split
     ·exact⟨fun _=>rfl,fun h=>by simp at h⟩
     ·exact⟨fun h=>absurd rfl h,fun _=>rfl⟩
theorem Vo(p q t:ByteArray)(w:World)(s:p.size<=maxLen)(u:q.size<=maxLen)(x:t.size<=maxLen):Calls prog 36 #[string p,string q,string t] w (Hh p q t w):=by
 have a:=Yh (PC p q t w s u x);unfold Iz at a;obtain⟨b,c⟩:=Xk p q t;obtain⟨X,j⟩:=Ex (CA p q t);rw[<-j]at a b c;have f:=Yh j;clear s u x j;obtain⟨A,h,B⟩:=X;simp only at a b c;go_enter func36,ntmps36;go_wp2_with fail;apply a.o.mono;rintro e w1 ⟨i,va,vc,rfl,r⟩;have v:=i.size;have l:=Yh i;have m:=Yh r;clear i r a
 by_cases d:h=0
 ·obtain rfl:=c d;subst d;have g:YH (∀o,Hh p q t w (Rq #[slice va A.length vc,int i64 0,int i64 0]) (w1.alloc o)):=fun o=>by
   have n:Ao w1 (w1.alloc o):=Mxt;refine⟨l.o.trans (n.mono v),va,vc,by rw[<-f.o];rfl,?_⟩;rw[<-f.o];exact Aj m.o (fun k z=>n.block k (m.o.lt k z).2)
  clear b c;go_wp2;go_ret3;exact g.o _
 ·have hb:((h:Int) !=0)=true:=by rw[QR];omega
  obtain rfl:=b d;have g:YH (∀w2,Ao w1 w2->Hh p q t w (Rq #[Nl,int i64 h,int i64 B]) w2):=fun w2 y=>Fu f.o.symm (l.o.trans (y.mono v));clear b c d;go_wp2_with fail;go_quiet (fail);go_wp2;go_ret3;exact g.o _ Mxt
theorem XX{names:At}{l:Lu}{n:ND}{A:List (Lu)}{a:HN}(h:EE cs names l n p A a):A.length<=p->a.ans.length<=a.at'/\(a.wrong=false->a.at'<=l.length):=by
 refine EE.ind (P:=fun n p A a=>A.length<=p->a.ans.length<=a.at'/\(a.wrong=false->a.at'<=l.length)) ?_ ?_ ?_ ?_ h
 ·intro n p A e _ b;have:=(Qa.1 e).1;exact⟨by simp;omega,fun _=>this⟩
 ·intro n p A e _ b;exact⟨b,fun h=>by simp at h⟩
 ·intro n p A e _ b;exact⟨b,fun h=>by simp at h⟩
 ·intro n p A a e _ j b;have o:∀(f k p:Nat)(A:List (Lu))(a:HN),II (fun n p A a=>A.length<=p->a.ans.length<=a.at'/\(a.wrong=false->a.at'<=l.length)) cs l n f k p A a->A.length<=p->a.ans.length<=a.at'/\(a.wrong=false->a.at'<=l.length):=by
   intro f
   induction f with
   |zero=>
    intro k p A a h b;rcases h with⟨d,rfl⟩|⟨c,d,_,rfl⟩
    ·have:=(Qa.1 d).1;exact⟨by simp only;omega,fun _=>this⟩
    ·exact⟨b,fun h=>by simp at h⟩
   |succ f g=>
    intro k p A a h b;obtain⟨c,_,⟨_,d⟩|⟨_,_,rfl⟩|⟨_,_,_,q,d,⟨m,rfl⟩|⟨m,i⟩⟩⟩:=h
    ·exact g _ _ _ _ d b
    ·exact⟨b,fun h=>by simp at h⟩
    ·exact d Yo
    ·exact g _ _ _ _ i (d Yo).1
  exact o _ _ _ _ _ j Yo
theorem WI(p q t:ByteArray):(CA p q t).1.length<=20000:=by
 unfold CA;split
 ·simp
 ·rename_i cs _;split
  ·simp
  ·rename_i a _;split
   ·simp
   ·rename_i g;split
    ·simp
    ·rename_i c;split
     ·simp
     ·rename_i d;have b:=XX (LC cs a c) Ys;have e:=b.2 (by simpa using d);have f:t.data.toList.length=t.size:=rfl;simp only;omega
theorem XC{j:Value}{ls:List (Value×Nat)}{f:Oa}{g:Nat}{c:Oa}{d B' n:Nat}(h:Cc w B bW j ls f g c d)(i:w.ownsRow B' 9 1 lv n xs):
  ∀k,LO bW (slice f ls.length g) (slice c ls.length d) lv k->∃cl t fr,w.heap[k]?=some (.cells cl t fr)/\t≠78/\(t=9->Ak lv k):=fun k a=>by
 rcases a with rfl|a|a|a
 ·exact⟨_,_,_,h.box,Yd,fun e=>absurd e Yd⟩
 ·obtain⟨cl,fr,b⟩:=own_ty h.lrow k a;exact⟨_,_,_,b,Yd,fun e=>absurd e Yd⟩
 ·obtain⟨cl,fr,b⟩:=own_ty h.krow k a;exact⟨_,_,_,b,Yd,fun e=>absurd e Yd⟩
 ·obtain⟨cl,fr,b⟩:=own_ty i k a;exact⟨_,_,_,b,Yd,fun _=>a⟩
theorem WX{i:Value}{ls:List (Value×Nat)}{d:Oa}{e:Nat}{b:Oa}{c n:Nat}(h:Cc w B bW i ls d e b c)(f:B<=bW)(g:w.ownsRow B 9 1 lv n xs):
  ∀k,LO bW (slice d ls.length e) (slice b ls.length c) lv k->B<=k:=fun k a=>by
 rcases a with rfl|a|a|a
 ·exact f
 ·exact(h.lrow.lt k a).1
 ·exact(h.krow.lt k a).1
 ·exact(g.lt k a).1
def TY(w:World)(B bW:Nat)(v0:Value)(N:Nat)(sv kv:Value)(e:Ending)(w':World):Prop:=
 e= .returned (.bool true)/\Below B w w'/\∃ls' sa sc ka kc,ls'.length=N/\Cc w' B bW v0 ls' sa sc ka kc/\WD w w' bW sv kv (.slice sa ls'.length sc) (.slice ka ls'.length kc)
structure Jt(w wr:World)(B bW b0:Nat)(sv kv v0 s0 s1 s2 s3 s4 s5:Value)(va:Option Addr)(vc:Nat)(A:List (List UInt8))(N:Nat)(ls:List (Value×Nat))(sa:Option Addr)(sc:Nat)(ka:Option Addr)(kc:Nat):Prop where
 bel:Below B w wr
 len:ls.length=N
 box:wr.heap[b0]?=some (.cells #[s0,s1,s2,s3,s4,s5] 78 (0,0))
 lists:Cc wr B bW v0 ls sa sc ka kc
 want:wr.ownsRow 0 9 1 (.slice va A.length vc) A.length (Ba A)
 grew:WD w wr bW sv kv (.slice sa ls.length sc) (.slice ka ls.length kc)
theorem Jt.own{w3:World}{o:Nat}{F u n v x s2 y z C:Value}{va:Oa}{vc:Nat}{A:List (Lu)}{N:Nat}{ls:List (Value×Nat)}{D:Oa}{E:Nat}{r:Oa}{s:Nat}(h:Jt w wr B bW o F u n v x s2 y z C va vc A N ls D E r s)(I:B<=bW)(d:Ao wr w2)
  {la:Oa} {lc:Nat} (g:w2.ownsRow wr.heap.size 9 1 (slice la A.length lc) A.length (Ba A)) {e:Ending} (K:VK w2 B bW n (ls.length+4) (slice D ls.length E) (slice r ls.length s) (slice la A.length lc) e w3):
  e=Rq #[]/\∃m sa' sc' ka' kc',Jt w w3 B bW o F u n v x s2 y z C va vc A (N+4) m sa' sc' ka' kc':=by
 obtain⟨rfl,f,m,sa',sc',ka',kc',hl,J,O,M⟩:=K;have T:=Ac h.lists.box;have p:=h.lists.ext d;have q:=XC p g;have L:=WX p I (AI g Yo);have U:=d.size;have V:=h.grew.kept.size;refine⟨rfl,m,sa',sc',ka',kc',?_,by rw[hl,h.len],?_,J,?_,(h.grew.kept.trans (Hu d)).then f (fun k b a=> ?_),fun k b c=>h.grew.so k b (O k Yo c),fun k b c=>h.grew.ko k b (M k Yo c)⟩
 ·exact(h.bel.trans (d.mono Yo)).trans (f.below Yo L)
 ·have j:=(d.block _ (Ac h.box)).trans h.box;refine(f.block _ (Ac j) (fun a=> ?_)).trans j;obtain⟨cl,t,fr,c,i,_⟩:=q _ a;rw[j]at c;simp at c;exact i c.2.1.symm
 ·have l:=Aj h.want (fun k b=>d.block k (h.want.lt k b).2);refine Aj l (fun k b=>f.block k (l.lt k b).2 (fun a=> ?_));obtain⟨cl,t,fr,c,_,i⟩:=q _ a;obtain⟨P,Q,G⟩:=own_ty l k b;rw[G]at c;simp at c;have H:=i c.2.1.symm;have R:=(g.lt k H).1;have S:=(h.want.lt k b).2;omega
 ·rcases a with a|a|a|a
  ·exact QG a
  ·exact QO (QG (h.grew.so k b a))
  ·exact QO (QO (h.grew.ko k b a))
  ·have:=(g.lt k a).1;omega
theorem W0(w:World)(B d:Nat)(F:Value)(ls:List (Value×Nat))(v:Oa)(z:Nat)(l:Oa)(r:Nat)(h:Cc w B d F ls v z l r)(Y:B<=d)(a7:ls.length<=9000000)(kd n m:Int)(p q x:ByteArray)(R:p.size<=maxLen)(S:q.size<=maxLen)(U:x.size<=maxLen)(Z:G4 B w):
  Calls prog 64 #[Pt d,agg #[int i64 kd,int i64 n,int i64 m,string p,string q,string x]] w (TY w B d F (ls.length+8) (slice v ls.length z) (slice l ls.length r)):=by
 have G:=Yh (fun u=>Ti p q x u R S U);have M:=Yh (fun u=>Vo p q x u R S U);unfold Hh at G M;have Q:=WI p q x;obtain⟨X,aa⟩:=Ex (CA p q x);simp only[<-aa]at G M Q;clear aa;obtain⟨A,a2,ba⟩:=X;simp only at G M Q;have a4:=Ac h.box;have ai:=Yh h;have ag:=Yh Z;clear h R S U Z;go_enter func64,ntmps64;go_wp2_with fail;apply(G.o _).mono;rintro e w1 ⟨I,va,vc,rfl,ab⟩;have H:Ao w (w.alloc (.cells #[int i64 kd,int i64 n,int i64 m,string p,string q,string x] 78)):=Mxt;have b:YH (Jt w w1 B d w.heap.size (slice v ls.length z) (slice l ls.length r) F (int i64 kd) (int i64 n) (int i64 m) (string p) (string q) (string x) va vc A (ls.length+4*0) ls v z l r):=
  ⟨(H.mono Yo).trans (I.mono (by have:=H.size;omega)),rfl,(I.block _ Ys).trans (QL w _),(ai.o.ext H).ext I,AI ab (Qm _),(Hu H).trans (Hu I),fun _ _ h=>h,fun _ _ h=>h⟩
 clear H I ab G;go_wp2
 go_loopw [8] (fun i wr=>∃(t:Nat)(E:List (Value×Nat))(sa':Oa)(sc':Nat)(ka':Oa)(kc':Nat),t<=2/\i=int i64 t/\Jt w wr B d w.heap.size (slice v ls.length z) (slice l ls.length r) F (int i64 kd) (int i64 n) (int i64 m) (string p) (string q) (string x) va vc A (ls.length+4*t) E sa' sc' ka' kc') (fun i _=>2-(intOf i).toNat)
 case atStart=>exact⟨0,ls,v,z,l,r,Yo,rfl,b.o⟩
 case round=>
  clear b;obtain⟨t,E,sa',sc',ka',kc',a9,rfl,f⟩:=hrel;have b:=Yh f;have aj:wr.cell? ⟨w.heap.size,3,none⟩=some (string p):=Aa f.box 3 _ rfl;have ak:wr.cell? ⟨w.heap.size,4,none⟩=some (string q):=Aa f.box 4 _ rfl;have al:wr.cell? ⟨w.heap.size,5,none⟩=some (string x):=Aa f.box 5 _ rfl;have a3:=Ac f.box;have ao:=f.len;clear f
  by_cases a8:t<2
  ·go_wp2_with fail;apply(M.o _).mono;rintro e w2 ⟨O,la,lc,rfl,J⟩;have ac:=O.size;have af:YH (∀u,Ao w2 u->Calls prog 94 #[Pt d,slice la A.length lc] u fun e w3=>e=Rq #[]/\∃E sa' sc' ka' kc',Jt w w3 B d w.heap.size (slice v ls.length z) (slice l ls.length r) F (int i64 kd) (int i64 n) (int i64 m) (string p) (string q) (string x) va vc A (ls.length+4*t+4) E sa' sc' ka' kc'):=fun u L=>by
    have c:Ao wr u:=O.trans (L.mono ac);have K:u.ownsRow wr.heap.size 9 1 (slice la A.length lc) A.length (Ba A):=Aj J (fun k j=>L.block k (J.lt k j).2);refine(Xx u B d F E sa' sc' ka' kc' (b.o.lists.ext c) Y Yo la A.length lc (Ba A) (AI K Yo) Q (fun y aq k j an=>by
     have V:=(b.o.lists.all y aq).1.lt j;have W:=(K.lt k an).1;omega) B (Lib.TabBelow.on ag.o (b.o.bel.trans (c.mono Yo)))).mono ?_
    exact fun e w3 D=>b.o.own Y c K D
   have ah:YH (∀u,Ao w2 u->∀s,s<A.length->∃g C a,la=some ⟨g,0,none⟩/\va=some ⟨C,0,none⟩/\g<u.heap.size/\C<u.heap.size/\u.cell? ⟨g,s,none⟩=some (string a)/\u.cell? ⟨C,s,none⟩=some (string a)):=fun u L s T=>by
    have c:Ao wr u:=O.trans (L.mono ac);have K:u.ownsRow wr.heap.size 9 1 (slice la A.length lc) A.length (Ba A):=Aj J (fun k j=>L.block k (J.lt k j).2);obtain⟨g,y,V,W,D,N,_⟩:=HW K T;obtain⟨C,bb,ar,au,ad,av,_⟩:=HW (Aj b.o.want (fun k j=>c.block k (b.o.want.lt k j).2)) T;rw[D]at ad
    cases ad
    have am:∃a,y=string a:=by
     unfold Ba at D;rw[Qj]at D;obtain⟨bc,_,rfl⟩:=JH.1 D;exact⟨_,rfl⟩
    obtain⟨a,rfl⟩:=am;exact⟨g,C,a,V,ar,W,au,N,av⟩
   clear O J aj ak al b;go_wp2
   go_loopw [12] (fun i u=>∃s:Nat,s<=A.length/\i=int i64 s/\Ao w2 u) (fun i _=>A.length-(intOf i).toNat)
   case atStart=>exact⟨0,Qm _,rfl,Jc _ _⟩
   case round=>
    obtain⟨s,T,rfl,c⟩:=hrel;have P:=Yh c
    by_cases ap:s<A.length
    ·obtain⟨g,C,a,rfl,rfl,a5,a6,cg,a1⟩:=ah.o _ c s ap;clear c;go_wp2_with fail;go_quiet (fail);go_wp2
     go_roundw
     case rel=>exact⟨s+1,Yo,Yg,P.o.trans ((Mxt).mono P.o.size)⟩
     case measure=>simp[intOf];omega
    ·clear c;go_wp2_with fail;apply(af.o _ P.o).mono;rintro e w3 ⟨rfl,ay,az,a0,aw,ax,N⟩;have ae:=Yh N;clear N;go_wp2
     go_roundw
     case rel=>exact⟨t+1,ay,az,a0,aw,ax,Yo,Yg,ae.o⟩
     case measure=>simp[intOf];omega
  ·obtain rfl:t=2:=Yo
   go_wp2;go_ret;exact⟨rfl,b.o.bel,E,sa',sc',ka',kc',ao,b.o.lists,b.o.grew⟩
def Ig(n:Int):Prop:= -9223372036854775808<=n/\n<9223372036854775808
def OA(w:World)(sv:Value)(N:Nat):Prop:=∃a len cap,sv= .slice a len cap/\len<=N/\∀k,k<len->∃(b off:Nat)(kd n m:Int)(p q x:ByteArray),a=some ⟨b,off,none⟩/\b<w.heap.size/\
 w.cell? ⟨b,off+k*6,none⟩=some (.int .i64 kd)/\w.cell? ⟨b,off+k*6+1,none⟩=some (.int .i64 n)/\w.cell? ⟨b,off+k*6+2,none⟩=some (.int .i64 m)/\
 w.cell? ⟨b,off+k*6+3,none⟩=some (.string p)/\w.cell? ⟨b,off+k*6+4,none⟩=some (.string q)/\w.cell? ⟨b,off+k*6+5,none⟩=some (.string x)/\p.size<=maxLen/\q.size<=maxLen/\x.size<=maxLen/\Ig n/\Ig m
theorem NA{i j:Value}(w:World)(B a:Nat)(b:List Ea)(la:Oa)(lc:Nat)(h:CP w B a i j b la lc)(c:B<=a)(e:b.length<=2000000)(kd n m:Int)(p q x:ByteArray)(d:kd=3\/kd=4\/kd=5)(k:p.size<=maxLen)(l:q.size<=maxLen)(hn:Ig n)(g:Ig m):
  Calls prog 62 #[Pt a,agg #[int i64 kd,int i64 n,int i64 m,string p,string q,string x]] w (Ef w B a i j (b.length+1)):=by
 rcases d with rfl|d
 ·exact OU w B a b la lc h c e n m p q x k l
 ·by_cases f:b=[]
  ·subst f;exact OQ w B a la lc h c kd n m p q x Yo
  ·rcases d with rfl|rfl
   ·exact MG w B a b la lc h c e f n m p q x hn g
   ·exact Mz w B a b la lc h c e f n m p q x hn g
theorem Ro{j k:Value}(w:World)(B a:Nat)(b:List Ea)(la:Oa)(lc:Nat)(h:CP w B a j k b la lc)(t:B<=a)(u:b.length<=2000000)(kd n m:Int)(p q x:ByteArray)(d:kd=3\/kd=4\/kd=5)(g:p.size<=maxLen)(i:q.size<=maxLen)(hn:Ig n)(f:Ig m):
  Calls prog 38 #[Pt a,agg #[int i64 kd,int i64 n,int i64 m,string p,string q,string x]] w (Ef w B a j k (b.length+1)):=by
 have v:=Ac h.box;have s:=Yh (NA (w.alloc (.cells #[int i64 kd,int i64 n,int i64 m,string p,string q,string x] 78)) B a b la lc (h.ext Mxt) t u kd n m p q x d g i hn f);have r:YH (BF B w (w.alloc (.cells #[int i64 kd,int i64 n,int i64 m,string p,string q,string x] 78))):=Fx Mxt Yo;clear h g i hn f;rcases d with rfl|rfl|rfl
 all_goals
  go_enter func38,ntmps38;go_wp2_with fail;apply s.o.mono;rintro e w1 c;have l:=Yh c;obtain⟨rfl,_⟩:=c;go_wp2;go_ret;exact l.o.up r.o (Qe _)
theorem V1(w:World)(B a:Nat)(r:Value)(ls:List (Value×Nat))(j:Oa)(l:Nat)(g:Oa)(i:Nat)(h:Cc w B a r ls j l g i)(G:B<=a)(H:ls.length<=9000000)(n m:Int)(p q x:ByteArray)(u:p.size<=maxLen)(v:q.size<=maxLen)(y:x.size<=maxLen)(t:G4 B w):
  Calls prog 38 #[Pt a,agg #[int i64 8,int i64 n,int i64 m,string p,string q,string x]] w (TY w B a r (ls.length+8) (slice j ls.length l) (slice g ls.length i)):=by
 have J:=Ac h.box;have b:Ao w (w.alloc (.cells #[int i64 8,int i64 n,int i64 m,string p,string q,string x] 78)):=Mxt;have C:=Yh (W0 (w.alloc (.cells #[int i64 8,int i64 n,int i64 m,string p,string q,string x] 78)) B a r ls j l g i (h.ext b) G H 8 n m p q x u v y (t.ext Yo b));have A:YH (Below B w (w.alloc (.cells #[int i64 8,int i64 n,int i64 m,string p,string q,string x] 78))):=(Jc _ w).alloc Yo _;have c:=Yh b;clear h u v y t b;go_enter func38,ntmps38;go_wp2_with fail;apply C.o.mono;rintro e w1 s;have z:=Yh s;obtain⟨rfl,_⟩:=s;go_wp2;go_ret;obtain⟨_,D,I,sa',sc',ka',kc',E,F,d⟩:=z.o;exact⟨rfl,A.o.trans D,I,sa',sc',ka',kc',E,F,(Hu c.o).trans d.kept,fun k f=>d.so k (JM f c.o.size),fun k f=>d.ko k (JM f c.o.size)⟩
section
open Go.ChangeShapes Go.WideShapes Go.ChangeAt Go.WideMaps Go.WideElems Go.RowKit
theorem own:ownKnob prog.godebug=none:=by kernel_rfl
theorem W3:laidOutB prog=true:=by kernel_rfl
theorem Nb:prog.cellsOf 78=6:=by kernel_rfl
theorem PT:prog.cellsOf 3=1:=by kernel_rfl
theorem V2:prog.cellsOf 9=1:=by kernel_rfl
theorem EP{c:World}{a:Addr}{j:Nat}(h:c.cell? (a.add j)=some v)(d:a.spot=none):c.cell? ⟨a.block,a.off+j,none⟩=some v:=by
 have e:a.add j=⟨a.block,a.off+j,none⟩:=by
  unfold Addr.add;obtain⟨b,o,s⟩:=a;simp only at d;subst d;split
  ·rename_i h0;subst h0;rfl
  ·rfl
 rwa [e]at h
theorem UB{c:World}{a:Addr}(h:c.cell? a=some v):a.spot=none:=by
 unfold World.cell? at h;split at h
 ·split at h
  ·cases h
  ·rename_i b;cases d:a.spot with
   |none=>rfl
   |some _=>rw[d]at b;simp at b
 ·cases h
theorem Lh{c:Type}{e:TypeId×Value->c}{b:World}{base j:Nat}{k:Nat->Bool}{held:Bool}{a:Addr}{cs:Lv}{x:DataW c×List MemPlace}(g:∀i,i<6->b.cell? (a.add i)=cs[i]?)(m:cs.length=6)(hi:i<6)
  (h:DataW.trod e prog b base k held j 9 ((cs.drop i).take (prog.cellsOf 9))=some x):∃s:ByteArray,b.cell? (a.add i)=some (string s)/\s.size<=maxLen:=by
 obtain⟨s,d,_,f⟩:=DataW.trod_string underlying9 h;rw[V2]at d;refine⟨s,?_,f⟩;rw[g i hi];have:=congrArg (fun l:Lv=>l[0]?) d;simpa using this
theorem VZ{c:Type}{e:TypeId×Value->c}{b:World}{base g:Nat}{j:Nat->Bool}{held:Bool}{a:Addr}{cs:Lv}{x:DataW c×List MemPlace}(f:∀i,i<6->b.cell? (a.add i)=cs[i]?)(n:cs.length=6)(hi:i<6)
  (h:DataW.trod e prog b base j held g 3 ((cs.drop i).take (prog.cellsOf 3))=some x):∃k:Int,b.cell? (a.add i)=some (int i64 k):=by
 obtain⟨s,d,_,m⟩:=DataW.trod_int underlying3 h;rw[PT]at d;refine⟨s,?_⟩;rw[f i hi];have:=congrArg (fun l:Lv=>l[0]?) d;simpa using this
end
theorem KI(s:ByteArray)(w:World)(a c:Nat)(f:a≠0)(h:Calls prog 72 #[string s] w fun e w'=>e=Rq #[Nl,agg #[int i64 a,int i64 c]]/\Below w.heap.size w w'):
  Calls prog 83 #[string s] w fun e w'=>e=Rq #[string ⟨#[]⟩,int i64 a,int i64 c]/\Below w.heap.size w w':=by
 have d:=Yh h;have g:((a:Int) !=0)=true:=by rw[QR];omega
 clear h f;go_enter func83,ntmps83;go_wp2_with fail;apply d.o.mono;rintro e w1 ⟨rfl,hb⟩;have b:=Yh hb;clear hb;go_wp2_with fail;go_quiet (fail);go_wp2;go_ret3;exact⟨rfl,(b.o.alloc b.o.size _).trans ⟨rfl,rfl,rfl,Qe _,fun _ _=>rfl⟩⟩
theorem M0(s:ByteArray)(w:World)(b c:Nat)(f:b≠0)(h:Calls prog 73 #[string s] w fun e w'=>e=Rq #[agg #[Nl,Nl,Nl],agg #[int i64 b,int i64 c]]/\Below w.heap.size w w'):
  Calls prog 85 #[string s] w fun e w'=>e=Rq #[string ⟨#[]⟩,int i64 b,int i64 c]/\Below w.heap.size w w':=by
 have d:=Yh h;have g:((b:Int) !=0)=true:=by rw[QR];omega
 clear h f;go_enter func85,ntmps85;go_wp2_with fail;apply d.o.mono;rintro e w1 ⟨rfl,hb⟩;have a:=Yh hb;clear hb;go_wp2_with fail;go_quiet (fail);go_wp2;go_ret3;exact⟨rfl,((a.o.alloc a.o.size _).alloc (a.o.alloc a.o.size _).size _).trans ⟨rfl,rfl,rfl,Qe _,fun _ _=>rfl⟩⟩
theorem RP(s:ByteArray)(w:World)(b:Lu)(h:Calls prog 72 #[string s] w fun e w'=>Below w.heap.size w w'/\∃v,e=Rq #[v,agg #[int i64 0,int i64 0]]/\(∃a n x,v=slice a n x)/\
   ∀o,Calls prog 105 #[v] (w'.alloc o) fun e k=>e=returned (string ⟨b.toArray⟩)/\Below w'.heap.size w' k):
  Calls prog 83 #[string s] w fun e w'=>e=Rq #[string ⟨b.toArray⟩,int i64 0,int i64 0]/\Below w.heap.size w w':=by
 have g:=Yh h;clear h;go_enter func83,ntmps83;go_wp2_with fail;apply g.o.mono;rintro e w1 ⟨hb,v,rfl,⟨a,n,x,rfl⟩,d⟩;have c:=Yh hb;have i:=Yh d;clear hb d;go_wp2_with fail;apply(i.o _).mono;rintro e w2 ⟨rfl,f⟩;have j:=Yh f;clear f;go_wp2;go_ret3;exact⟨rfl,c.o.trans (j.o.mono c.o.size)⟩
theorem Vb(s:ByteArray)(w:World)(f:Lu)(h:Calls prog 73 #[string s] w fun e w'=>Below w.heap.size w w'/\∃c b d,e=Rq #[agg #[c,b,d],agg #[int i64 0,int i64 0]]/\(∃a n x,c=slice a n x)/\(∃a n x,b=slice a n x)/\(∃a n x,d=slice a n x)/\
   ∀o p,Calls prog 109 #[agg #[c,b,d]] ((w'.alloc o).alloc p) fun e q=>e=returned (string ⟨f.toArray⟩)/\Below w'.heap.size w' q):
  Calls prog 85 #[string s] w fun e w'=>e=Rq #[string ⟨f.toArray⟩,int i64 0,int i64 0]/\Below w.heap.size w w':=by
 have k:=Yh h;clear h;go_enter func85,ntmps85;go_wp2_with fail;apply k.o.mono;rintro e w1 ⟨hb,c,b,d,rfl,⟨r,v,A,rfl⟩,⟨t,y,B,rfl⟩,⟨u,z,C,rfl⟩,i⟩;have g:=Yh hb;have l:=Yh i;clear hb i;go_wp2_with fail;apply(l.o _ _).mono;rintro e w2 ⟨rfl,j⟩;have m:=Yh j;clear j;go_wp2;go_ret3;exact⟨rfl,g.o.trans (m.o.mono g.o.size)⟩
theorem N6:HE:=by
 intro s w n
 by_cases c:800<s.size
 ·rw[BK,QQ c];exact KI s w 1 0 Yo (Ij s w n c)
 ·obtain⟨d,q,_⟩:=BS s false
  by_cases h0:(Cp s false).1=0
  ·obtain⟨cs,j,f,k,f4,l⟩:=OD s Yo h0;rw[BK,QP c,QP (by rw[<-d];simp[h0]),j];refine RP s w _ ((IM s w Yo).mono ?_);rintro e w' ⟨hb,b⟩;rcases b with⟨b,_⟩|⟨_,v,B,h,i,xs,rfl,g⟩
   ·exact absurd h0 b
   ·refine⟨hb,v,rfl,?_,fun o=> ?_⟩
    ·obtain⟨a,x,rfl⟩:=Ab g.1;exact⟨a,_,x,rfl⟩
    ·have p:=KO (w'.alloc o) B h i v _ xs (g.fresh ((Ad.refl _ w').alloc o)) k f4 (by rw[f];exact l);apply p.mono;rintro e w2 ⟨rfl,m⟩;refine⟨by rw[f],((Jc _ w').alloc (Qe _) o).trans (m.mono Ys)⟩
  ·rw[BK,QP c,QQ (by rw[<-d];exact h0)];refine KI s w _ _ (by rw[<-d];exact h0) ((IM s w Yo).mono ?_);rintro e w' ⟨hb,b⟩;rcases b with⟨b,rfl⟩|⟨b,_⟩
   ·rw[<-d,<-q h0];exact⟨rfl,hb⟩
   ·exact absurd b h0
theorem Tf:J5:=by
 intro s w D
 by_cases d:120<s.size
 ·rw[B5,QQ d];exact M0 s w 1 0 Yo (Kg s w D d)
 ·obtain⟨f,G,_⟩:=BS s true;have k:(Cp s true).1=0->∃c cs,(Cp s true).2.2.clauses=c::cs:=fun h0=>by
   obtain⟨q,_,g,_⟩:=Ec s Yo h0;exact⟨_,_,g⟩
  by_cases h0:(Cp s true).1=0
  ·obtain⟨q,v,g,y,f4,z,A⟩:=Ec s Yo h0;rw[B5,QP d,QP (by rw[<-f];simp[h0]),v];refine Vb s w _ ((Ix s w Yo k).mono ?_);rintro e w' ⟨hb,b⟩;rcases b with⟨b,_⟩|⟨_,r,j,i,B,u,vs,c,cs,rfl,h,l,E,m⟩
   ·exact absurd h0 b
   ·rw[g]at h;simp only[QI]at h;obtain⟨rfl,_⟩:=h;have t:∃a n x,i=slice a n x:=by
     obtain⟨a,x,rfl⟩:=Ab E;exact⟨a,_,x,rfl⟩
    refine⟨hb,r,j,i,rfl,l,?_,t,fun o p=> ?_⟩
    ·obtain⟨a,x,rfl⟩:=Ab m.1;exact⟨a,_,x,rfl⟩
    ·have F:=MM ((w'.alloc o).alloc p) B u r j i q.1 vs l t (m.fresh (((Ad.refl _ w').alloc o).alloc p)) f4 z A;apply F.mono;rintro e w2 ⟨rfl,C⟩;refine⟨by rw[y],(((Jc _ w').alloc (Qe _) o).alloc Ys p).trans (C.mono Yp)⟩
  ·rw[B5,QP d,QQ (by rw[<-f];exact h0)];refine M0 s w _ _ (by rw[<-f];exact h0) ((Ix s w Yo k).mono ?_);rintro e w' ⟨hb,b⟩;rcases b with⟨b,rfl⟩|⟨b,_⟩
   ·rw[<-f,<-G h0];exact⟨rfl,hb⟩
   ·exact absurd b h0
end Go.Proofs.YtlmjilpjmgjjcaaGreatDoor
