/-
  PROVED HERE: what the program's 'New' makes (the conditions stand in each statement).
-/
import Derived.Test.YtlmjilpjmgjjcaaGreatDoorT6
import Derived.Deep.QuietTactic
import Derived.BigQuiet
set_option linter.unusedSimpArgs false
set_option linter.unusedVariables false
set_option maxRecDepth 10000
set_option maxHeartbeats 4000000
namespace Go.Proofs.YtlmjilpjmgjjcaaGreatDoor
open Go.RowKit
open Tryz
variable{w w' w1 w2 w0 wr:World}{n k B b i p size cap M rb bW x:Nat}{v cv gv vv lv:Value}{xs ys vs:Lv}{X Y S:Np}{s:ByteArray}{t e:TypeId}{fr:Nat×Nat}{P:Program}{l:Ly}{ls ts:Ll}{ρ:Nat->Nat}{σ:Nat->Ly}{cs:Lc}{c:Dt}{a:Ll×At}{ds r:Ln}{st:RS}{L:Bj}{G:Gr}{A:List Lu}
attribute [local simp] XQ El Hq pa Ph.kd Ph.val Kd.val
def Om:Prop:=∀(p q x:ByteArray)(w:World),p.size<=maxLen->q.size<=maxLen->x.size<=maxLen->Calls prog 19 #[.string p,.string q,.string x] w fun e w'=>e= .returned (.tuple #[.string ⟨(JK p q x).1.toArray⟩,.int .i64 (JK p q x).2.1,.int .i64 (JK p q x).2.2])/\Ao w w'
theorem Sy(c:Om)(n m:Int)(p q x:ByteArray)(w:World)(j:p.size<=maxLen)(k:q.size<=maxLen)(l:x.size<=maxLen):
  Calls prog 63 #[.agg #[Vi 6,Vi n,Vi m,.string p,.string q,.string x]] w fun e w'=>e= .returned (.bool true)/\Below w.hz w w':=by
 have b:=hd (c p q x);have d:=hd (Rc p q x);obtain⟨s,g⟩:=Ex (JK p q x);rw[<-g]at b d;clear c g;go_enter func63,ntmps63;go_wp2_with fail;apply(b.o _ j k l).mono;rintro e w1 ⟨rfl,a⟩;have v:w.hz+1<=w1.hz:=by have:=a.size;simpa using this
 have h:Below w.hz w w1:=((Below.refl _ w).alloc (Qe _) _).trans (a.mono Ys);have t:w1.cell? ⟨w.hz,3,none⟩=some (.string p):=(a.cell (p:=⟨w.hz,3,none⟩) Ys).trans (AZ w _ _ 3 _ rfl);have hd:w1.cell? ⟨w.hz,4,none⟩=some (.string q):=(a.cell (p:=⟨w.hz,4,none⟩) Ys).trans (AZ w _ _ 4 _ rfl);have u:w1.cell? ⟨w.hz,5,none⟩=some (.string x):=(a.cell (p:=⟨w.hz,5,none⟩) Ys).trans (AZ w _ _ 5 _ rfl);have f:=hd h;clear a h;go_wp2_with fail;apply(d.o _ j k l).mono;rintro e w2 ⟨rfl,i⟩;have r:=hd i;clear i;go_wp2;go_ret;exact⟨rfl,f.o.trans (r.o.mono f.o.size)⟩
theorem Wn(a:Om)(n m:Int)(p q x:ByteArray)(b:Value)(w:World)(g:p.size<=maxLen)(h:q.size<=maxLen)(i:x.size<=maxLen):
  Calls prog 38 #[b,.agg #[Vi 6,Vi n,Vi m,.string p,.string q,.string x]] w fun e w'=>e= .returned (.bool true)/\Below w.hz w w':=by
 have d:=hd (Sy a n m p q x);clear a;go_enter func38,ntmps38;go_wp2_with fail;apply(d.o _ g h i).mono;rintro e w1 ⟨rfl,c⟩;have f:=hd c;clear c;go_wp2;go_ret;exact⟨rfl,((Below.refl _ w).alloc (Qe _) _).trans (f.o.mono Ys)⟩
def HC:Prop:=∀(p q x:ByteArray)(w:World),p.size<=maxLen->q.size<=maxLen->x.size<=maxLen->Calls prog 34 #[.string p,.string q,.string x] w fun e w'=>e= .returned (.tuple #[.string ⟨(GH p q x).1.toArray⟩,.int .i64 (GH p q x).2.1,.int .i64 (GH p q x).2.2])/\Ao w w'
theorem KT(c:HC)(n m:Int)(p q x:ByteArray)(w:World)(j:p.size<=maxLen)(k:q.size<=maxLen)(l:x.size<=maxLen):
  Calls prog 63 #[.agg #[Vi 7,Vi n,Vi m,.string p,.string q,.string x]] w fun e w'=>e= .returned (.bool true)/\Below w.hz w w':=by
 have b:=hd (c p q x);have d:=hd (LQ p q x);obtain⟨s,g⟩:=Ex (GH p q x);rw[<-g]at b d;clear c g;go_enter func63,ntmps63;go_wp2_with fail;apply(b.o _ j k l).mono;rintro e w1 ⟨rfl,a⟩;have v:w.hz+1<=w1.hz:=by have:=a.size;simpa using this
 have h:Below w.hz w w1:=((Below.refl _ w).alloc (Qe _) _).trans (a.mono Ys);have t:w1.cell? ⟨w.hz,3,none⟩=some (.string p):=(a.cell (p:=⟨w.hz,3,none⟩) Ys).trans (AZ w _ _ 3 _ rfl);have hd:w1.cell? ⟨w.hz,4,none⟩=some (.string q):=(a.cell (p:=⟨w.hz,4,none⟩) Ys).trans (AZ w _ _ 4 _ rfl);have u:w1.cell? ⟨w.hz,5,none⟩=some (.string x):=(a.cell (p:=⟨w.hz,5,none⟩) Ys).trans (AZ w _ _ 5 _ rfl);have f:=hd h;clear a h;go_wp2_with fail;apply(d.o _ j k l).mono;rintro e w2 ⟨rfl,i⟩;have r:=hd i;clear i;go_wp2;go_ret;exact⟨rfl,f.o.trans (r.o.mono f.o.size)⟩
theorem N1(a:HC)(n m:Int)(p q x:ByteArray)(b:Value)(w:World)(g:p.size<=maxLen)(h:q.size<=maxLen)(i:x.size<=maxLen):
  Calls prog 38 #[b,.agg #[Vi 7,Vi n,Vi m,.string p,.string q,.string x]] w fun e w'=>e= .returned (.bool true)/\Below w.hz w w':=by
 have d:=hd (KT a n m p q x);clear a;go_enter func38,ntmps38;go_wp2_with fail;apply(d.o _ g h i).mono;rintro e w1 ⟨rfl,c⟩;have f:=hd c;clear c;go_wp2;go_ret;exact⟨rfl,((Below.refl _ w).alloc (Qe _) _).trans (f.o.mono Ys)⟩
theorem Kx{N:Nat}(h:∀t∈ts,t.length<=N):ts.flatten.length<=N*ts.length:=by
 induction ts with
 |nil=>simp
 |cons t ts b=>
  have c:=h t Ys;have d:=b (fun y a=>h y (by simp[a]));simp only[Q4,Qg,Qf];rw[Nat.mul_add];omega
theorem RG:∀(ts:Ll)(seen:List Nat),(∀t∈ts,Wf 1 t/\t.length<=30/\∀s∈t,s.name.length<=4096)->seen.length+ts.flatten.length<=4000->∀u∈(Aw ts seen).1,(A3 u []).length<=200000:=by
 intro ts
 induction ts with
 |nil=>intro seen _ _ u a;simp[Aw]at a
 |cons t ts f=>
  intro seen h d u a;simp only[Q4,Qg]at d;obtain⟨b,g,c⟩:=h t Ys;have i:=Gl (l:=t) Yo b c (seen:=seen) Yo;simp only[Aw]at a;rcases Qp.1 a with rfl|a
  ·omega
  ·exact f _ (fun v e=>h v (by simp[e])) Yo u a
theorem Xj{n:ND}(hn:FU n)(k:NK n)(b:∀t∈ts,t∈n.terms/\t.length<=30)(hl:ts.length<=130)(q:(Aw ts []).2.length<=2599):V8 ts:=by
 have p:ts.flatten.length<=30*ts.length:=Kx (fun t h=>(b t h).2);have o:n.vars<=101000:=by have:=hn.vars;have:=hn.ul;omega
 refine⟨Yo,Yo,fun t h=>Hs (hn.wf t (b t h).1) (by have:=(b t h).2;omega) (hn.occ t (b t h).1) Yo,fun u d=>⟨?_,fun s e=>⟨?_,?_⟩⟩,fun u d=> ?_⟩
 ·obtain⟨t,c,m,rfl⟩:=J7 ts [] u d;rw[Iw];have:=(b t c).2;omega
 ·exact QW ts [] 2600 Yo (fun t c x f l=>by
   obtain⟨i,hi⟩:=List.mem_iff_getElem?.1 f;exact(G5 (hn.wf t (b t c).1) hi).2 l) Yo u d s e
 ·obtain⟨t,c,m,rfl⟩:=J7 ts [] u d;refine Qq (PT t m (fun a=>a<=30) (fun x f=> ?_) s e) Yo;obtain⟨i,hi⟩:=List.mem_iff_getElem?.1 f;have j:=(Qa.1 hi).1;have:=Oc (hn.wf t (b t c).1) (i:=i) j;have g:AB t i=x:=by unfold AB;rw[List.getD_eq_getElem?_getD,hi];rfl
  rw[g]at this;have:=(b t c).2;omega
 ·refine Qq (RG ts [] (fun t c=>⟨hn.wf t (b t c).1,(b t c).2,fun s e=>Qq (k t (b t c).1 s e) Yo⟩) ?_ u d) Yo;simp only[Qt];omega
theorem NX{n:ND}(hn:FU n)(a:NK n)(hl:n.vals.length<=60):V8 n.vals:=by
 have b:n.vals.flatten.length<=30*n.vals.length:=Kx (fun t h=>hn.vsize h);refine Xj hn a (fun t h=>⟨by unfold ND.terms;simp[h],hn.vsize h⟩) Yo ?_;have:=L4 n.vals [];simp only[Qt]at this;omega
theorem Iz{n:ND}(hn:FU n)(c:NK n)(hl:n.vals.length<=60){names:At}(b:names.length<=60)(d:∀x∈names,x.length<=8):(DK [] names (Aw n.vals []).1).length<=100000000:=by
 have f:n.vals.flatten.length<=30*n.vals.length:=Kx (fun t h=>hn.vsize h);have:=MW names n.vals [] [] (fun x e=>Qq (d x e) Yo) (fun t a=>⟨hn.wf t (by unfold ND.terms;simp[a]),by have:=hn.vsize a;omega,fun s b=>Qq (c t (by unfold ND.terms;simp[a]) s b) Yo⟩) Ys (by simp only[Qt];omega);omega
theorem Po(w:World)(nv h s r q g:Value)(C:Nat)(names:At)(n:ND)(v:∃a l c,h= .slice a l c)(A:∃a l c,r= .slice a l c)(z:∃a l c,q= .slice a l c)(hd:∃a l c,g= .slice a l c)(b:w.ownsRow 0 9 1 nv names.length (Ba names))(f:AF w s n.vals)(hn:FU n)(d:NK n)(hl:n.vals.length=names.length)(p:names.length<=60)(m:∀x∈names,x.length<=8):
  Calls prog 43 #[.agg #[nv,h,s,r,Vi C,q,g]] w fun e w'=>Ao w w'/\e= .returned (.string ⟨(AU names n).toArray⟩):=by
 obtain⟨H,I,J,rfl⟩:=v;obtain⟨N,O,P,rfl⟩:=A;obtain⟨K,L,M,rfl⟩:=z;obtain⟨E,F,G,rfl⟩:=hd;obtain⟨na,B,rfl⟩:=Ac b;obtain⟨va,D,rfl⟩:=f.shape;have t:Hd (∀o,Calls prog 70 #[.slice na names.length B,.slice va n.vals.length D] (w.alloc o) fun e w'=>Ao (w.alloc o) w'/\e= .returned (.string ⟨(AU names n).toArray⟩)):=fun o=>by
  have i:Ao w (w.alloc o):=Mxt;exact FM _ _ _ names n.vals (Aj b (fun j y=>i.block j (b.lt j y).2)) (f.ext i) (NX hn d Yo) hl.symm (Iz hn d Yo p m)
 clear b f hn d hl p m;go_enter func43,ntmps43;go_wp2_with fail;apply(t.o _).mono;rintro e w1 ⟨k,rfl⟩;have u:=hd k;clear k;go_wp2;go_ret;exact⟨(Below.refl _ w|>.alloc (Qe _) _).trans (u.o.mono Ys),rfl⟩
theorem VQ:Om:=by
 intro p q x w J K N;have u:=hd (LS p q x w J K N);obtain⟨Y,k⟩:=Ex (JK p q x);rw[<-k];have z:=hd k;clear J K N k;go_enter func19,ntmps19;go_wp2_with fail;apply u.o.mono;rintro e w1 ⟨g,aa⟩;have al:=g.size;have v:=hd g;clear g u;rcases aa with⟨s,rfl⟩|⟨a,ks,n,m,b,ad,nc,R,U,V,ai,aj,ak,af,ag,ah,O,ab,ac,Q,dc,rfl,F,l,Z,W⟩
 ·obtain⟨A,c⟩:∃r,r=(Bo p q x).2.2.1:=⟨_,rfl⟩;obtain⟨ae,t⟩:∃r,r=(Bo p q x).2.2.2:=⟨_,rfl⟩;rw[<-c,<-t];rw[<-c]at s;have d:Hd (Y=([],A,ae)):=by show _=_;rw[z.o,JK,if_neg (by rw[<-c];exact s),<-c,<-t]
  have hb:((A:Int) !=0)=true:=by rw[bne_iff_ne];omega
  clear c t s;unfold CD;go_wp2_with fail;go_quiet (fail);go_wp2;go_ret3;rw[d.o];exact⟨rfl,v.o.trans (Ad.below (S:=fun i=>w.hz<=i) Mst Yo (fun _ h=>h))⟩
 ·have M:=Li b.ask b.held;have L:=JD b.ask;obtain⟨_,_,_,_,_,_,_,_,H⟩:=Cs b.ask;have I:AU a.2 n=AU a.2 m:=by unfold AU;rw[b.same.valsC b.ok]
  have d:Hd (Y=(AU a.2 n,0,0)):=by show _=_;rw[z.o,JK,b.held,I];simp
  have f:Hd (∀y,Ao w1 y->Calls prog 43 #[.agg #[.slice ad a.2.length nc,.slice R U V,.slice ai aj ak,.slice af ag ah,Vi O,.slice ab ks.length ac,.slice Q (m.done.map (·.2)).length dc]] y fun e w'=>Ao y w'/\e= .returned (.string ⟨(AU a.2 n).toArray⟩)):=fun y C=>
   Po y _ _ _ _ _ _ O a.2 n ⟨_,_,_,rfl⟩ ⟨_,_,_,rfl⟩ ⟨_,_,_,rfl⟩ ⟨_,_,_,rfl⟩ (Aj l (fun j X=>C.block j (l.lt j X).2)) (F.vals.ext C) b.ok b.nm (by rw[b.same.vl,M]) L H
  obtain⟨T,G⟩:=Ex (AU a.2 n);rw[<-G]at f d;obtain⟨D,B⟩:=Ex ((m.done.map (·.2)).length);rw[<-B]at f⊢;clear M L H I b F l Z W G B;go_wp2_with fail;apply(f.o _ ((Below.refl _ w1|>.alloc (Qe _) _).alloc Ys _)).mono;rintro e w2 ⟨E,rfl⟩;have P:=hd E;clear E;go_wp2;go_ret3;rw[d.o];exact⟨rfl,(v.o.trans (Ad.below (S:=fun i=>w.hz<=i) Mst Yo (fun _ h=>h))).trans (P.o.mono Yp)⟩
theorem LR:∀(ks:List Nat)(a:Lu),a.length<=1->(∀k∈ks,k<=99)->(CW a ks).length<=101*ks.length:=by
 intro ks
 induction ks with
 |nil=>intro a _ _;simp[CW]
 |cons k ks d=>
  intro a h b;have e:=d [46] Ys (fun j c=>b j (by simp[c]));have f:=b k Ys;have g:=Ec k;simp only[CW,Qg,Qf];omega
theorem LU(w:World)(X:Np)(W Y Z aa ab:Value)(f:ND)(A:Bx X w W Y Z aa ab f)(r:∀k∈f.used,k<24):
  Calls prog 148 #[.agg #[W,Y,Z,aa,ab]] w fun e w'=>e= .returned (.string ⟨(FQ f).toArray⟩)/\Ao w w':=by
 obtain⟨E,F,G,I,H,J,L,K,M,ap,N,O,rfl,rfl,rfl,rfl,rfl⟩:=A.len;obtain⟨n,R,Q,aj,x,_⟩:=A.node;have y:=R.used;obtain⟨a9,ba,l⟩:=Ac y;simp only[QH]at l;obtain⟨rfl,rfl,rfl⟩:=l;rw[<-x.used]at r;obtain⟨c,p⟩:=Ex (CW [] n.used);have V:FQ f=c:=by rw[p];unfold FQ;rw[x.used]
 rw[V];have a0:=Q.ul;have ar:c.length<=20000:=by
  have:=LR n.used [] Ys (fun k al=>by have:=r k al;omega);rw[<-p]at this;omega
 have C:=hd y;have ae:=hd p;have ai:=hd r;clear A R Q aj x y p V r;obtain⟨m,g⟩:=Ex (w.alloc (.cells #[.slice E f.goals.length F,.slice G I H,.slice J L K,.slice M n.used.length N,Vi O] 152));have v:Ao w m:=by rw[g];exact Mxt
 have ax:m.hz=w.hz+1:=by rw[g];simp
 have P:m.heap[w.hz]?=some (.cells #[.slice E f.goals.length F,.slice G I H,.slice J L K,.slice M n.used.length N,Vi O] 152 (0,0)):=by rw[g];exact QL w _
 have ad:=hd v;have S:=Aj C.o (fun i hi=>v.block i (C.o.lt i hi).2);have D:=hd S;have ac:=hd P;have af:=hd g;clear v P g S;go_enter func148,a8;go_wp2;rw[<-af.o]
 go_loopg [3,4] (n.used.length+1) (fun gk an i wr=>∃(j:Nat)(a:Lu),i=Vi j/\j<=n.used.length/\n.used.length-j<gk/\an= .string ⟨a.toArray⟩/\wr=m/\
  a++CW (if j=0 then[]else[46]) (n.used.drop j)=c)
 case atStart=>exact⟨0,[],Yg,Qm _,Yo,rfl,rfl,by simp[ae.o]⟩
 case round=>
  obtain⟨j,a,rfl,aw,av,rfl,rfl,z⟩:=hrel;have au:a.length<=20000:=by
   have b:=congrArg List.length z;simp only[Qg]at b;omega
  obtain⟨a2,a3,a4,a5,a6,a7⟩:=C5 ac.o;have d:=hd z;clear z
  by_cases T:j<n.used.length
  ·obtain⟨u,h⟩:∃u,n.used[j]?=some u:=⟨_,Qb T⟩;have q:n.used.drop j=u::n.used.drop (j+1):=by
    rw[QC T,(Qa.1 h).2]
   obtain⟨ao,bb,bc,l,aq,U,az⟩:=An D.o Yo;simp only[QH]at l;obtain⟨rfl,_,rfl⟩:=l;have bd:wr.cell? ⟨ao,j,none⟩=some (Vi u):=Ag D.o j _ (by simp only[AM,Qj,h,Option.map_some]);have ay:=ai.o u (Qh h);have B:=hd (F3 u Yo);have a1:(Lib.decDigits u).length<=30:=by have:=Ec u;omega
   by_cases h0:j=0
   ·have am:¬(0:Int)<(j:Int):=Yo
    have s:Hd ((a++Lib.decDigits u)++CW [46] (n.used.drop (j+1))=c):=by
     have b:=d.o;rw[q,if_pos h0]at b;simp only[CW]at b;show _=_;rw[<-b];simp
    have t:=hd (Az a (Lib.decDigits u));clear h0 h q U d;go_wp2_with fail;apply(B.o _).mono;rintro e w1 ⟨rfl,rfl⟩;go_wp2
    go_roundg (n.used.length-j)
    case measure=>omega
    case rel=>exact⟨j+1,a++Lib.decDigits u,Yg,Yo,Yo,by rw[<-t.o],rfl,by simpa using s.o⟩
   ·have am:(0:Int)<(j:Int):=Yo
    have s:Hd ((a++[46]++Lib.decDigits u)++CW [46] (n.used.drop (j+1))=c):=by
     have b:=d.o;rw[q,if_neg h0]at b;simp only[CW]at b;show _=_;rw[<-b];simp
    have t:=hd (Az (a++[46]) (Lib.decDigits u));have ah:=hd (Az a [46]);clear h0 h q U d;go_wp2_with fail;apply(B.o _).mono;rintro e w1 ⟨rfl,rfl⟩;go_wp2
    go_roundg (n.used.length-j)
    case measure=>omega
    case rel=>exact⟨j+1,a++[46]++Lib.decDigits u,Yg,Yo,Yo,by rw[<-t.o,<-ah.o],rfl,by simpa using s.o⟩
  ·have ak:j=n.used.length:=Yo
   subst ak;have ag:Hd (a=c):=by
    have b:=d.o;show _=_;simpa[CW]using b
   clear d;go_wp2;go_ret;rw[ag.o];exact⟨rfl,ad.o⟩
mutual
inductive HY (cs:List Dt):ND->List UInt8->Prop
 |leaf (n:ND) (h:n.goals=[]):HY cs n [33]
 |node (n:ND) (t:List UInt8) (h:n.goals≠[]) (hp:Mc cs n cs.length t):HY cs n ([40]++t++[41])
inductive Mc (cs:List Dt):ND->Nat->List UInt8->Prop
 |zero (n:ND):Mc cs n 0 []
 |miss (n:ND) (k:Nat) (t:List UInt8) (c:Dt) (h:Mc cs n k t) (hc:cs[k]?=some c) (hq:(Ax n c k).2=0):Mc cs n (k+1) t
 |kid (n:ND) (k:Nat) (t u:List UInt8) (c:Dt) (h:Mc cs n k t) (hc:cs[k]?=some c) (hq:(Ax n c k).2=1\/(Ax n c k).2=2) (hu:HY cs (Ax n c k).1 u):Mc cs n (k+1) (t++Lib.decDigits k++u)
end
structure SN where
 way:List (ND×Nat)
 tries:Nat
 status:Nat
 found:ND
 tree:List UInt8
def DJ(cs:Lc):Ln->Lu->Ln×Lu
 | (n,k)::r,t=>if cs.length<=k then DJ cs r (t++[41])else((n,k)::r,t)
 |[],t=>([],t)
noncomputable def B7(s:SN)(n:ND):SN:=open Classical in if n.goals=[]then{s with tree:=s.tree++[33],status:=1,found:=n}else{s with way:=(n,0)::s.way,tree:=s.tree++[40]}
noncomputable def CJ(cs:Lc)(s:SN):SN:={s with way:=(DJ cs s.way s.tree).1,tree:=(DJ cs s.way s.tree).2}
noncomputable def AQ(cs:Lc)(s:SN):SN:=match s.way with
 |[]=>s
 | (n,k)::r=>match cs[k]? with
  |none=>s
  |some c=>CJ cs (if(Ax n c k).2=3 then{s with way:=(n,k+1)::r,tries:=s.tries+1,status:=3}
    else if(Ax n c k).2=1\/(Ax n c k).2=2 then B7 {s with way:=(n,k+1)::r,tries:=s.tries+1,tree:=s.tree++Lib.decDigits k} (Ax n c k).1
    else{s with way:=(n,k+1)::r,tries:=s.tries+1})
def PH(cs:Lc)(top:ND):Ln->ND->Nat->Lu->Prop
 |[],n,k,T=>n=top/\n.goals≠[]/\k<=cs.length/\∃t,Mc cs n k t/\T=[40]++t
 |x::r,n,k,T=>n.goals≠[]/\k<=cs.length/\∃t j' c T',x.2=j'+1/\cs[j']?=some c/\((Ax x.1 c j').2=1\/(Ax x.1 c j').2=2)/\n=(Ax x.1 c j').1/\PH cs top r x.1 j' T'/\Mc cs n k t/\T=T'++Lib.decDigits j'++([40]++t)
def PW(cs:Lc)(top:ND):Ln->Lu->Prop
 |[],T=>HY cs top T
 | (n,k)::r,T=>PH cs top r n k T
theorem PW.part{u n:ND}{T:Lu}(h:PW cs u ((n,k)::r) T):n.goals≠[]/\k<=cs.length/\∃s t,Mc cs n k t/\T=s++([40]++t)/\∀b a,Mc cs n b a->b<=cs.length->PW cs u ((n,b)::r) (s++([40]++a)):=by
 cases r with
 |nil=>
  obtain⟨d,e,f,t,g,i⟩:=h;exact⟨e,f,[],t,g,by simpa using i,fun b a o l=>⟨d,e,l,a,o,Ys⟩⟩
 |cons m r=>
  obtain⟨m,j⟩:=m;obtain⟨d,e,t,q,c,p,f,g,i,v,w,x,y⟩:=h;exact⟨d,e,p++Lib.decDigits q,t,x,y,fun b a o l=>⟨d,l,a,q,c,p,f,g,i,v,w,o,rfl⟩⟩
theorem PW.miss{b n:ND}{T:Lu}(h:PW cs b ((n,k)::r) T)(a:cs[k]?=some c)(g:(Ax n c k).2=0):PW cs b ((n,k+1)::r) T:=by
 obtain⟨i,j,l,t,d,e,f⟩:=h.part;rw[e];exact f (k+1) t (.miss n k t c d a g) (by have:=(Qa.1 a).1;omega)
theorem PW.kid{b n:ND}{T u:Lu}(h:PW cs b ((n,k)::r) T)(a:cs[k]?=some c)(g:(Ax n c k).2=1\/(Ax n c k).2=2)(i:HY cs (Ax n c k).1 u):PW cs b ((n,k+1)::r) (T++Lib.decDigits k++u):=by
 obtain⟨j,l,m,t,d,e,f⟩:=h.part;rw[e];have:=f (k+1) (t++Lib.decDigits k++u) (.kid n k t u c d a g i) (by have:=(Qa.1 a).1;omega);simpa using this
theorem PW.down{a n:ND}{T:Lu}(h:PW cs a ((n,k)::r) T)(b:cs[k]?=some c)(e:(Ax n c k).2=1\/(Ax n c k).2=2)(d:(Ax n c k).1.goals≠[]):PW cs a (((Ax n c k).1,0)::(n,k+1)::r) (T++Lib.decDigits k++[40]):=
 ⟨d,Qm _,[],k,c,T,rfl,b,e,rfl,h,.zero _,Ys⟩
theorem PW.up{g n:ND}{T:Lu}(h:PW cs g ((n,k)::r) T)(w:cs.length<=k):PW cs g r (T++[41]):=by
 cases r with
 |nil=>
  obtain⟨b,i,d,t,f,a⟩:=h;have e:k=cs.length:=Yo
  subst e b a;exact .node n t i f
 |cons m r=>
  obtain⟨m,j⟩:=m;obtain⟨b,i,t,v,c,p,d,f,a,l,o,s,u⟩:=h;have e:k=cs.length:=Yo
  simp only at d a l o;subst e d l u;have q:PW cs g ((m,v)::r) p:=o;have:=q.kid f a (.node _ t b s);simpa using this
theorem PW.leave{a:ND}:∀{way:Ln}{T:Lu},PW cs a way T->PW cs a (DJ cs way T).1 (DJ cs way T).2:=by
 intro way
 induction way with
 |nil=>intro T h;exact h
 |cons x r c=>
  obtain⟨n,k⟩:=x;intro T h;unfold DJ;split
  ·rename_i b;exact c (h.up b)
  ·exact h
theorem FD(n:ND)(c:Dt)(k:Nat):(Ax n c k).2=0\/(Ax n c k).2=1\/(Ax n c k).2=2\/(Ax n c k).2=3:=by
 by_cases a:∃r:ND×Nat,∃m,FU m/\Co m n/\Kb m c k r.2 r.1
 ·have e:Ax n c k=Classical.choose a:=by unfold Ax;rw[dif_pos a]
  obtain⟨m,_,_,g,gs,_,d⟩:=Classical.choose_spec a;rw[e];rcases d with⟨h0,_⟩|⟨h0,_⟩|⟨σ,_,_,b,_⟩
  ·exact Or.inl h0
  ·exact Or.inr (Or.inr (Or.inr h0))
  ·rw[b];unfold Cy;split
   ·simp
   ·split<;>simp
 ·have e:Ax n c k=(⟨[],[],[],[],0⟩,0):=by unfold Ax;rw[dif_neg a]
  rw[e];simp
theorem PW.try'{e:ND}{s:SN}(h:PW cs e s.way s.tree)(a:(AQ cs s).status≠3):PW cs e (AQ cs s).way (AQ cs s).tree:=by
 unfold AQ at a⊢
 cases i:s.way with
 |nil=>rw[i]at a h;simpa[i]using h
 |cons x r=>
  obtain⟨n,k⟩:=x;rw[i]at a h;simp only at a⊢
  cases d:cs[k]? with
  |none=>rw[d]at a;simp only[i];exact h
  |some c=>
   rw[d]at a;simp only at a⊢
   by_cases j:(Ax n c k).2=3
   ·rw[if_pos j]at a;exact absurd rfl a
   ·rw[if_neg j]
    by_cases f:(Ax n c k).2=1\/(Ax n c k).2=2
    ·rw[if_pos f]
     by_cases g:(Ax n c k).1.goals=[]
     ·simp only[B7,if_pos g,CJ];have b:PW cs e ((n,k)::r) s.tree:=h;exact(b.kid d f (.leaf _ g)).leave
     ·simp only[B7,if_neg g,CJ];have b:PW cs e ((n,k)::r) s.tree:=h;exact(b.down d f g).leave
    ·rw[if_neg f];simp only[CJ];have h0:(Ax n c k).2=0:=by have:=FD n c k;omega
     have b:PW cs e ((n,k)::r) s.tree:=h;exact(b.miss d h0).leave
variable{m:SN}
structure D8(X:Nat->Prop)(w:World)(B:Nat)(dv:Value)(ds:List (ND×Nat))(xs:List Value):Prop where
 owns:w.ownsRow B 250 6 dv ds.length xs
 all:∀(i:Nat)(d:ND×Nat),ds[i]?=some d->∃m0 m1 m2 m3 m4,xs[i*6]?=some m0/\xs[i*6+1]?=some m1/\xs[i*6+2]?=some m2/\xs[i*6+3]?=some m3/\xs[i*6+4]?=some m4/\xs[i*6+5]?=some (.int .i64 d.2)/\Bx X w m0 m1 m2 m3 m4 d.1
theorem D8.ext{B':Nat}{a:Value}(h:D8 X w B a ds xs)(e:Ao w w')(f:∀k,k<w.hz->Y k->X k)(b:B'<=B):D8 Y w' B' a ds xs:=
 ⟨AI (Aj h.owns (fun k c=>e.block k (h.owns.lt k c).2)) b,fun i d hd=>by
  obtain⟨j,l,m,n,o,p,q,r,s,t,u,g⟩:=h.all i d hd;exact⟨j,l,m,n,o,p,q,r,s,t,u,g.ext e f⟩⟩
theorem JG{s g:Nat}(h:w.ownsRow B e s (.slice (some ⟨g,0,none⟩) (n+1) cap) (n+1) xs):
  w.ownsRow B e s (.slice (some ⟨g,0,none⟩) n cap) n (xs.take (n*s)):=by
 have l:(n+1)*s=n*s+s:=Nat.succ_mul n s;refine⟨by have:=h.1;rw[List.length_take];omega,?_⟩;rcases h.2 with⟨a,_⟩|⟨k,j,b,a,hb,d,hn,c,f,i⟩
 ·simp at a
 ·simp at a;obtain⟨rfl,rfl⟩:=a;refine .inr ⟨g,cap,b,rfl,hb,d,Yo,c,f,?_⟩;rw[<-i,List.take_take]
  congr 1
  omega
theorem D8.pop{g:Nat}{d:ND×Nat}(h:D8 X w B (.slice (some ⟨g,0,none⟩) (n+1) cap) (ds++[d]) xs)(hn:ds.length=n):D8 X w B (.slice (some ⟨g,0,none⟩) n cap) ds (xs.take (n*6)):=by
 have a:=h.owns;rw[Qg,Qn,hn]at a;refine⟨by rw[hn];exact JG a,fun i x b=> ?_⟩;have hi:=(Qa.1 b).1;obtain⟨c,e,f,j,k,l,m,o,p,q,r,g⟩:=h.all i x (by rw[Qc hi];exact b);exact⟨c,e,f,j,k,by rw[List.getElem?_take_of_lt Yo];exact l,by rw[List.getElem?_take_of_lt Yo];exact m,by rw[List.getElem?_take_of_lt Yo];exact o,by rw[List.getElem?_take_of_lt Yo];exact p,by rw[List.getElem?_take_of_lt Yo];exact q,by rw[List.getElem?_take_of_lt Yo];exact r,g⟩
theorem Dz{a c e f g j k l m n d:Value}(h:w.heap[b]?=some (.cells #[a,c,e,f,g,j,k,l,m,n,d] t (0,0))):
  w.cell? ⟨b,0,none⟩=some a/\w.cell? ⟨b,1,none⟩=some c/\w.cell? ⟨b,2,none⟩=some e/\w.cell? ⟨b,3,none⟩=some f/\w.cell? ⟨b,4,none⟩=some g/\w.cell? ⟨b,5,none⟩=some j/\w.cell? ⟨b,6,none⟩=some k/\w.cell? ⟨b,7,none⟩=some l/\w.cell? ⟨b,8,none⟩=some m/\w.cell? ⟨b,9,none⟩=some n/\w.cell? ⟨b,10,none⟩=some d/\∀i,w.frozen? ⟨b,i,none⟩=false:=
 ⟨Aa h 0 _ rfl,Aa h 1 _ rfl,Aa h 2 _ rfl,Aa h 3 _ rfl,Aa h 4 _ rfl,Aa h 5 _ rfl,Aa h 6 _ rfl,Aa h 7 _ rfl,Aa h 8 _ rfl,Aa h 9 _ rfl,Aa h 10 _ rfl,fun i=>Ae h i⟩
def CB(N:Nat):Ln->Ln
 |[]=>[]
 |x::r=>if N<=x.2 then CB N r else x::r
theorem Df(cs:Lc):∀(way:Ln)(t:Lu),(DJ cs way t).1=CB cs.length way:=by
 intro way
 induction way with
 |nil=>intro t;rfl
 |cons x r a=>
  obtain⟨n,k⟩:=x;intro t;simp only[DJ,CB];split
  ·exact a _
  ·rfl
theorem MZ(N:Nat):∀(way:Ln),(CB N way).length<=way.length:=by
 intro way
 induction way with
 |nil=>simp[CB]
 |cons x r a=>simp only[CB];split<;>simp<;>omega
theorem KO{N:Nat}:∀{way:Ln}{x:ND×Nat}{r:Ln},CB N way=x::r->x.2<N:=by
 intro way
 induction way with
 |nil=>intro x r h;simp[CB]at h
 |cons y s a=>
  intro x r h;simp only[CB]at h;split at h
  ·exact a h
  ·rename_i hn;simp at h;rw[<-h.1];omega
theorem Lb(N:Nat)(way:Ln):CB N (CB N way)=CB N way:=by
 cases h:CB N way with
 |nil=>rfl
 |cons x r=>
  have:=KO h;simp only[CB];rw[if_neg Yo]
theorem J9(w:World)(X:Np)(la:Oa)(b lc:Nat)(aa:Oa)(al ac:Nat)(na:Oa)(J nc:Nat)(R:Value)(st K:Int)(f0a:Oa)(f0l f0c:Nat)(f1a:Oa)(f1l f1c:Nat)(f2a:Oa)(f2l f2c:Nat)(f3a:Oa)(f3l f3c:Nat)(f4:Int)
  (way:Ln) (xs:Lv) (B:D8 X w 0 R way.reverse xs) (bh:way.length<=4000) (W:∀x∈way,x.2<=4000) (bd:b<=4000):
  Calls prog 112 #[.agg #[.slice la b lc,.slice aa al ac,.slice na J nc,R,Vi st,Vi K,.slice f0a f0l f0c,.slice f1a f1l f1c,.slice f2a f2l f2c,.slice f3a f3l f3c,Vi f4]] w fun e w'=>
   ∃s f,e= .returned s/\Ao w w'/\D8 X w' 0 s (CB b way).reverse f:=by
 obtain⟨da,Q,rfl⟩:=Ac B.owns;rw[Qv]at B⊢;have aj:=hd B;have an:=hd W;clear B W;obtain⟨c,t⟩:=Ex (w.alloc (.cells #[.slice la b lc,.slice aa al ac,.slice na J nc,.slice da way.length Q,Vi st,Vi K,.slice f0a f0l f0c,.slice f1a f1l f1c,.slice f2a f2l f2c,.slice f3a f3l f3c,Vi f4] 154));have I:Ao w c:=by rw[t];exact Mxt
 have bf:c.hz=w.hz+1:=by rw[t];simp
 have S:c.heap[w.hz]?=some (.cells #[.slice la b lc,.slice aa al ac,.slice na J nc,.slice da way.length Q,Vi st,Vi K,.slice f0a f0l f0c,.slice f1a f1l f1c,.slice f2a f2l f2c,.slice f3a f3l f3c,Vi f4] 154 (0,0)):=by rw[t];exact QL w _
 have M:=hd I;have ai:=hd S;have am:=hd t;have ak:=hd (aj.o.ext (Y:=X) (B':=0) I (fun _ _ h=>h) (Qe _));clear I S t;go_enter func112,bq;go_wp2;rw[<-am.o]
 go_loopg [3] (way.length+1) (fun gk d wr=>∃(way':Ln)(f:Lv),way'.length<gk/\way'.length<=way.length/\(∀x∈way',x.2<=4000)/\CB b way'=CB b way/\Ao c wr/\D8 X c 0 d way'.reverse f)
 case atStart=>exact⟨way,xs,Yo,Qe _,an.o,rfl,Ao.of (Ad.refl _ _),ak.o⟩
 case round=>
  obtain⟨way',f,D,E,v,F,g,k⟩:=hrel;obtain⟨aq,O,T⟩:=Ac k.owns;obtain⟨i,hz⟩:=Ex way'.reverse.length;rw[<-hz]at T;subst T;have bg:=g.size;obtain⟨ax,b1,b2,az,a0,a1,a2,a3,a4,a5,ay,a6⟩:=Dz ((g.block _ Yo).trans ai.o);have l:=k.ext (Y:=X) (B':=0) g (fun _ _ h=>h) (Qe _);have j:=hd g;have p:=hd k;have G:=hd l;have q:=hd F;have n:Hd (∀u,Ao c u->CB b way'=way'->∃s f,(Ending.returned (.slice aq i O))= .returned s/\Ao w u/\D8 X u 0 s (CB b way).reverse f):=fun u m av=>⟨_,f,rfl,M.o.trans (m.mono M.o.size),by
   rw[<-q.o,av];exact(p.o.ext (Y:=X) (B':=0) m (fun _ _ h=>h) (Qe _))⟩
  cases a:way' with
  |nil=>
   have au:decide ((0:Int)<(i:Int))=false:=by rw[hz,a];rfl
   have bb:decide (0<i)=false:=by rw[hz,a];rfl
   have A:Hd (∀u,Ao c u->_):=fun u m=>n.o u m (by rw[a];rfl);clear g k l F v hz a p G q n;go_wp2_with fail;go_quiet (fail);go_wp2;go_ret;exact A.o _ (j.o.trans ((Ao.of ((Ad.refl _ wr).drewN _)).mono j.o.size))
  |cons x r=>
   have ab:i=r.length+1:=by rw[hz,a];simp
   obtain⟨bl,bm,bn,bo,bp,ad,ae,af,ag,ah,L,Z⟩:=l.all r.length x (by rw[a,Qw,Qd Ys];simp);have z:=l.owns;rw[<-hz]at z;obtain⟨P,a7,a8,V,a9,U,ba⟩:=An z Yo;simp only[QH]at V;obtain⟨rfl,_,rfl⟩:=V;have br:wr.cell? ⟨P,r.length*6+5,none⟩=some (Vi x.2):=Ag z _ _ L;have bi:=v x (by rw[a];simp);have ao:=hd v;have ap:=hd a;have bk:i<=4000:=by rw[hz,Qv];omega
   have au:(0:Int)<(i:Int):=Yo
   have bc:r.length<gk-1:=by rw[a]at D;simp at D;omega
   have be:r.length<=way.length:=by rw[a]at E;simp at E;omega
   have bj:(i:Int)-1=(r.length:Int):=Yo
   by_cases C:b<=x.2
   ·have ar:(b:Int)<=(x.2:Int):=Yo
    have N:Hd (CB b r=CB b way/\D8 X c 0 (.slice (some ⟨P,0,none⟩) r.length O) r.reverse (f.take (r.length*6))):=by
     have h:=q.o;have H:=p.o;rw[a]at h H;rw[ab,Qw]at H;exact⟨by simpa only[CB,if_pos C]using h,H.pop Ys⟩
    clear g k l F v Z ad ae af ag ah L U C z hz a D E p G q n;go_wp2_with fail;go_quiet (fail);go_wp2
    go_roundg (r.length+1)
    case measure=>omega
    case rel=>exact⟨r,_,Yo,Yo,fun y aw=>ao.o y (by rw[ap.o];simp[aw]),N.o.1,j.o.trans ((Ao.of ((Ad.refl _ wr).drewN _)).mono j.o.size),N.o.2⟩
   ·have ar:¬(b:Int)<=(x.2:Int):=Yo
    have A:Hd (∀u,Ao c u->_):=fun u m=>n.o u m (by rw[a];simp only[CB,if_neg C]);rw[ab]at A;clear g k l F v Z ad ae af ag ah L U C z hz a D E p G q n;go_wp2_with fail;go_quiet (fail);go_wp2;go_ret;exact A.o _ (j.o.trans ((Ao.of ((Ad.refl _ wr).drewN _)).mono j.o.size))
def JU(P:ND->Lu->Prop)(cs:Lc)(n:ND):Nat->Nat->Lu->Prop
 |0,_,t=>t=[]
 |f+1,k,t=>∃c,cs[k]?=some c/\(((Ax n c k).2=0/\JU P cs n f (k+1) t)\/(((Ax n c k).2=1\/(Ax n c k).2=2)/\∃u t',P (Ax n c k).1 u/\t=Lib.decDigits k++(u++t')/\JU P cs n f (k+1) t'))
theorem HY.segs{P:ND->Lu->Prop}(hl:∀n,n.goals=[]->P n [33])(hn:∀n t,n.goals≠[]->JU P cs n cs.length 0 t->P n ([40]++t++[41])):∀{n u},HY cs n u->P n u:=by
 intro n u h;refine HY.rec (motive_1:=fun n u _=>P n u) (motive_2:=fun n k t _=>∀f r,JU P cs n f k r->JU P cs n (k+f) 0 (t++r)) ?_ ?_ ?_ ?_ ?_ h
 ·intro n h;exact hl n h
 ·intro n t h i a;refine hn n t h ?_;simpa using a 0 [] rfl
 ·intro n f r h;simpa using h
 ·intro n k t c h b d a f r e;have:=a (f+1) r ⟨c,b,Or.inl ⟨d,e⟩⟩;rw[show k+1+f=k+(f+1) by omega];exact this
 ·intro n k t u c h b d j a g f r e;have:=a (f+1) (Lib.decDigits k++(u++r)) ⟨c,b,Or.inr ⟨d,u,r,g,rfl,e⟩⟩;rw[show k+1+f=k+(f+1) by omega];simpa using this
def Gx(cs:Lc)(n:ND)(u:Lu):Prop:=u.length<=1000000->∀(w:World)(lv:Value)(xs:Lv)(m0 m1 m2 m3 m4:Value),Gg (fun _=>False) w lv cs xs->Bx (fun _=>False) w m0 m1 m2 m3 m4 n->
 Calls prog 149 #[lv,.agg #[m0,m1,m2,m3,m4]] w fun e w'=>e= .returned (.string ⟨u.toArray⟩)/\Ao w w'
theorem Uy(cs:Lc)(n:ND)(c:n.goals=[]):Gx cs n [33]:=by
 intro _ w r xs s t u v x a b;obtain⟨d,e,f,h,g,i,k,j,l,o,m,p,rfl,rfl,rfl,rfl,rfl⟩:=b.len;rw[c];obtain⟨la,q,rfl⟩:=Ac a.owns;clear a b;go_enter func149,ntmps149;go_wp2;go_ret;exact⟨rfl,Mxt⟩
set_option maxHeartbeats 8000000 in
theorem UF(cs:Lc)(av:∀c∈cs,Kl c/\QU c)(bt:cs.length<=24)(n:ND)(t:Lu)(K:n.goals≠[])(ar:JU (Gx cs) cs n cs.length 0 t):Gx cs n ([40]++t++[41]):=by
 intro bw w ck xs cl cm cn co cp x l;obtain⟨u,N⟩:=Ex ([40]++t++[41]);rw[<-N]at bw⊢;obtain⟨X,Z,aa,ac,ab,ae,ag,af,ah,aj,ai,ak,rfl,rfl,rfl,rfl,rfl⟩:=l.len;obtain⟨la,cj,rfl⟩:=Ac x.owns;obtain⟨P,hz⟩:=Ex n.goals.length;have ci:((P:Int)==0)=false:=by
  rw[Qu];have:n.goals.length≠0:=fun h=>K (List.eq_nil_of_length_eq_zero h);omega
 rw[<-hz]at l⊢;have b4:=hd x;have HN:=hd l;have a6:=hd ar;have ba:=hd av;have be:=hd N;have bc:=hd K;obtain⟨d,m⟩:=Ex (w.alloc (.cells #[.slice X P Z,.slice aa ac ab,.slice ae ag af,.slice ah aj ai,Vi ak] 152));have y:Ao w d:=by rw[m];exact Mxt
 have cg:d.hz=w.hz+1:=by rw[m];simp
 have al:d.heap[w.hz]?=some (.cells #[.slice X P Z,.slice aa ac ab,.slice ae ag af,.slice ah aj ai,Vi ak] 152 (0,0)):=by rw[m];exact QL w _
 have S:=hd y;have az:=hd al;have a9:=hd m;have Q:=hd (x.ext (Y:=fun _=>False) y (fun _ _ h=>h));have a4:=hd (l.ext (Y:=fun _=>False) y (fun _ _ h=>h));clear x l ar av N K hz y al m;go_enter func149,cq;go_wp2;rw[<-a9.o]
 go_loopg [5,6] (cs.length+1) (fun gk b3 i wr=>∃(k:Nat)(a r:Lu),i=Vi k/\k<=cs.length/\cs.length-k<gk/\b3= .string ⟨a.toArray⟩/\Ao d wr/\JU (Gx cs) cs n (cs.length-k) k r/\a++(r++[41])=u)
 case atStart=>exact⟨0,[40],t,Yg,Qm _,Yo,rfl,Ao.of (Ad.refl _ _),a6.o,by rw[be.o];simp⟩
 case round=>
  obtain⟨k,a,r,rfl,cc,cb,rfl,g,ap,J⟩:=hrel;have ca:a.length<=1000000:=by
   have b:=congrArg List.length J;simp only[Qg]at b;omega
  have bx:=g.size;obtain⟨b6,b1,b2,b7,b8,b9⟩:=C5 ((g.block _ Yo).trans az.o);have R:=hd g;have j:=hd J;have s:=hd ap;have a1:=hd (Q.o.ext (Y:=fun _=>False) g (fun _ _ h=>h));have a5:=hd (a4.o.ext (Y:=fun _=>False) g (fun _ _ h=>h));clear g ap J
  by_cases cf:k<cs.length
  ·obtain⟨f,bv⟩:∃f,cs.length-k=f+1:=⟨cs.length-k-1,Yo⟩;have aq:=s.o;rw[bv]at aq;obtain⟨c,I,au⟩:=aq;have b5:=hd I;have B:=hd au;have a7:=hd (IQ wr (fun _=>False) _ cs xs _ _ _ _ _ n k c a1.o ba.o bt a5.o (fun _ h=>h.elim) I bc.o);clear I au;go_wp2_with fail;apply a7.o.mono;rintro e w1 ⟨cx,rfl,F,cr,ct,cu,cv,cw,q,rfl,b0,L,aw⟩;obtain⟨bf,bh,bg,bi,bk,bj,bl,bn,bm,bo,bq,bp,br,ax⟩:=b0;simp only[Value.agg.injEq,Array.mk.injEq,QI,and_true]at ax;obtain⟨rfl,rfl,rfl,rfl,rfl⟩:=ax;have ch:=F.size;have E:Ao d w1:=R.o.trans (F.mono bx);have T:=hd E;have W:=hd aw;have a0:=hd (Q.o.ext (Y:=fun _=>False) E (fun _ _ h=>h));clear F E aw;obtain⟨D,H⟩:=Ex (w1.alloc (.cells #[.slice bf bh bg,.slice bi bk bj,.slice bl bn bm,.slice bo bq bp,Vi br] 152));have G:Ao w1 D:=by rw[H];exact Mxt
   have an:Ao d D:=T.o.trans (G.mono T.o.size);have A:=hd an;have U:=hd G;have V:=hd H;clear G an H;rcases B.o with⟨h0,p⟩|⟨bs,z,O,ao,M,p⟩
   ·have ay:q=0:=by rw[L,h0]
    have v:=hd p;clear B L h0 p;subst ay;go_wp2
    go_roundg (cs.length-k)
    case measure=>omega
    case rel=>exact⟨k+1,a,r,Yg,Yo,Yo,rfl,by rw[<-V.o];exact A.o,by rw[show cs.length-(k+1)=f by omega];exact v.o,j.o⟩
   ·have ay:((q:Int) !=0)=true:=by rw[bne_iff_ne];omega
    have cd:k<24:=Yo
    have a2:=hd (F3 k Yo);have ce:(Lib.decDigits k).length<=30:=by have:=Ec k;omega
    have bz:z.length<=1000000:=by
     have b:=congrArg List.length j.o;rw[M]at b;simp only[Qg]at b;omega
    have a8:=hd (ao bz D _ xs _ _ _ _ _ (a0.o.ext (Y:=fun _=>False) U.o (fun _ _ h=>h)) ((W.o Yo).ext (Y:=fun _=>False) U.o (fun _ _ h=>h)));have C:=hd (Az a (Lib.decDigits k));have bd:=hd (Az (a++Lib.decDigits k) z);have v:Hd (JU (Gx cs) cs n f (k+1) O/\(a++Lib.decDigits k++z)++(O++[41])=u):=⟨p,by have b:=j.o;rw[M]at b;rw[<-b];simp⟩;clear B L bs p ao M W s;go_wp2_with fail;apply(a2.o _).mono;rintro e w2 ⟨rfl,rfl⟩;go_wp2_with fail;rw[<-V.o];apply a8.o.mono;rintro e w3 ⟨rfl,am⟩;have a3:=hd am;clear am;go_wp2
    go_roundg (cs.length-k)
    case measure=>omega
    case rel=>exact⟨k+1,a++Lib.decDigits k++z,O,Yg,Yo,Yo,by rw[<-bd.o,<-C.o],A.o.trans (a3.o.mono A.o.size),by rw[show cs.length-(k+1)=f by omega];exact v.o.1,v.o.2⟩
  ·have bu:k=cs.length:=Yo
   subst bu;have bb:Hd (a++[41]=u):=by
    have b:=j.o;have ad:=s.o;rw[Nat.sub_self]at ad;rw[show r=[] from ad]at b;show _=_;simpa using b
   have C:=hd (Az a [41]);clear j s;go_wp2;go_ret;rw[<-bb.o];exact⟨DW (by rw[<-C.o]),S.o.trans (R.o.mono S.o.size)⟩
theorem PS(cs:Lc)(d:∀c∈cs,Kl c/\QU c)(b:cs.length<=24){n:ND}{u:Lu}(h:HY cs n u):Gx cs n u:=
 h.segs (fun n a=>Uy cs n a) (fun n t a e=>UF cs d b n t a e)
theorem J2(w:World)(av nv j k l m o:Value)(a:Ll×At)(c:ND)(d:Fi w av nv a)(D:Bx (fun _=>False) w j k l m o c)(F:c.vals.length=a.2.length)(O:a.2.length<=121)(B:∀y∈a.2,y.length<=4096):
  Calls prog 116 #[.agg #[av,nv],.agg #[j,k,l,m,o]] w fun e w'=>e= .returned (.string ⟨(AU a.2 c).toArray⟩)/\Ao w w':=by
 obtain⟨L,v⟩:=d.atoms;obtain⟨aa,p,rfl⟩:=Ac v.1;obtain⟨n,b,f,A,g,rfl⟩:=D.node;obtain⟨K,h⟩:=b.vals;obtain⟨N,z⟩:=b.goals;obtain⟨M,x⟩:=b.done;obtain⟨r,u,rfl⟩:=Ac z.owns;obtain⟨va,J,rfl⟩:=Ac h.1;obtain⟨da,q,rfl⟩:=Ac x.owns;obtain⟨H,I,rfl⟩:=Ac b.used;obtain⟨na,G,rfl⟩:=Ac d.names;have C:AU a.2 n=AU a.2 c:=by unfold AU;rw[g.valsC f]
 rw[<-C];exact Io w (fun _=>False) (.slice aa a.1.length p) (.slice na a.2.length G) (.slice r n.goals.length u) (.slice va n.vals.length J) (.slice da n.done.length q) (.slice H n.used.length I) n.vars a.2 n 0 K ⟨_,_,_,rfl⟩ ⟨_,_,_,rfl⟩ ⟨_,_,_,rfl⟩ ⟨_,_,_,rfl⟩
   d.names h (by rw[g.vl,F]) Yo B (fun t i=>⟨f.vsize i,fun s E=>Qq (A t (by simp[ND.terms,i]) s E) Yo⟩)
structure SC where
 la:Option Addr
 lc:Nat
 aa:Option Addr
 ac:Nat
 na:Option Addr
 nc:Nat
 da:Option Addr
 dc:Nat
 f0a:Option Addr
 f0l:Nat
 f0c:Nat
 f1a:Option Addr
 f1l:Nat
 f1c:Nat
 f2a:Option Addr
 f2l:Nat
 f2c:Nat
 f3a:Option Addr
 f3l:Nat
 f3c:Nat
 f4:Int
def SC.val(s:SC)(cl al nl wl:Nat)(st tr:Int):Value:= .agg #[.slice s.la cl s.lc,.slice s.aa al s.ac,.slice s.na nl s.nc,.slice s.da wl s.dc,.int .i64 st,.int .i64 tr,.slice s.f0a s.f0l s.f0c,.slice s.f1a s.f1l s.f1c,.slice s.f2a s.f2l s.f2c,.slice s.f3a s.f3l s.f3c,.int .i64 s.f4]
structure GY(X:Nat->Prop)(w:World)(s:SC)(cs:List Dt)(a:List (List BL)×At)(way:List (ND×Nat))(st:Nat)(found:ND):Prop where
 cls:∃xs,Gg (fun _=>False) w (.slice s.la cs.length s.lc) cs xs
 ask:Fi w (.slice s.aa a.1.length s.ac) (.slice s.na a.2.length s.nc) a
 dues:∃ys,D8 X w 0 (.slice s.da way.length s.dc) way.reverse ys
 found:st=1->Bx X w (.slice s.f0a s.f0l s.f0c) (.slice s.f1a s.f1l s.f1c) (.slice s.f2a s.f2l s.f2c) (.slice s.f3a s.f3l s.f3c) (.int .i64 s.f4) found
 xok:L8 X w
theorem GY.ext{s:SC}{way:Ln}{st:Nat}{found:ND}(h:GY X w s cs a way st found)(e:Ao w w'):GY X w' s cs a way st found:=by
 obtain⟨xs,b⟩:=h.cls;obtain⟨f,c⟩:=h.dues;exact⟨⟨xs,b.ext e (fun _ _ h=>h)⟩,h.ask.ext e,⟨f,c.ext e (fun _ _ h=>h) (Qe _)⟩,fun d=>(h.found d).ext e (fun _ _ h=>h),h.xok.ext e⟩
noncomputable def Dx(a:Ll×At)(st:Nat)(found:ND)(T:Lu):Lu×Lu×Lu:=
 if st=1 then(AU a.2 found,FQ found,[])else if st=2 then([],[],T)else([],[],[])
theorem V4(w:World)(s:SC)(cs:Lc)(q:ByteArray)(a:Ll×At)(way:Ln)(st:Nat)(a5:Int)(found:ND)(T:Lu)(h:GY X w s cs a way st found)(M:∀c∈cs,Kl c/\QU c)(a3:cs.length<=24)(D:Cr q=some a)
  (r:st=1->found.vals.length=a.2.length/\∀k∈found.used,k<24) (t:st=2->HY cs (AN a) T/\T.length<=1000000):
  Calls prog 114 #[s.val cs.length a.1.length a.2.length way.length st a5] w fun e w'=>e=Rq #[.string ⟨(Dx a st found T).1.toArray⟩,.string ⟨(Dx a st found T).2.1.toArray⟩,.string ⟨(Dx a st found T).2.2.toArray⟩]/\Ao w w':=by
 obtain⟨_,_,_,A,z,B,L,p,C⟩:=Cs D;obtain⟨xs,v⟩:=h.cls;have i:=h.ask;obtain⟨la,lc,aa,ac,na,nc,da,dc,f0a,f0l,f0c,f1a,f1l,f1c,f2a,f2l,f2c,f3a,f3l,f3c,f4⟩:=s;simp only[SC.val]at*;have E:=hd i;have F:=hd v
 by_cases O:st=1
 ·subst O;obtain⟨l,m⟩:=r rfl;have J:=h.found rfl;have P:=hd (fun u (j:Ao w u)=>J2 u _ _ _ _ _ _ _ a found (i.ext j) (J.ext (Y:=fun _=>False) j (fun _ _ h=>h.elim)) l p (fun y a4=>Qq (C y a4) Yo));have Q:=hd (fun u (j:Ao w u)=>LU u (fun _=>False) _ _ _ _ _ found (J.ext (Y:=fun _=>False) j (fun _ _ h=>h.elim)) m);have d:Hd (Dx a 1 found T=(AU a.2 found,FQ found,[])):=by show _=_;simp[Dx]
  rw[d.o];clear h A z B L p C D r t v i J l m d E F;obtain⟨ans,U⟩:∃x,x=AU a.2 found:=⟨_,rfl⟩;obtain⟨be,V⟩:∃x,x=FQ found:=⟨_,rfl⟩;rw[<-U]at P⊢;rw[<-V]at Q⊢;clear U V;go_enter func114,ntmps114;go_wp2_with fail;apply(P.o _ Mxt).mono;rintro e w2 ⟨rfl,b⟩;have f:=b.size;simp at f;obtain⟨af,b1,b2,ah,ai,aj,ak,al,am,an,ag,ao⟩:=Dz ((b.block w.hz Ys).trans (QL w _));have g:Hd (Ao w w2):=(Mxt:Ao w (w.alloc _)).trans (b.mono Ys);clear b;go_wp2_with fail;apply(Q.o _ g.o).mono;rintro e w3 ⟨rfl,n⟩;have G:=hd n;clear n;go_wp2;go_ret3;exact⟨rfl,g.o.trans (G.o.mono g.o.size)⟩
 ·by_cases f:st=2
  ·subst f;obtain⟨l,m⟩:=t rfl;obtain⟨ae,S⟩:=i.atoms;have W:=hd (fun u (j:Ao w u)=>Jh u (X:=fun _=>False) (fun _ h=>h.elim) _ _ a ae (S.ext j (fun _ _ h=>h)) ⟨na,nc,rfl⟩ A z B p);have Z:=hd (PS cs M a3 l m);have d:Hd (Dx a 2 found T=([],[],T)):=by show _=_;simp[Dx]
   rw[d.o];clear h A z B L p C D r t v i l m d E S M;go_enter func114,ntmps114;go_wp2_with fail;apply(W.o _ Mxt).mono;rintro e w2 ⟨a9,ba,bb,bc,bd,rfl,b,N⟩;obtain⟨ap,aq,ar,av,au,aw,ay,ax,az,a1,a0,a2,rfl,rfl,rfl,rfl,rfl⟩:=N.len;have f:=b.size;simp at f;obtain⟨af,b1,b2,ah,ai,aj,ak,al,am,an,ag,ao⟩:=Dz ((b.block w.hz Ys).trans (QL w _));have g:Hd (Ao w w2):=(Mxt:Ao w (w.alloc _)).trans (b.mono Ys);obtain⟨R,K⟩:=Ex (w2.alloc (.cells #[.slice ap (AN a).goals.length aq,.slice ar av au,.slice aw ay ax,.slice az a1 a0,Vi a2] 152));have I:Ao w2 R:=by rw[K];exact Mxt
   have H:=hd (g.o.trans (I.mono g.o.size));have ad:=hd (Z.o R _ xs _ _ _ _ _ (F.o.ext (Y:=fun _=>False) H.o (fun _ _ h=>h)) (N.ext (Y:=fun _=>False) I (fun _ _ h=>h)));have ab:=hd K;have a6:w.hz<w2.hz:=Yo
   clear b N K I;go_wp2_with fail;rw[<-ab.o];apply ad.o.mono;rintro e w3 ⟨rfl,n⟩;have G:=hd n;clear n;go_wp2;go_ret3;exact⟨rfl,H.o.trans (G.o.mono H.o.size)⟩
  ·have d:Hd (Dx a st found T=([],[],[])):=by show _=_;simp[Dx,O,f]
   rw[d.o];have a7:((st:Int)==1)=false:=by rw[Qu];omega
   have a8:((st:Int)==2)=false:=by rw[Qu];omega
   clear h A z B L p C D r t v i d E F M O f;go_enter func114,ntmps114;go_wp2;go_ret3;exact⟨rfl,Mxt⟩
theorem infoDue:(prog.info? 250).map (fun i=>(i.zero,i.size,i.bytes))=some (some (.agg #[Nl,Nl,Nl,Nl,Vi 0,Vi 0]),6,112):=by kernel_rfl
theorem Tv{a0 b c d:Oa}{i j l m e f g h:Nat}{v k:Int}:∀u∈(#[Value.slice a0 i e,.slice b j f,.slice c l g,.slice d m h,Vi v,Vi k]:Av).toList,u.oneCell'=true:=by
 intro u a;simp at a;rcases a with rfl|rfl|rfl|rfl|rfl|rfl<;>rfl
theorem Bx.one{a b c d e:Value}{f:ND}(h:Bx X w a b c d e f):a.oneCell'=true/\b.oneCell'=true/\c.oneCell'=true/\d.oneCell'=true/\e.oneCell'=true:=by
 obtain⟨g,i,j,l,k,m,o,n,p,r,q,s,rfl,rfl,rfl,rfl,rfl⟩:=h.len;exact⟨rfl,rfl,rfl,rfl,rfl⟩
theorem D8.one{b:Value}(h:D8 X w B b ds xs):∀u∈xs,u.oneCell'=true:=by
 intro u f;obtain⟨j,z,rfl⟩:=Q8 f;have hl:=h.owns.1;have hi:j/6<ds.length:=Yo
 obtain⟨A,C,D,E,F,q,r,s,t,x,y,g⟩:=h.all (j/6) _ (Qb hi);obtain⟨l,m,n,o,p⟩:=g.one;have a:∀{i:Nat}{v:Value},i=j->xs[i]?=some v->v.oneCell'=true->xs[j].oneCell'=true:=by
  intro i v e k d;subst e;rw[(Qa.1 k).2];exact d
 have c:j%6=0\/j%6=1\/j%6=2\/j%6=3\/j%6=4\/j%6=5:=Yo
 rcases c with e|e|e|e|e|e
 ·exact a Yo q l
 ·exact a Yo r m
 ·exact a Yo s n
 ·exact a Yo t o
 ·exact a Yo x p
 ·exact a Yo y rfl
theorem D8.step{cv':Value}{a b c f l:Value}{n:ND}(h:D8 X w B cv ds xs)(hn:Bx X w a b c f l n)(ha:Ar w B 250 6 cv (ds.length+1) (xs++[a,b,c,f,l,Vi k]) cv' w'):
  D8 X w' B cv' (ds++[(n,k)]) (xs++[a,b,c,f,l,Vi k]):=by
 have o:∀j,Ak cv j->∃cl t fr,w.heap[j]?=some (.cells cl t fr)/\t≠183/\t≠200/\t≠3:=fun j m=>by
  rcases h.owns.2 with⟨rfl,_⟩|⟨g,F,G,rfl,_,p,_⟩
  ·simp[Ak,Value.ownBlock]at m
  ·simp[Ak,Value.ownBlock]at m;subst m;exact⟨_,_,_,p,Yd,Yd,Yd⟩
 have q:=h.owns.1;refine⟨by simpa using ha.owns,fun i d hd=> ?_⟩;rcases QB i ds.length with hi|hi
 ·rw[Qc hi]at hd;obtain⟨r,s,u,v,x,y,z,A,C,D,E,g⟩:=h.all i d hd;exact⟨r,s,u,v,x,by rw[Qc Yo];exact y,by rw[Qc Yo];exact z,by rw[Qc Yo];exact A,by rw[Qc Yo];exact C,by rw[Qc Yo];exact D,by rw[Qc Yo];exact E,g.keep ha.kept o⟩
 ·have e:i=ds.length:=by
   have:=(Qa.1 hd).1;simp at this;omega
  subst e;rw[Qd (Qe _)]at hd;simp at hd;subst hd;exact⟨a,b,c,f,l,by rw[Qd Yo];simp[q],by rw[Qd Yo,show ds.length*6+1-xs.length=1 by omega];rfl,by rw[Qd Yo,show ds.length*6+2-xs.length=2 by omega];rfl,by rw[Qd Yo,show ds.length*6+3-xs.length=3 by omega];rfl,by rw[Qd Yo,show ds.length*6+4-xs.length=4 by omega];rfl,by rw[Qd Yo,show ds.length*6+5-xs.length=5 by omega];rfl,hn.keep ha.kept o⟩
theorem D8.on0{B':Nat}{a cv':Value}(h:D8 X w B' a ds xs)(ha:Ar w B 250 6 Nl ds.length xs cv' w'):D8 X w' B cv' ds xs:=by
 refine⟨ha.owns,fun i d hd=> ?_⟩;obtain⟨c,e,f,k,l,m,n,o,p,q,r,g⟩:=h.all i d hd;exact⟨c,e,f,k,l,m,n,o,p,q,r,g.keep ha.kept (fun j b=>by simp[Ak,Value.ownBlock]at b)⟩
theorem IE{a c d e f g:Value}(h:w.heap[b]?=some (.cells #[a,c,d,e,f,g] t (0,0))):
  w.cell? ⟨b,0,none⟩=some a/\w.cell? ⟨b,1,none⟩=some c/\w.cell? ⟨b,2,none⟩=some d/\w.cell? ⟨b,3,none⟩=some e/\w.cell? ⟨b,4,none⟩=some f/\w.cell? ⟨b,5,none⟩=some g/\∀i,w.frozen? ⟨b,i,none⟩=false:=
 ⟨Aa h 0 _ rfl,Aa h 1 _ rfl,Aa h 2 _ rfl,Aa h 3 _ rfl,Aa h 4 _ rfl,Aa h 5 _ rfl,fun i=>Ae h i⟩
def HZ(t:TypeId):Prop:=t=183\/t=200\/t=3\/t=250\/t=185\/t=9
def DC(S:Np)(w:World):Prop:=∀k,S k->∃cl t fr,w.heap[k]?=some (.cells cl t fr)/\¬HZ t
theorem DC.own(d:DC S w)(f:HZ e)(j:Ad S w w')(h:w.ownsRow B e size v n xs):w'.ownsRow B e size v n xs:=
 Aj h (fun k a=>j.block k (h.lt k a).2 (fun l=>by
  obtain⟨cl,t,fr,b,c⟩:=d k l;rcases h.2 with⟨rfl,_⟩|⟨g,m,o,rfl,_,i,_⟩
  ·simp[Ak,Value.ownBlock]at a
  ·simp[Ak,Value.ownBlock]at a;subst a;rw[i]at b;simp at b;exact c (b.2.1▸f)))
theorem DC.terms(f:DC S w)(g:Ad S w w'):∀k,k<w.hz->¬X k->CG w k->w'.heap[k]?=w.heap[k]?/\¬X k:=fun k d e a=>⟨g.block k d (fun h=>by
  obtain⟨cl,t,fr,b,c⟩:=f k h;obtain⟨i,a⟩:=a;rw[b]at a;simp at a;exact c (Or.inl a.2.1)),e⟩
theorem DC.node(l:DC S w)(m:Ad S w w'){b c d f g:Value}{i:ND}(h:Bx X w b c d f g i):Bx X w' b c d f g i:=
 h.keep m (fun k n=>by
  obtain⟨cl,t,fr,j,a⟩:=l k n;exact⟨cl,t,fr,j,fun e=>a (Or.inl e),fun e=>a (Or.inr (Or.inl e)),fun e=>a (Or.inr (Or.inr (Or.inl e)))⟩)
theorem D8.keep{a:Value}(h:D8 X w B a ds xs)(c:Ad S w w')(b:DC S w):D8 X w' B a ds xs:=
 ⟨b.own (by simp[HZ]) c h.owns,fun i d hd=>by
  obtain⟨e,f,j,k,l,m,n,o,p,q,r,g⟩:=h.all i d hd;exact⟨e,f,j,k,l,m,n,o,p,q,r,b.node c g⟩⟩
theorem Gg.keep(h:Gg X w lv cs xs)(f:Ad S w w')(e:DC S w):Gg X w' lv cs xs:=
 ⟨e.own (by simp[HZ]) f h.owns,fun i c l=>by
  obtain⟨a,b,d,g,r,m,n,o,p,q,j,k⟩:=h.all i c l;exact⟨a,b,d,g,r,m,n,o,p,q,j.on (e.terms f),k.on (e.terms f)⟩⟩
theorem GY.keep{s:SC}{way:Ln}{st:Nat}{found:ND}(h:GY X w s cs a way st found)(f:Ad S w w')(d:DC S w):GY X w' s cs a way st found:=by
 obtain⟨xs,c⟩:=h.cls;obtain⟨m,j⟩:=h.dues;exact⟨⟨xs,c.keep f d⟩,h.ask.keep f (fun k g=>by
  obtain⟨cl,t,fr,b,i⟩:=d k g;exact⟨cl,t,fr,b,fun e=>i (Or.inl e),fun e=>i (Or.inr (Or.inr (Or.inr (Or.inr (Or.inr e)))))⟩),⟨m,j.keep f d⟩,fun g=>d.node f (h.found g),fun k l=>by
  obtain⟨cl,fr,c⟩:=h.xok k l;refine⟨cl,fr,(f.block k (Ab c) (fun g=> ?_)).trans c⟩;obtain⟨n,t,o,b,i⟩:=d k g;rw[c]at b;simp at b;exact i (b.2.1▸Or.inr (Or.inr (Or.inl rfl)))⟩
theorem DR{a c:Av}{d e:Nat×Nat}(f:w.heap[b]?=some (.cells a 154 d))(g:w.heap[b+1]?=some (.cells c 154 e)):DC (fun k=>b<=k/\k<=b+1) w:=fun k h=>by
 have:k=b\/k=b+1:=Yo
 rcases this with rfl|rfl
 ·exact⟨_,_,_,f,by simp[HZ]⟩
 ·exact⟨_,_,_,g,by simp[HZ]⟩
theorem GY.fin{u:World}{d e:Av}{s:SC}{way:Ln}{st:Nat}{found:ND}(b:Ao w u)(f:u.heap[w.hz]?=some (.cells d 154 (0,0)))(g:u.heap[w.hz+1]?=some (.cells e 154 (0,0)))
  (h:GY X u s cs a way st found) (c:Ad (fun k=>w.hz<=k/\k<=w.hz+1) u w'):Ao w w'/\GY X w' s cs a way st found:=
 ⟨b.trans (c.below b.size (fun _ h=>h.1)),h.keep c (DR f g)⟩
theorem D8.base{a:Value}(h:D8 X w B a ds xs):D8 X w 0 a ds xs:=⟨AI h.owns (Qm _),h.all⟩
noncomputable def Cn(n:ND)(c:Dt)(k:Nat)(r:Ln):Ln:=if(Ax n c k).2=1 then((Ax n c k).1,0)::(n,k+1)::r else(n,k+1)::r
noncomputable def Cl(n:ND)(c:Dt)(k:Nat):Nat:=if(Ax n c k).2=2 then 1 else if(Ax n c k).2=3 then 3 else 0
def Gc(X:Np)(w:World)(cs:Lc)(a:Ll×At)(n:ND)(c:Dt)(k:Nat)(r:Ln)(tr:Nat)(e:Ending)(w':World):Prop:=∃s':SC,e= .returned (s'.val cs.length a.1.length a.2.length (Cn n c k r).length (Cl n c k) ((tr+1:Nat):Int))/\Ao w w'/\GY X w' s' cs a (Cn n c k r) (Cl n c k) (Ax n c k).1
set_option maxHeartbeats 8000000 in
theorem Ty(w:World)(s:SC)(cs:Lc)(a:Ll×At)(way:Ln)(b:Nat)(found n:ND)(k:Nat)(r:Ln)(c:Dt)(h:GY X w s cs a way 0 found)(dx:∀c∈cs,Kl c/\QU c)(es:cs.length<=24)
  (cw:CB cs.length way=(n,k)::r) (cr:cs[k]?=some c) (dy:n.goals≠[]) (ex:way.length<=4000) (l:∀x∈way,x.2<=4000) (fr:b<=4000):
  Calls prog 113 #[s.val cs.length a.1.length a.2.length way.length 0 b] w (Gc X w cs a n c k r b):=by
 have fk:r.length+1<=4000:=by
  have:=MZ cs.length way;rw[cw]at this;simp at this;omega
 have ff:k<24:=by have:=(Qa.1 cr).1;omega
 obtain⟨xs,ds⟩:=h.cls;obtain⟨fa,dt⟩:=h.dues;have dl:=h.ask;have M:=hd h.xok;obtain⟨la,lc,aa,ac,na,nc,da,dc,f0a,f0l,f0c,f1a,f1l,f1c,f2a,f2l,f2c,f3a,f3l,f3c,f4⟩:=s;simp only[SC.val]at*;obtain⟨ak,af⟩:=Ex ((w.alloc (.cells #[.slice la cs.length lc,.slice aa a.1.length ac,.slice na a.2.length nc,.slice da way.length dc,Vi 0,Vi b,.slice f0a f0l f0c,.slice f1a f1l f1c,.slice f2a f2l f2c,.slice f3a f3l f3c,Vi f4] 154)).alloc (.cells #[Nl,Nl,Nl,Nl,Vi 0,Vi 0,Nl,Nl,Nl,Nl,Vi 0] 154));have cm:Ao w ak:=by rw[af];exact Mxt
 have fl:ak.hz=w.hz+2:=by rw[af];simp
 have dm:ak.heap[w.hz]?=some (.cells #[.slice la cs.length lc,.slice aa a.1.length ac,.slice na a.2.length nc,.slice da way.length dc,Vi 0,Vi b,.slice f0a f0l f0c,.slice f1a f1l f1c,.slice f2a f2l f2c,.slice f3a f3l f3c,Vi f4] 154 (0,0)):=by rw[af];exact heap_alloc2_old w _ _
 have dn:ak.heap[w.hz+1]?=some (.cells #[Nl,Nl,Nl,Nl,Vi 0,Vi 0,Nl,Nl,Nl,Nl,Vi 0] 154 (0,0)):=by rw[af];exact heap_alloc2_new w _ _
 have di:=hd (J9 ak X la cs.length lc aa a.1.length ac na a.2.length nc (.slice da way.length dc) 0 b f0a f0l f0c f1a f1l f1c f2a f2l f2c f3a f3l f3c f4 way fa (dt.ext (Y:=X) (B':=0) cm (fun _ _ h=>h) (Qe _)) ex l Yo);have L:=hd ds;have ai:=hd dl;have bt:=hd cm;have bp:=hd dm;have cz:=hd dn;have c5:=hd af;have dh:=hd cw;have c7:=hd cr;have c9:=hd dy;have c8:=hd dx;clear h ds dt dl cm dm dn af cw cr dy dx l;go_enter func113,ntmps113;go_wp2_with fail;rw[<-c5.o];apply di.o.mono;rintro e w1 ⟨fd,cy,rfl,am,a0⟩;rw[dh.o,Qw]at a0;have t:=a0.owns;rw[Qg,Qv,Qn]at t;obtain⟨fb,eq,fc,rfl,er,et,eu⟩:=An t Yo;obtain⟨fs,ft,fu,fv,fw,ec,ed,ee,ef,eg,eh,cu⟩:=a0.all r.length (n,k) (by rw[Qd Ys];simp);obtain⟨b7,b8,b9,cb,ca,cc,ce,cd,cf,ch,cg,ci,rfl,rfl,rfl,rfl,rfl⟩:=cu.len;have e4:=Ag t _ _ ec;have e5:=Ag t _ _ ed;have e6:=Ag t _ _ ee;have e7:=Ag t _ _ ef;have e8:=Ag t _ _ eg;have e9:=Ag t _ _ eh;have d1:=a0.pop Qv;have fm:=am.size;obtain⟨y,b1,b2,A,B,C,D,E,F,G,z,H⟩:=Dz ((am.block _ Yo).trans bp.o);obtain⟨al,av⟩:=Ex (w1.alloc (.cells #[.slice b7 n.goals.length b8,.slice b9 cb ca,.slice cc ce cd,.slice cf ch cg,Vi ci,Vi k] 250));have cn:Ao w1 al:=by rw[av];exact Mxt
 have fn:al.hz=w1.hz+1:=by rw[av];simp
 have dp:al.heap[w1.hz]?=some (.cells #[.slice b7 n.goals.length b8,.slice b9 cb ca,.slice cc ce cd,.slice cf ch cg,Vi ci,Vi k] 250 (0,0)):=by rw[av];exact QL w1 _
 have bn:=d1.ext (Y:=X) (B':=0) cn (fun _ _ h=>h) (Qe _);have b0:=hd (Gf bn.owns bn.one);rw[Qv]at b0;have bw:=hd (bt.o.trans (am.mono bt.o.size));have bu:=hd am;have c0:=hd cn;have bq:=hd dp;have c6:=hd av;have de:=hd bn;have b3:=hd cu;have bo:w.hz<w1.hz:=Yo
 have cx:w.hz+1<w1.hz:=Yo
 have fj:((r.length:Int)+1)-1=(r.length:Int):=Yo
 have fe:r.length<=eq:=Yo
 clear a0 t et eu ec ed ee ef eg eh cu d1 bn am cn dp av di er
 go_wp2_with (at_builtin;rw[<-c6.o];refine BT _ rfl (.tmp 16) (.tmp 21) 149 rfl (w1.hz+1) 250 infoDue underlying149 rfl Yd _ 0 [] rfl (Q2 _ _ _ _) _ r.length (cy.take (r.length*6)) rfl b0.o ?_ ?_ ?_)
 ·omega
 ·omega
 intro f3 a1 ag
 try simp only[Nat.zero_add,Qz]at ag
 obtain⟨dk,dj,rfl⟩:=Ac ag.owns;have d2:D8 X a1 (w1.hz+1) (.slice dk r.length dj) r.reverse (cy.take (r.length*6)):=de.o.on0 (by rw[Qv];exact ag);have ap:Ao al a1:=ag.kept.below (Qe _) (fun k e=>by simp[Ak,Value.ownBlock]at e);have fo:=ap.size;have co:Ao w1 a1:=c0.o.trans (ap.mono Yo);have aj:=hd ((bu.o.block _ Yo).trans bp.o);have be:=hd ((bu.o.block _ Yo).trans cz.o);obtain⟨q0,d6,d7,d8,d9,ea,eb⟩:=IE ((ap.block _ Yo).trans bq.o);have df:=hd d2;have c2:=hd ap;have c1:=hd co;have b4:=hd ag.owns;have dd:=hd (b3.o.ext (Y:=X) co (fun _ _ h=>h));have fg:w1.hz<a1.hz:=Yo
 clear d2 ap co ag e4 e5 e6 e7 e8 e9 y b1 b2 A B C D E F G z H de b0
 go_wp2_with (at_builtin;refine Am _ rfl (.tmp 23) (.tmp 30) 149 rfl (w1.hz+1) 250 infoDue underlying149 rfl Yd (.slice dk r.length dj) r.length (cy.take (r.length*6)) rfl b4.o #[.slice b7 n.goals.length b8,.slice b9 cb ca,.slice cc ce cd,.slice cf ch cg,Vi ci,Vi ((k:Int)+1)] rfl Ys rfl Tv ?_ ?_ ?_)
 ·omega
 ·omega
 intro f5 m bl;obtain⟨g,f,rfl⟩:=Ac bl.owns;have d3:D8 X m (w1.hz+1) (.slice g (r.length+1) f) (r.reverse++[(n,k+1)]) _:=df.o.step (n:=n) (k:=k+1) dd.o (by rw[Qv,show((k+1:Nat):Int)=(k:Int)+1 by omega];exact bl);have bj:Below (w1.hz+1) a1 m:=bl.kept.below Yo (fun k e=>(b4.o.lt k e).1);have fp:=bj.size;have an:Ao w1 m:=c1.o.trans (bj.mono Yo);have du:Ao al m:=c2.o.trans (bj.mono Yo);have au:Ao w m:=bw.o.trans (an.mono bw.o.size);obtain⟨q0,d6,d7,d8,d9,ea,eb⟩:=IE ((du.block _ Yo).trans bq.o);obtain⟨y,b1,b2,A,B,C,D,E,F,G,z,H⟩:=Dz ((an.block _ bo).trans aj.o);have fh:w1.hz<m.hz:=Yo
 have fi:w.hz<m.hz:=Yo
 have c4:=hd (IQ m X _ cs xs _ _ _ _ _ n k c ((L.o.ext (Y:=fun _=>False) au (fun _ _ h=>h)).toX (M.o.ext au)) c8.o es (b3.o.ext (Y:=X) an (fun _ _ h=>h)) (fun _ h=>(M.o.ext au).lt h) c7.o c9.o);have b5:=hd d3;have bv:=hd an;have bx:=hd au;clear d3 bj an du au bl df c2 c1 b4 dd c0;go_wp2_with fail;apply c4.o.mono;rintro e w4 ⟨f2,rfl,aq,fx,fy,fz,f0,f1,q,rfl,ew,az,ct⟩;obtain⟨O,Q,P,R,T,S,U,W,V,Z,ad,ab,ae,d0⟩:=ew;simp only[Value.agg.injEq,Array.mk.injEq,QI,and_true]at d0;obtain⟨rfl,rfl,rfl,rfl,rfl⟩:=d0;have ev:=aq.size;obtain⟨u,aw⟩:=Ex (w4.alloc (.cells #[.slice O Q P,.slice R T S,.slice U W V,.slice Z ad ab,Vi ae] 152));have cq:Ao w4 u:=by rw[aw];exact Mxt
 have cv:u.hz=w4.hz+1:=by rw[aw];simp
 have cj:u.heap[w4.hz]?=some (.cells #[.slice O Q P,.slice R T S,.slice U W V,.slice Z ad ab,Vi ae] 152 (0,0)):=by rw[aw];exact QL w4 _
 have bk:Ao m u:=aq.trans (cq.mono ev);have bi:Ao w1 u:=bv.o.trans (bk.mono Yo);have dv:Ao w u:=bx.o.trans (bk.mono Yo);have d4:=b5.o.ext (Y:=X) (B':=(w1.hz+1)) bk (fun _ _ h=>h) (Qe _);have dr:=(bi.block _ bo).trans aj.o;have dq:=(bi.block _ cx).trans be.o;have ao:Ao w1 w4:=bv.o.trans (aq.mono Yo);have cp:Ao m w4:=aq;have d:=hd (bx.o.trans (cp.mono Yo));have bs:=hd ((ao.block _ bo).trans aj.o);have br:=hd ((ao.block _ cx).trans be.o);have b6:=hd (b5.o.ext (Y:=X) (B':=w1.hz+1) cp (fun _ _ h=>h) (Qe _));have ep:=hd ct;obtain⟨y,b1,b2,A,B,C,D,E,F,G,z,H⟩:=Dz ((ao.block _ bo).trans aj.o);obtain⟨a2,a3,a5,a6,a7,a8,a9,ba,bb,bc,a4,bd⟩:=Dz ((ao.block _ cx).trans be.o);obtain⟨ey,ez,e0,e1,e2,e3⟩:=C5 cj;have N:=hd d4;have en:=hd bi;have c3:=hd dv;have el:=hd dr;have ej:=hd dq;have ei:=hd cj;have eo:=hd aw;have db:=hd (fun az=>(ct az).ext (Y:=X) cq (fun _ _ h=>h));have p:=hd az;have ax:w.hz<w4.hz:=Yo
 have ay:w.hz+1<w4.hz:=Yo
 have dz:=FD n c k;rw[<-az]at dz;clear ao cp aq cq bk bi dv d4 dr dq cj aw ct az b5 bv bx c4 q0 d6 d7 d8 d9 ea eb;rcases dz with rfl|rfl|rfl|rfl
 ·have j:Cn n c k r=(n,k+1)::r:=by unfold Cn;rw[<-p.o];rfl
  have i:Cl n c k=0:=by unfold Cl;rw[<-p.o];rfl
  have I:Hd (∀w',Ad (fun k=>w.hz<=k/\k<=w.hz+1) w4 w'->Gc X w cs a n c k r b (.returned (.agg #[.slice la cs.length lc,.slice aa a.1.length ac,.slice na a.2.length nc,.slice g (r.length+1) f,Vi 0,Vi ((b:Int)+1),.slice f0a f0l f0c,.slice f1a f1l f1c,.slice f2a f2l f2c,.slice f3a f3l f3c,Vi f4])) w'):=fun w' l=>by
   unfold Gc;rw[j,i];obtain⟨J,K⟩:=GY.fin (s:=⟨la,lc,aa,ac,na,nc,g,f,f0a,f0l,f0c,f1a,f1l,f1c,f2a,f2l,f2c,f3a,f3l,f3c,f4⟩) (way:=(n,k+1)::r) (st:=0) (found:=(Ax n c k).1) (cs:=cs) (a:=a) d.o bs.o br.o ⟨⟨xs,L.o.ext (Y:=fun _=>False) d.o (fun _ _ h=>h)⟩,ai.o.ext d.o,⟨_,by simpa[Qw]using b6.o.base⟩,fun h=>by simp at h,M.o.ext d.o⟩ l;refine⟨_,?_,J,K⟩;rw[show((b+1:Nat):Int)=(b:Int)+1 by omega];rfl
  clear j i N;clear p db en c3 ei b3 L ai c7 c9 c8 dh bu bt bp cz bq c5 c6 bw aj be cv;go_wp2;refine bodyPost_ret (v:= .agg #[.slice la cs.length lc,.slice aa a.1.length ac,.slice na a.2.length nc,.slice g (r.length+1) f,Vi 0,Vi ((b:Int)+1),.slice f0a f0l f0c,.slice f1a f1l f1c,.slice f2a f2l f2c,.slice f3a f3l f3c,Vi f4]) (by simp[results,results113,go_sem,a2,a3,a5,a6,a7,a8,a9,ba,bb,bc,a4,bd,y,b1,b2,A,B,C,D,E,F,G,z,H,ax,ay]) rfl ?_;exact I.o _ Mst
 ·have bz:=hd N.o.owns;simp only[Qg,Qv,Qn]at bz
  go_wp2_with (at_builtin;rw[<-eo.o];refine Am u rfl (.tmp 45) (.tmp 48) 149 rfl (w1.hz+1) 250 infoDue underlying149 rfl Yd (.slice g (r.length+1) f) (r.length+1) _ rfl bz.o #[.slice O Q P,.slice R T S,.slice U W V,.slice Z ad ab,Vi ae,Vi 0] rfl Yo rfl Tv ?_ ?_ ?_)
  ·omega
  ·omega
  intro f6 ah bm;obtain⟨bh,bg,rfl⟩:=Ac bm.owns;have d5:D8 X ah (w1.hz+1) (.slice bh (r.length+1+1) bg) (r.reverse++[(n,k+1)]++[((Ax n c k).1,0)]) _:=N.o.step (n:=(Ax n c k).1) (k:=0) (db.o Ys) (by simpa using bm);have ar:Below (w1.hz+1) u ah:=bm.kept.below Yo (fun k e=>(bz.o.lt k e).1);have fq:=ar.size;have dw:Ao w ah:=c3.o.trans (ar.mono Yo);have cl:=(ar.block _ Yo).trans el.o;have ck:=(ar.block _ Yo).trans ej.o;obtain⟨y,b1,b2,A,B,C,D,E,F,G,z,H⟩:=Dz cl;obtain⟨a2,a3,a5,a6,a7,a8,a9,ba,bb,bc,a4,bd⟩:=Dz ck;have ax:w.hz<ah.hz:=Yo
  have ay:w.hz+1<ah.hz:=Yo
  have bf:=hd dw;have dg:=hd d5;have em:=hd cl;have ek:=hd ck;clear d5 ar dw cl ck bm ey ez e0 e1 e2 e3;have j:Cn n c k r=((Ax n c k).1,0)::(n,k+1)::r:=by unfold Cn;rw[<-p.o];rfl
  have i:Cl n c k=0:=by unfold Cl;rw[<-p.o];rfl
  have I:Hd (∀w',Ad (fun k=>w.hz<=k/\k<=w.hz+1) ah w'->Gc X w cs a n c k r b (.returned (.agg #[.slice la cs.length lc,.slice aa a.1.length ac,.slice na a.2.length nc,.slice bh (r.length+1+1) bg,Vi 0,Vi ((b:Int)+1),.slice f0a f0l f0c,.slice f1a f1l f1c,.slice f2a f2l f2c,.slice f3a f3l f3c,Vi f4])) w'):=fun w' l=>by
   unfold Gc;rw[j,i];obtain⟨J,K⟩:=GY.fin (s:=⟨la,lc,aa,ac,na,nc,bh,bg,f0a,f0l,f0c,f1a,f1l,f1c,f2a,f2l,f2c,f3a,f3l,f3c,f4⟩) (way:=((Ax n c k).1,0)::(n,k+1)::r) (st:=0) (found:=(Ax n c k).1) (cs:=cs) (a:=a) bf.o em.o ek.o ⟨⟨xs,L.o.ext (Y:=fun _=>False) bf.o (fun _ _ h=>h)⟩,ai.o.ext bf.o,⟨_,by simpa[Qw]using dg.o.base⟩,fun h=>by simp at h,M.o.ext bf.o⟩ l;refine⟨_,?_,J,K⟩;rw[show((b+1:Nat):Int)=(b:Int)+1 by omega];rfl
  clear j i dg N;go_wp2;refine bodyPost_ret (v:= .agg #[.slice la cs.length lc,.slice aa a.1.length ac,.slice na a.2.length nc,.slice bh (r.length+1+1) bg,Vi 0,Vi ((b:Int)+1),.slice f0a f0l f0c,.slice f1a f1l f1c,.slice f2a f2l f2c,.slice f3a f3l f3c,Vi f4]) (by simp[results,results113,go_sem,a2,a3,a5,a6,a7,a8,a9,ba,bb,bc,a4,bd,y,b1,b2,A,B,C,D,E,F,G,z,H,ax,ay]) rfl ?_;exact I.o _ Mst
 ·have j:Cn n c k r=(n,k+1)::r:=by unfold Cn;rw[<-p.o];rfl
  have i:Cl n c k=1:=by unfold Cl;rw[<-p.o];rfl
  have I:Hd (∀w',Ad (fun k=>w.hz<=k/\k<=w.hz+1) w4 w'->Gc X w cs a n c k r b (.returned (.agg #[.slice la cs.length lc,.slice aa a.1.length ac,.slice na a.2.length nc,.slice g (r.length+1) f,Vi 1,Vi ((b:Int)+1),.slice O Q P,.slice R T S,.slice U W V,.slice Z ad ab,Vi ae])) w'):=fun w' l=>by
   unfold Gc;rw[j,i];obtain⟨J,K⟩:=GY.fin (s:=⟨la,lc,aa,ac,na,nc,g,f,O,Q,P,R,T,S,U,W,V,Z,ad,ab,ae⟩) (way:=(n,k+1)::r) (st:=1) (found:=(Ax n c k).1) (cs:=cs) (a:=a) d.o bs.o br.o ⟨⟨xs,L.o.ext (Y:=fun _=>False) d.o (fun _ _ h=>h)⟩,ai.o.ext d.o,⟨_,by simpa[Qw]using b6.o.base⟩,fun _=>ep.o Ys,M.o.ext d.o⟩ l;refine⟨_,?_,J,K⟩;rw[show((b+1:Nat):Int)=(b:Int)+1 by omega];rfl
  clear j i N cv;go_wp2;refine bodyPost_ret (v:= .agg #[.slice la cs.length lc,.slice aa a.1.length ac,.slice na a.2.length nc,.slice g (r.length+1) f,Vi 1,Vi ((b:Int)+1),.slice O Q P,.slice R T S,.slice U W V,.slice Z ad ab,Vi ae]) (by simp[results,results113,go_sem,a2,a3,a5,a6,a7,a8,a9,ba,bb,bc,a4,bd,y,b1,b2,A,B,C,D,E,F,G,z,H,ax,ay]) rfl ?_;exact I.o _ Mst
 ·have j:Cn n c k r=(n,k+1)::r:=by unfold Cn;rw[<-p.o];rfl
  have i:Cl n c k=3:=by unfold Cl;rw[<-p.o];rfl
  have I:Hd (∀w',Ad (fun k=>w.hz<=k/\k<=w.hz+1) w4 w'->Gc X w cs a n c k r b (.returned (.agg #[.slice la cs.length lc,.slice aa a.1.length ac,.slice na a.2.length nc,.slice g (r.length+1) f,Vi 3,Vi ((b:Int)+1),.slice f0a f0l f0c,.slice f1a f1l f1c,.slice f2a f2l f2c,.slice f3a f3l f3c,Vi f4])) w'):=fun w' l=>by
   unfold Gc;rw[j,i];obtain⟨J,K⟩:=GY.fin (s:=⟨la,lc,aa,ac,na,nc,g,f,f0a,f0l,f0c,f1a,f1l,f1c,f2a,f2l,f2c,f3a,f3l,f3c,f4⟩) (way:=(n,k+1)::r) (st:=3) (found:=(Ax n c k).1) (cs:=cs) (a:=a) d.o bs.o br.o ⟨⟨xs,L.o.ext (Y:=fun _=>False) d.o (fun _ _ h=>h)⟩,ai.o.ext d.o,⟨_,by simpa[Qw]using b6.o.base⟩,fun h=>by simp at h,M.o.ext d.o⟩ l;refine⟨_,?_,J,K⟩;rw[show((b+1:Nat):Int)=(b:Int)+1 by omega];rfl
  clear j i N cv;go_wp2;refine bodyPost_ret (v:= .agg #[.slice la cs.length lc,.slice aa a.1.length ac,.slice na a.2.length nc,.slice g (r.length+1) f,Vi 3,Vi ((b:Int)+1),.slice f0a f0l f0c,.slice f1a f1l f1c,.slice f2a f2l f2c,.slice f3a f3l f3c,Vi f4]) (by simp[results,results113,go_sem,a2,a3,a5,a6,a7,a8,a9,ba,bb,bc,a4,bd,y,b1,b2,A,B,C,D,E,F,G,z,H,ax,ay]) rfl ?_;exact I.o _ Mst
theorem G7{n:ND}(h:(Ax n c k).2=1\/(Ax n c k).2=2):(Ax n c k).2=2↔(Ax n c k).1.goals=[]:=by
 by_cases a:∃r:ND×Nat,∃m,FU m/\Co m n/\Kb m c k r.2 r.1
 ·have e:Ax n c k=Classical.choose a:=by unfold Ax;rw[dif_pos a]
  obtain⟨m,_,j,g,gs,_,d⟩:=Classical.choose_spec a;rw[e]at h⊢;rcases d with⟨h0,_⟩|⟨h0,_⟩|⟨σ,_,_,f,i⟩
  ·omega
  ·omega
  ·rw[f,<-i]at h;rw[f,<-i];unfold Cy at h⊢;split at h
   ·omega
   ·rename_i d;rw[if_neg d];split
    ·rename_i b;simp[b]
    ·rename_i b;simp[b]
 ·have e:Ax n c k=(⟨[],[],[],[],0⟩,0):=by unfold Ax;rw[dif_neg a]
  rw[e]at h;simp at h
def Eu(way:Ln):List Nat:=(way.map (fun x=>x.2-1)).reverse
theorem K0(n:ND)(k:Nat)(r:Ln):Eu ((n,k+1)::r)=Eu r++[k]:=by simp[Eu]
def K9:Ln->Prop
 |[]=>True
 |x::r=>x.1.used=Eu r/\(∀y∈r,1<=y.2)/\K9 r
theorem K9.trim{N:Nat}:∀{way:Ln},K9 way->K9 (CB N way):=by
 intro way
 induction way with
 |nil=>intro h;exact h
 |cons x r a=>
  intro h;simp only[CB];split
  ·exact a h.2.2
  ·exact h
theorem MM{N:Nat}:∀{way:Ln}{x:ND×Nat},x∈CB N way->x∈way:=by
 intro way
 induction way with
 |nil=>intro x h;exact h
 |cons y r a=>
  intro x h;simp only[CB]at h;split at h
  ·exact QD _ (a h)
  ·exact h
theorem Le(cs:Lc):∀(way:Ln)(t:Lu),(DJ cs way t).2.length+(DJ cs way t).1.length=t.length+way.length:=by
 intro way
 induction way with
 |nil=>intro t;rfl
 |cons x r a=>
  obtain⟨n,k⟩:=x;intro t;simp only[DJ];split
  ·rw[a];simp;omega
  ·rfl
structure DG(cs:List Dt)(a:List (List BL)×At)(s:SN):Prop where
 way:∀x∈s.way,x.1.goals≠[]/\x.1.vals.length=a.2.length/\x.2<=cs.length/\∀k∈x.1.used,k<cs.length
 used:K9 s.way
 tree:s.status≠3->PW cs (AN a) s.way s.tree
 trim:CB cs.length s.way=s.way
 found:s.status=1->s.found.goals=[]/\s.found.vals.length=a.2.length/\∀k∈s.found.used,k<cs.length
 len:s.tree.length+s.way.length<=2+26*s.tries
 tries:s.tries<=3000
 no:s.status=2->s.way=[]
 st:s.status<=3
theorem EW{s:SN}{n:ND}(j:s.way=(n,k)::r)(i:cs[k]?=some c)(h0:s.status=0):
  (AQ cs s).way=CB cs.length (Cn n c k r)/\(AQ cs s).status=Cl n c k/\(AQ cs s).tries=s.tries+1/\(Cl n c k=1->(AQ cs s).found=(Ax n c k).1):=by
 have l:=FD n c k;unfold AQ;rw[j];simp only[i]
 by_cases d:(Ax n c k).2=3
 ·rw[if_pos d];simp[CJ,Df,Cn,Cl,d]
 ·rw[if_neg d]
  by_cases a:(Ax n c k).2=1\/(Ax n c k).2=2
  ·rw[if_pos a]
   by_cases b:(Ax n c k).1.goals=[]
   ·have e:=(G7 a).2 b;simp[CJ,B7,b,Df,Cn,Cl,e]
   ·have e:(Ax n c k).2≠2:=fun h=>b ((G7 a).1 h);have g:(Ax n c k).2=1:=Yo
    simp[CJ,B7,b,Df,Cn,Cl,g,h0]
  ·rw[if_neg a];have f:(Ax n c k).2=0:=Yo
   simp[CJ,Df,Cn,Cl,f,h0]
theorem Ox{s:SN}{n:ND}(b:s.way=(n,k)::r)(a:cs[k]?=some c)(d:k<24):(AQ cs s).tree.length+(AQ cs s).way.length<=s.tree.length+s.way.length+26:=by
 have hd:(Lib.decDigits k).length<=24:=by
  have:=Ec k;omega
 unfold AQ;rw[b];simp only[a,CJ,Le];split
 ·simp
 ·split
  ·unfold B7;split
   ·simp;omega
   ·simp;omega
  ·simp
theorem DG.try'{s:SN}(h:DG cs a s)(C:cs.length<=24)(h0:s.status=0){n:ND}(i:s.way=(n,k)::r)(q:cs[k]?=some c)(F:s.tries<3000):DG cs a (AQ cs s):=by
 obtain⟨o,p,B,w⟩:=EW i q h0;have D:=FD n c k;have E:=(Qa.1 q).1;obtain⟨w1,w2,w3,w4⟩:=h.way (n,k) (by rw[i];simp);have e:=h.used;rw[i]at e;have v:∀x∈r,x.1.goals≠[]/\x.1.vals.length=a.2.length/\x.2<=cs.length/\∀k∈x.1.used,k<cs.length:=fun x b=>h.way x (by rw[i];simp[b]);have l:(Ax n c k).2=1\/(Ax n c k).2=2->(Ax n c k).1.vals.length=a.2.length/\∀j∈(Ax n c k).1.used,j<cs.length:=fun u=>by
  refine⟨by rw[Gy u];exact w2,fun j g=> ?_⟩;rw[Gm u]at g;rcases Qk.1 g with g|g
  ·exact w4 j g
  ·simp at g;omega
 refine⟨?_,?_,?_,?_,?_,?_,?_,?_,?_⟩
 ·intro x b;rw[o]at b;have b:=MM b;unfold Cn at b;split at b
  ·rename_i d;rcases Qp.1 b with rfl|b
   ·have f:¬(Ax n c k).1.goals=[]:=fun A=>by have:=(G7 (Or.inl d)).2 A;omega
    exact⟨f,(l (Or.inl d)).1,Qm _,(l (Or.inl d)).2⟩
   ·rcases Qp.1 b with rfl|b
    ·exact⟨w1,w2,by show k+1<=_;omega,w4⟩
    ·exact v x b
  ·rcases Qp.1 b with rfl|b
   ·exact⟨w1,w2,by show k+1<=_;omega,w4⟩
   ·exact v x b
 ·rw[o];apply K9.trim;unfold Cn;split
  ·rename_i d;exact⟨by rw[K0,Gm (Or.inl d),e.1],fun y t=>by
    rcases Qp.1 t with rfl|t
    ·exact Nat.succ_le_succ (Qm _)
    ·exact e.2.1 y t,e.1,e.2⟩
  ·exact⟨e.1,e.2⟩
 ·intro z;exact PW.try' (h.tree Yo) z
 ·rw[o,Lb]
 ·intro d;rw[p]at d;rw[w d];have m:(Ax n c k).2=2:=by
   unfold Cl at d;split at d
   ·assumption
   ·split at d<;>omega
  exact⟨(G7 (Or.inr m)).1 m,(l (Or.inr m)).1,(l (Or.inr m)).2⟩
 ·have:=Ox i q Yo;have:=h.len;omega
 ·omega
 ·intro f;rw[p]at f;unfold Cl at f;split at f
  ·omega
  ·split at f<;>omega
 ·rw[p];unfold Cl;split
  ·omega
  ·split<;>omega
noncomputable def CR(cs:Lc):Nat->SN->SN×Nat
 |0,s=>(s,0)
 |n+1,s=>open Classical in if s.status=0/\s.way≠[]/\s.tries<3000 then((CR cs n (AQ cs s)).1,(CR cs n (AQ cs s)).2+1)else(s,0)
def FG(s:SN):SN:={s with way:=[],tree:=[],status:=3}
noncomputable def Dy(s:SN):SN:=open Classical in if s.status=3 then FG s else if s.status=0 then(if s.way=[]then{s with status:=2}else if 3000<=s.tries then FG s else s)else s
noncomputable def Fl(cs:Lc)(n:Nat)(s:SN):SN×Nat:=if s.status=2\/s.status=3 then(s,0)else(Dy (CR cs n {s with status:=0}).1,(CR cs n {s with status:=0}).2)
theorem DG.full{s:SN}(h:DG cs a s):DG cs a (FG s):=
 ⟨fun x d=>by simp[FG]at d,trivial,fun c=>absurd rfl c,rfl,fun b=>by simp[FG]at b,by simp[FG],h.tries,fun _=>rfl,by simp[FG]⟩
theorem DG.end'{s:SN}(h:DG cs a s):DG cs a (Dy s):=by
 unfold Dy;split
 ·exact h.full
 ·split
  ·rename_i d h0;split
   ·rename_i c;exact⟨h.way,h.used,fun _=>h.tree Yo,h.trim,fun b=>by simp at b,h.len,h.tries,fun _=>c,Ys⟩
   ·split
    ·exact h.full
    ·exact h
  ·exact h
theorem DG.seek{s:SN}(h:DG cs a s)(d:s.status≠3):DG cs a {s with status:=0}:=
 ⟨h.way,h.used,fun _=>h.tree d,h.trim,fun b=>by simp at b,h.len,h.tries,fun c=>by simp at c,Ys⟩
theorem DG.head{s:SN}(h:DG cs a s)(f:s.way≠[]):∃n k r c,s.way=(n,k)::r/\cs[k]?=some c/\n.goals≠[]:=by
 cases e:s.way with
 |nil=>exact absurd e f
 |cons x r=>
  obtain⟨n,k⟩:=x;have b:=h.trim;rw[e]at b;have d:=KO b;exact⟨n,k,r,_,rfl,Qb d,(h.way (n,k) (by rw[e];simp)).1⟩
theorem DG.loop(f:cs.length<=24):∀{n:Nat}{s:SN},DG cs a s->DG cs a (CR cs n s).1:=by
 intro n
 induction n with
 |zero=>intro s h;exact h
 |succ n g=>
  intro s h;unfold CR;split
  ·rename_i b;obtain⟨j,k,r,c,d,e,i⟩:=h.head b.2.1;exact g (h.try' f b.1 d e b.2.2)
  ·exact h
theorem DG.step(b:cs.length<=24){s:SN}(h:DG cs a s):DG cs a (Fl cs n s).1:=by
 unfold Fl;split
 ·exact h
 ·rename_i c;exact((h.seek Yo).loop b).end'
noncomputable def Kn(cs:Lc)(a:Ll×At):SN:=CJ cs (B7 ⟨[],0,0,⟨[],[],[],[],0⟩,[]⟩ (AN a))
theorem Hc(h:a.1≠[]):(AN a).goals≠[]:=by simpa[AN]using h
theorem DG.new(cs:Lc)(ha:a.1≠[]):DG cs a (Kn cs a):=by
 have c:=Hc ha;have e:PW cs (AN a) [(AN a,0)] [40]:=⟨rfl,c,Qm _,[],.zero _,Ys⟩;unfold Kn B7;rw[if_neg c];refine⟨?_,?_,?_,?_,?_,?_,?_,?_,?_⟩
 ·intro x b;simp only[CJ,Df]at b;have b:=MM b;simp at b;subst b;exact⟨c,by simp[AN],Qm _,fun k d=>by simp[AN]at d⟩
 ·simp only[CJ,Df];exact K9.trim ⟨rfl,fun y f=>by simp at f,trivial⟩
 ·intro _;exact e.leave
 ·simp only[CJ,Df];exact Lb _ _
 ·intro h;simp[CJ]at h
 ·simp only[CJ,Le];simp
 ·simp[CJ]
 ·intro h;simp[CJ]at h
 ·simp[CJ]
def BR(i:Bool)(t:TypeId):Prop:=t=133\/t=105\/t=107\/t=9\/(i=true/\t=3)
def Mb(i:Bool)(S:Np)(w:World):Prop:=∀k,S k->∃cl t fr,w.heap[k]?=some (.cells cl t fr)/\¬BR i t
abbrev DF:=Mb true
theorem Mb.own{i:Bool}(d:Mb i S w)(f:BR i e)(l:Ad S w w')(h:w.ownsRow B e size v n xs):w'.ownsRow B e size v n xs:=
 Aj h (fun k a=>l.block k (h.lt k a).2 (fun m=>by
  obtain⟨cl,t,fr,b,c⟩:=d k m;rcases h.2 with⟨rfl,_⟩|⟨g,o,p,rfl,_,j,_⟩
  ·simp[Ak,Value.ownBlock]at a
  ·simp[Ak,Value.ownBlock]at a;subst a;rw[j]at b;simp at b;exact c (b.2.1▸f)))
theorem Mb.terms{i:Bool}(a:Mb i S w)(b:Ad S w w')(h:AF w v ls):AF w' v ls:=by
 obtain⟨vs,h⟩:=h;exact⟨vs,a.own (by simp[BR]) b h.owns,fun i l hl=>by
  obtain⟨x,c,d⟩:=h.all i l hl;exact⟨x,c,a.own (by simp[BR]) b d⟩⟩
theorem Mb.prog{i:Bool}{xs:List (Lv)}(a:Mb i S w)(b:Ad S w w')(h:DD w v cs xs):DD w' v cs xs:=
 ⟨a.own (by simp[BR]) b h.owns,h.len,h.three,fun i c g=>by
  obtain⟨j,e,k,f,d⟩:=h.all i c g;exact⟨j,e,k,f,a.own (by simp[BR]) b d.head,a.terms b d.body,a.own (by simp[BR]) b d.names⟩⟩
def C3(w:World)(gv vv rv uv:Value)(n0:ND):Prop:=∃n,Gd w gv vv rv n/\uv= .int .i64 n.vars/\FU n/\NK n/\Mk n/\Co n n0
theorem C3.ext{b c:Value}{a:ND}(h:C3 w gv vv b c a)(e:Ao w w'):C3 w' gv vv b c a:=by
 obtain⟨n,d,f⟩:=h;exact⟨n,d.ext e,f⟩
theorem C3.keep{i:Bool}{e f:Value}{d:ND}(h:C3 w gv vv e f d)(c:Ad S w w')(b:Mb i S w):C3 w' gv vv e f d:=by
 obtain⟨n,a,g⟩:=h;exact⟨n,⟨b.terms c a.goals,b.terms c a.vals,b.terms c a.done⟩,g⟩
theorem C3.shape{f g:Value}{e:ND}(h:C3 w gv vv f g e):∃a i va vl vc c o l,∃u:Nat,gv= .slice a e.goals.length i/\vv= .slice va vl vc/\f= .slice c o l/\g=Vi u/\u<=101000:=by
 obtain⟨n,b,rfl,d,_,_,k⟩:=h;obtain⟨a,j,rfl⟩:=b.goals.shape;obtain⟨va,p,rfl⟩:=b.vals.shape;obtain⟨c,m,rfl⟩:=b.done.shape;exact⟨a,j,va,_,p,c,_,m,n.vars,by rw[Ql,k.gl],rfl,rfl,rfl,by have:=d.vars;have:=d.ul;omega⟩
structure Ff(w:World)(v:Value)(ds:List (ND×Nat))(xs:List Value):Prop where
 owns:w.ownsRow 0 135 5 v ds.length xs
 all:∀(i:Nat)(d:ND×Nat),ds[i]?=some d->∃x0 x1 x2 x3,xs[i*5]?=some x0/\xs[i*5+1]?=some x1/\xs[i*5+2]?=some x2/\xs[i*5+3]?=some x3/\xs[i*5+4]?=some (.int .i64 d.2)/\C3 w x0 x1 x2 x3 d.1
theorem Ff.nil(w:World):Ff w Nl [] []:=⟨Q2 _ _ _ _,fun i d h=>by simp at h⟩
theorem Ff.ext(h:Ff w v ds xs)(e:Ao w w'):Ff w' v ds xs:=
 ⟨Aj h.owns (fun k a=>e.block k (h.owns.lt k a).2),fun i d hd=>by
  obtain⟨b,c,f,j,l,m,n,o,p,g⟩:=h.all i d hd;exact⟨b,c,f,j,l,m,n,o,p,g.ext e⟩⟩
theorem Ff.keep{i:Bool}(h:Ff w v ds xs)(b:Ad S w w')(c:Mb i S w)(e:∀k,v.ownBlock=some k->¬S k):Ff w' v ds xs:=
 ⟨Aj h.owns (fun k a=>b.block k (h.owns.lt k a).2 (e k a)),fun i d hd=>by
  obtain⟨f,j,l,m,n,o,p,q,r,g⟩:=h.all i d hd;exact⟨f,j,l,m,n,o,p,q,r,g.keep b c⟩⟩
theorem Ff.pop{g:Nat}{d:ND×Nat}(h:Ff w (.slice (some ⟨g,0,none⟩) (n+1) cap) (ds++[d]) xs)(hn:ds.length=n):Ff w (.slice (some ⟨g,0,none⟩) n cap) ds (xs.take (n*5)):=by
 have a:=h.owns;rw[Qg,Qn,hn]at a;refine⟨by rw[hn];exact JG a,fun i x b=> ?_⟩;have hi:=(Qa.1 b).1;obtain⟨c,e,f,j,k,l,m,o,p,g⟩:=h.all i x (by rw[Qc hi];exact b);exact⟨c,e,f,j,by rw[List.getElem?_take_of_lt Yo];exact k,by rw[List.getElem?_take_of_lt Yo];exact l,by rw[List.getElem?_take_of_lt Yo];exact m,by rw[List.getElem?_take_of_lt Yo];exact o,by rw[List.getElem?_take_of_lt Yo];exact p,g⟩
theorem HA(h:w.ownsRow B 135 size v n xs):DF (Ak v) w:=fun j a=>by
 rcases h.2 with⟨rfl,_⟩|⟨g,c,d,rfl,_,b,_⟩
 ·simp[Ak,Value.ownBlock]at a
 ·simp[Ak,Value.ownBlock]at a;subst a;exact⟨_,_,_,b,by simp[BR]⟩
theorem Ff.step{cv':Value}{a b c f:Value}{n:ND}(h:Ff w cv ds xs)(hn:C3 w a b c f n)(ha:Ar w 0 135 5 cv (ds.length+1) (xs++[a,b,c,f,Vi k]) cv' w'):
  Ff w' cv' (ds++[(n,k)]) (xs++[a,b,c,f,Vi k]):=by
 have j:=HA h.owns;have l:=h.owns.1;refine⟨by simpa using ha.owns,fun i d hd=> ?_⟩;rcases QB i ds.length with hi|hi
 ·rw[Qc hi]at hd;obtain⟨m,o,p,q,r,s,t,u,v,g⟩:=h.all i d hd;exact⟨m,o,p,q,by rw[Qc Yo];exact r,by rw[Qc Yo];exact s,by rw[Qc Yo];exact t,by rw[Qc Yo];exact u,by rw[Qc Yo];exact v,g.keep ha.kept j⟩
 ·have e:i=ds.length:=by
   have:=(Qa.1 hd).1;simp at this;omega
  subst e;rw[Qd (Qe _)]at hd;simp at hd;subst hd;exact⟨a,b,c,f,by rw[Qd Yo];simp[l],by rw[Qd Yo,show ds.length*5+1-xs.length=1 by omega];rfl,by rw[Qd Yo,show ds.length*5+2-xs.length=2 by omega];rfl,by rw[Qd Yo,show ds.length*5+3-xs.length=3 by omega];rfl,by rw[Qd Yo,show ds.length*5+4-xs.length=4 by omega];rfl,hn.keep ha.kept j⟩
structure CX where
 ca:Option Addr
 cc:Nat
 na:Option Addr
 nc:Nat
 wa:Option Addr
 wc:Nat
 va:Option Addr
 vl:Nat
 vc:Nat
 fa:Option Addr
 fl:Nat
 fc:Nat
def CX.cells(x:CX)(cl nl wl tr st:Nat)(T:Lu):Av:=#[.slice x.ca cl x.cc,.slice x.na nl x.nc,.slice x.wa wl x.wc,.int .i64 tr,.int .i64 st,.slice x.va x.vl x.vc,.slice x.fa x.fl x.fc,.string ⟨T.toArray⟩]
structure Dj(w:World)(b:Nat)(x:CX)(cs:List Dt)(a:List (List BL)×At)(m:SN):Prop where
 box:w.heap[b]?=some (.cells (x.cells cs.length a.2.length m.way.length m.tries m.status m.tree) 112 (0,0))
 prog:∃xs,DD w (.slice x.ca cs.length x.cc) cs xs
 names:w.ownsRow 0 9 1 (.slice x.na a.2.length x.nc) a.2.length (Ba a.2)
 way:∃ys,Ff w (.slice x.wa m.way.length x.wc) m.way.reverse ys
 found:m.status=1->(∃n,AF w (.slice x.va x.vl x.vc) n.vals/\FU n/\NK n/\Co n m.found)/\w.ownsRow 0 3 1 (.slice x.fa x.fl x.fc) m.found.used.length (AM m.found.used)
theorem Dj.ext{x:CX}(h:Dj w b x cs a m)(e:Ao w w'):Dj w' b x cs a m:=by
 obtain⟨xs,i⟩:=h.prog;obtain⟨o,j⟩:=h.way;refine⟨(e.block _ (Ab h.box)).trans h.box,⟨xs,i.ext e⟩,Aj h.names (fun k c=>e.block k (h.names.lt k c).2),⟨o,j.ext e⟩,fun l=> ?_⟩;obtain⟨⟨n,f,g⟩,d⟩:=h.found l;exact⟨⟨n,f.ext e,g⟩,Aj d (fun k c=>e.block k (d.lt k c).2)⟩
def CK(b:Nat)(x:CX):Nat->Prop:=fun k=>k=b\/(∃a,x.wa=some a/\a.block=k)
theorem Dj.keepI{x:CX}(h:Dj w b x cs a m)(f:Ad (fun k=>S k\/X k) w w')(s:DF S w)(C:∀k,X k->∃cl fr,w.heap[k]?=some (.cells cl 3 fr))(u:∀k,CK b x k->¬(S k\/X k))(D:m.status=1->∀k,(∃p,x.fa=some p/\p.block=k)->¬X k):Dj w' b x cs a m:=by
 have o:Mb false (fun k=>S k\/X k) w:=fun k d=>by
  rcases d with d|d
  ·obtain⟨cl,t,fr,i,l⟩:=s k d;exact⟨cl,t,fr,i,fun h=>l (by rcases h with h|h|h|h|⟨h,_⟩<;>simp_all [BR])⟩
  ·obtain⟨cl,fr,i⟩:=C k d;exact⟨cl,_,fr,i,by simp[BR]⟩
 obtain⟨xs,i⟩:=h.prog;obtain⟨F,l⟩:=h.way;refine⟨(f.block _ (Ab h.box) (u _ (Or.inl rfl))).trans h.box,⟨xs,o.prog f i⟩,o.own (by simp[BR]) f h.names,⟨F,l.keep f o (fun k c=>u k (Or.inr ?_))⟩,fun d=> ?_⟩
 ·rcases l.owns.2 with⟨e,_⟩|⟨g,v,y,e,_⟩
  ·rw[e]at c;simp[Value.ownBlock]at c
  ·rw[e]at c;simp[Value.ownBlock]at c;simp at e;exact⟨_,e.1,c⟩
 ·obtain⟨⟨n,A,B⟩,r⟩:=h.found d;refine⟨⟨n,o.terms f A,B⟩,Aj r (fun k c=>f.block k (r.lt k c).2 (fun j=>j.elim (fun j=> ?_) (D d k (by cases j:x.fa<;>simp[j,Value.ownBlock]at c⊢;exact c))))⟩;obtain⟨cl,t,fr,q,z⟩:=s k j;rcases r.2 with⟨e,_⟩|⟨g,v,y,e,_,E,_⟩
  ·rw[e]at c;simp[Value.ownBlock]at c
  ·rw[e]at c;simp[Value.ownBlock]at c;subst c;rw[E]at q;simp at q;exact z (q.2.1▸by simp[BR])
theorem Dj.keep{x:CX}(h:Dj w b x cs a m)(f:Ad S w w')(e:DF S w)(g:∀k,CK b x k->¬S k):Dj w' b x cs a m:=h.keepI (X:=fun _=>False) (f.mono (fun _ _ h=>Or.inl h)) e (fun _ h=>h.elim) (fun k c d=>d.elim (g k c) (fun h=>h)) (fun _ _ _ h=>h)
theorem Dj.upd{x c:CX}{d:SN}(h:Dj w b x cs a m)(j:Ad (only b) w w')(A:w'.heap[b]?=some (.cells (c.cells cs.length a.2.length d.way.length d.tries d.status d.tree) 112 (0,0)))(E:c.ca=x.ca/\c.cc=x.cc/\c.na=x.na/\c.nc=x.nc)
  (D:∃l,Ff w (.slice c.wa d.way.length c.wc) d.way.reverse l) (B:d.status=1->(∃n,AF w (.slice c.va c.vl c.vc) n.vals/\FU n/\NK n/\Co n d.found)/\w.ownsRow 0 3 1 (.slice c.fa c.fl c.fc) d.found.used.length (AM d.found.used)):Dj w' b c cs a d:=by
 obtain⟨xs,z⟩:=h.prog;obtain⟨l,o⟩:=D;have f:DF (only b) w:=fun k e=>by
  have e:k=b:=e;subst e;exact⟨_,_,_,h.box,by simp[BR]⟩
 obtain⟨q,r,s,t⟩:=E;refine⟨A,⟨xs,by rw[q,r];exact f.prog j z⟩,by rw[s,t];exact f.own (by simp[BR]) j h.names,⟨l,o.keep j f (fun k i e=> ?_)⟩,fun C=> ?_⟩
 ·have e:k=b:=e;subst e;rcases o.owns.2 with⟨e,_⟩|⟨g,F,G,e,_,p,_⟩
  ·rw[e]at i;simp[Value.ownBlock]at i
  ·rw[e]at i;simp[Value.ownBlock]at i;subst i;rw[h.box]at p;simp at p
 ·obtain⟨⟨n,u,v⟩,y⟩:=B C;exact⟨⟨n,f.terms j u,v⟩,f.own (by simp[BR]) j y⟩
theorem Dj.off{x:CX}(h:Dj w b x cs a m):DF (only b) w:=fun k e=>by
 have e:k=b:=e;subst e;exact⟨_,_,_,h.box,by simp[BR]⟩
theorem Dj.upd'{x c:CX}{d:SN}(h:Dj w b x cs a m)(j:Ad (only b) w w')(v:w'.heap[b]?=some (.cells (c.cells cs.length a.2.length d.way.length d.tries d.status d.tree) 112 (0,0)))(A:c.ca=x.ca/\c.cc=x.cc/\c.na=x.na/\c.nc=x.nc)
  (z:∃l,Ff w (.slice c.wa d.way.length c.wc) d.way.reverse l) (y:d.status=1->(∃n,AF w' (.slice c.va c.vl c.vc) n.vals/\FU n/\NK n/\Co n d.found)/\w'.ownsRow 0 3 1 (.slice c.fa c.fl c.fc) d.found.used.length (AM d.found.used)):Dj w' b c cs a d:=by
 obtain⟨xs,u⟩:=h.prog;obtain⟨l,o⟩:=z;have i:=h.off;obtain⟨q,r,s,t⟩:=A;refine⟨v,⟨xs,by rw[q,r];exact i.prog j u⟩,by rw[s,t];exact i.own (by simp[BR]) j h.names,⟨l,o.keep j i (fun k f e=> ?_)⟩,y⟩;have e:k=b:=e;subst e;rcases o.owns.2 with⟨e,_⟩|⟨g,B,C,e,_,p,_⟩
 ·rw[e]at f;simp[Value.ownBlock]at f
 ·rw[e]at f;simp[Value.ownBlock]at f;subst f;rw[h.box]at p;simp at p
def Es(w:World)(x x':CX):Prop:=(∀k,(∃p,x'.wa=some p/\p.block=k)->(∃p,x.wa=some p/\p.block=k)\/w.heap.size<=k)/\x'.ca=x.ca/\x'.cc=x.cc/\x'.na=x.na/\x'.nc=x.nc/\∀k,(∃p,x'.fa=some p/\p.block=k)->(∃p,x.fa=some p/\p.block=k)\/w.heap.size<=k
theorem Fv{wa:Oa}{c:Nat}:(Value.slice wa n c).ownBlock=some k↔∃p,wa=some p/\p.block=k:=by
 cases wa<;>simp[Value.ownBlock]
theorem Es.down{x c:CX}(h:Es w1 x c)(b:w.hz<=w1.hz):Es w x c:=
 ⟨fun k a=>(h.1 k a).imp (fun h=>h) (fun h=>Qq b h),h.2.1,h.2.2.1,h.2.2.2.1,h.2.2.2.2.1,fun k a=>(h.2.2.2.2.2 k a).imp (fun h=>h) (fun h=>Qq b h)⟩
theorem Es.trans{x d e:CX}(h:Es w x d)(a:Es w1 d e)(c:w.hz<=w1.hz):Es w x e:=
 ⟨fun k b=>(a.1 k b).elim (h.1 k) (fun h=>Or.inr (Qq c h)),a.2.1.trans h.2.1,a.2.2.1.trans h.2.2.1,a.2.2.2.1.trans h.2.2.2.1,a.2.2.2.2.1.trans h.2.2.2.2.1,fun k b=>(a.2.2.2.2.2 k b).elim (h.2.2.2.2.2 k) (fun h=>Or.inr (Qq c h))⟩
def NE(w:World)(x x':CX)(m m':SN):Prop:=Es w x x'/\(x'.fa=x.fa/\m'.status=m.status\/∀k,(∃p,x'.fa=some p/\p.block=k)->w.heap.size<=k)
theorem NE.refl(w:World)(x:CX)(m:SN):NE w x x m m:=⟨⟨fun k a=>Or.inl a,rfl,rfl,rfl,rfl,fun k a=>Or.inl a⟩,Or.inl ⟨rfl,rfl⟩⟩
theorem Dj.offS{x:CX}(h:Dj w b x cs a m):DF (CK b x) w:=fun k c=>by
 rcases c with rfl|c
 ·exact⟨_,_,_,h.box,by simp[BR]⟩
 ·obtain⟨e,d⟩:=h.way;exact HA d.owns k (Fv.2 c)
theorem IB{a c d e f g j k:Value}(h:w.heap[b]?=some (.cells #[a,c,d,e,f,g,j,k] t (0,0))):
  w.cell? ⟨b,0,none⟩=some a/\w.cell? ⟨b,1,none⟩=some c/\w.cell? ⟨b,2,none⟩=some d/\w.cell? ⟨b,3,none⟩=some e/\w.cell? ⟨b,4,none⟩=some f/\w.cell? ⟨b,5,none⟩=some g/\w.cell? ⟨b,6,none⟩=some j/\w.cell? ⟨b,7,none⟩=some k/\∀i,w.frozen? ⟨b,i,none⟩=false:=
 ⟨Aa h 0 _ rfl,Aa h 1 _ rfl,Aa h 2 _ rfl,Aa h 3 _ rfl,Aa h 4 _ rfl,Aa h 5 _ rfl,Aa h 6 _ rfl,Aa h 7 _ rfl,fun i=>Ae h i⟩
theorem TT{way:Ln}{d:ND×Nat}(h:way.reverse[i]?=some d):(Eu way)[i]?=some (d.2-1):=by
 unfold Eu;rw[<-List.map_reverse,Qj,h];rfl
theorem Mt(w:World)(b:Nat)(wa:Oa)(wc:Nat)(way:Ln)(am:Lv)(C:w.cell? ⟨b,2,none⟩=some (.slice wa way.length wc))(u:Ff w (.slice wa way.length wc) way.reverse am)(ad:way.length<=200000)(n:∀y∈way,1<=y.2/\y.2<=4000):
  Calls prog 75 #[Pt b] w fun e w'=>∃fa fc,e= .returned (.slice fa way.length fc)/\Ao w w'/\w'.ownsRow w.hz 3 1 (.slice fa way.length fc) way.length (AM (Eu way)):=by
 have au:b<w.hz:=World.block_lt_of_cell? w ⟨b,2,none⟩ C;obtain⟨L,l⟩:=Ex way.length;rw[<-l]at u C ad⊢;have H:(Eu way).length=L:=by rw[l];simp[Eu]
 have z:=hd u;have V:=hd H;have T:=hd n;have x:=hd l;clear u H n l;go_enter func75,a1;go_wp2
 go_loopg [3,11] (L+1) (fun gk nv ae wr=>∃(i:Nat)(f:Oa)(g:Nat),nv= .slice f i g/\ae=Vi i/\i<=L/\L-i<gk/\Ao w wr/\wr.ownsRow w.hz 3 1 (.slice f i g) i (AM ((Eu way).take i)))
 case atStart=>exact⟨0,none,0,rfl,Yg,Yo,Yo,Ao.of (Ad.refl _ _),by simpa[AM]using Q2 w w.hz 3 1⟩
 case round=>
  obtain⟨i,f,g,rfl,rfl,hi,ay,s,F⟩:=hrel;have ac:=s.size;have c:=hd s;have q:=hd F;clear s F
  by_cases ab:i<L
  ·obtain⟨d,hd⟩:∃d,way.reverse[i]?=some d:=⟨_,Qb (by rw[Qv,<-x.o];exact ab)⟩;have G:=TT hd;have D:d∈way:=List.mem_reverse.1 (Qh hd);obtain⟨av,aw⟩:=T.o d D;obtain⟨a5,a6,a7,a8,K,M,N,O,P,E⟩:=z.o.all i d hd;obtain⟨W,Y,aj,al,ak,af,ah,ag,ai,rfl,rfl,rfl,rfl,a0⟩:=E.shape;have a:=z.o.owns;rw[Qv,<-x.o]at a;obtain⟨j,a3,a4,J,_,I,_⟩:=An a Yo;simp only[QH]at J;obtain⟨rfl,_,rfl⟩:=J;have h:=Ab I;have an:=(c.o.cell (p:=⟨j,i*5,none⟩) h).trans (Ag a _ _ K);have ao:=(c.o.cell (p:=⟨j,i*5+1,none⟩) h).trans (Ag a _ _ M);have ap:=(c.o.cell (p:=⟨j,i*5+2,none⟩) h).trans (Ag a _ _ N);have aq:=(c.o.cell (p:=⟨j,i*5+3,none⟩) h).trans (Ag a _ _ O);have ar:=(c.o.cell (p:=⟨j,i*5+4,none⟩) h).trans (Ag a _ _ P);obtain⟨r,m⟩:=Ex (wr.alloc (.cells #[.slice W d.1.goals.length Y,.slice aj al ak,.slice af ah ag,Vi ai,Vi d.2] 135));have t:Ao wr r:=by rw[m];exact Mxt
   have B:=hd (Aj q.o (fun k n=>t.block k (q.o.lt k n).2));have az:r.hz=wr.hz+1:=by rw[m];simp
   have U:Hd (AM ((Eu way).take (i+1))=AM ((Eu way).take i)++[Vi ((d.2:Int)-1)]):=by
    show _=_;rw[List.take_add_one,G];simp[AM];omega
   have Q:=hd t;have R:=hd m;have ax:(-(2:Int)^63<=(d.2:Int)-1):=Yo
   clear hd G D K M N O P E a I t m
   go_wp2_with (at_builtin;rw[<-R.o];go_loud (refine Am r rfl (.tmp 15) (.tmp 19) 25 rfl w.hz 3 infoInt underlying25 rfl Yd (.slice f i g) i (AM ((Eu way).take i)) rfl B.o #[Vi ((d.2:Int)-1)] rfl Yo rfl (DT _) ?_ ?_ ?_))
   ·omega
   ·omega
   intro a2 w2 v;obtain⟨X,Z,rfl⟩:=Ac v.owns;have A:=hd v;clear v;go_wp2
   go_roundg (L-i)
   case measure=>omega
   case rel=>
    refine⟨i+1,X,Z,rfl,Yg,Yo,Yo,(c.o.trans (Q.o.mono ac)).trans (A.o.kept.below Yo (fun k e=>(B.o.lt k e).1)),?_⟩;rw[U.o];exact A.o.owns
  ·have aa:i=L:=Yo
   subst aa;have S:Hd (AM ((Eu way).take i)=AM (Eu way)):=by
    show _=_;rw[List.take_of_length_le (by rw[V.o];omega)]
   go_wp2;go_ret;exact⟨f,g,rfl,c.o,by rw[<-S.o];exact q.o⟩
set_option maxHeartbeats 8000000 in
theorem MY(w:World)(b:Nat)(x:CX)(cs:Lc)(a:Ll×At)(m:SN)(h:Dj w b x cs a m)(ak:m.way.length<=200000)(Q:∀y∈m.way,y.2<=4000)(ar:cs.length<=24)(p:m.tree.length+m.way.length<=200000):
  Calls prog 53 #[Pt b] w fun e w'=>e=Rq #[]/\Ad (only b) w w'/\Dj w' b x cs a (CJ cs m):=by
 have d:=h.box;obtain⟨ca,cc,na,nc,wa,wc,va,vl,vc,fa,fl,fc⟩:=x;simp only[CX.cells]at d;obtain⟨I,b1,b2,J,K,L,M,N,O⟩:=IB d;have Z:=hd h;have ac:=hd Q;have aa:=hd p;have ap:=Ab d;clear h d Q p;go_enter func53,av;go_wp2
 go_loopg [2] (m.way.length+1) (fun gk an wr=>∃(way':Ln)(f:Lu),way'.length<gk/\an=Vi ((way'.length:Int)-1)/\DJ cs way' f=DJ cs m.way m.tree/\f.length+way'.length<=200000/\way'.length<=200000/\(∀y∈way',y.2<=4000)/\Ad (only b) w wr/\Dj wr b ⟨ca,cc,na,nc,wa,wc,va,vl,vc,fa,fl,fc⟩ cs a {m with way:=way',tree:=f})
 case atStart=>exact⟨m.way,m.tree,Yo,rfl,rfl,aa.o,ak,ac.o,Ad.refl _ _,Z.o⟩
 case round=>
  clear I b1 b2 J K L M N O;obtain⟨way',f,P,s,j,p,U,q,i,g⟩:=hrel;have d:=g.box;simp only[CX.cells]at d;obtain⟨I,b1,b2,J,K,L,M,N,O⟩:=IB d;have aq:=Ab d
  cases v:way' with
  |nil=>
   have D:u2=Vi (-1):=by rw[s,v];rfl
   subst D;have A:Hd (∀u,Ad (only b) wr u->(∀k,u.heap[k]?=wr.heap[k]?)->Ad (only b) w u/\Dj u b ⟨ca,cc,na,nc,wa,wc,va,vl,vc,fa,fl,fc⟩ cs a (CJ cs m)):=fun u c C=>by
    refine⟨i.trans c,?_⟩;have e:CJ cs m={m with way:=way',tree:=f}:=by
     unfold CJ;rw[<-j,v];rfl
    rw[e];exact g.ext ⟨c.os,c.tape,c.output,c.size,fun k _=>C k⟩
   clear g d i j q s v P U p;go_wp2_with fail;go_quiet (fail);go_wp2;go_end0;exact⟨rfl,A.o _ ((Ad.refl _ wr).drewN _) (fun _=>rfl)⟩
  |cons y r=>
   obtain⟨H,n⟩:=y;have D:u2=Vi (r.length:Int):=by rw[s,v];simp
   subst D;subst v;simp only[Qf]at b2 P U p;obtain⟨a2,l⟩:=g.way;simp only[Qw,Qf]at l;have t:=l.owns;rw[Qg,Qv,Qn]at t;obtain⟨F,aw,ax,T,_,E,_⟩:=An t Yo;simp only[QH]at T;obtain⟨rfl,_,rfl⟩:=T;obtain⟨ay,az,a0,a1,V,W,X,Y,G,R⟩:=l.all r.length (H,n) (by rw[Qd Ys];simp);have ag:=Ag t _ _ G;simp only at ag;have am:=q (H,n) Ys;simp only at am;have au:=Ab E
   by_cases z:cs.length<=n
   ·have aj:(cs.length:Int)<=(n:Int):=Yo
    have S:=l.pop Qv;have ao:=hd (Az f [41]);have ab:=hd d;have af:Hd (∀u,Ad (only b) wr u->u.heap[b]?=some (.cells #[.slice ca cs.length cc,.slice na a.2.length nc,.slice (some ⟨F,0,none⟩) r.length wc,Vi m.tries,Vi m.status,.slice va vl vc,.slice fa fl fc,.string ⟨(f++[41]).toArray⟩] 112 (0,0))->Ad (only b) w u/\Dj u b ⟨ca,cc,na,nc,some ⟨F,0,none⟩,wc,va,vl,vc,fa,fl,fc⟩ cs a {m with way:=r,tree:=f++[41]}):=fun u c hb=>⟨i.trans c,g.upd c hb ⟨rfl,rfl,rfl,rfl⟩ ⟨_,S⟩ g.found⟩;have ae:Hd (DJ cs r (f++[41])=DJ cs m.way m.tree):=by
     have B:=j;simp only[DJ]at B;rw[if_pos z]at B;exact B
    have ad:Hd (∀y∈r,y.2<=4000):=fun y al=>q y (by simp[al]);clear g d i j q s l t V W X Y G R E S z;go_wp2_with fail;go_quiet (fail);go_wp2
    go_roundg (r.length+1)
    case measure=>omega
    case rel=>
     obtain⟨ah,ai⟩:=af.o _ ((((Ad.refl (only b) wr).drewN _).put 7 _).put 2 _) (Af (Af (w:=wr.drewN _) ab.o 7 _) 2 _);exact⟨r,f++[41],Yo,rfl,ae.o,by simp;omega,Yo,ad.o,ah,ai⟩
   ·have aj:¬(cs.length:Int)<=(n:Int):=Yo
    have A:Hd (∀u,Ad (only b) wr u->(∀k,u.heap[k]?=wr.heap[k]?)->Ad (only b) w u/\Dj u b ⟨ca,cc,na,nc,some ⟨F,0,none⟩,wc,va,vl,vc,fa,fl,fc⟩ cs a (CJ cs m)):=fun u c C=>by
     refine⟨i.trans c,?_⟩;have e:CJ cs m={m with way:=(H,n)::r,tree:=f}:=by
      unfold CJ;rw[<-j];simp only[DJ];rw[if_neg z]
     rw[e];exact g.ext ⟨c.os,c.tape,c.output,c.size,fun k _=>C k⟩
    clear g d i j q s l t V W X Y G R E z;go_wp2_with fail;go_quiet (fail);go_wp2;go_end0;exact⟨rfl,A.o _ ((Ad.refl _ wr).drewN _) (fun _=>rfl)⟩
theorem infoLevel:(prog.info? 135).map (fun i=>(i.zero,i.size,i.bytes))=some (some (.agg #[Nl,Nl,Nl,Vi 0,Vi 0]),5,88):=by kernel_rfl
theorem My{a0 b c:Oa}{g h i d e f:Nat}{v k:Int}:∀u∈(#[Value.slice a0 g d,.slice b h e,.slice c i f,Vi v,Vi k]:Av).toList,u.oneCell'=true:=by
 intro u a;simp at a;rcases a with rfl|rfl|rfl|rfl|rfl<;>rfl
theorem St(w:World)(b:Nat)(x:CX)(cs:Lc)(a:Ll×At)(m:SN)(J T R S:Value)(n:ND)(h:Dj w b x cs a m)(hn:C3 w J T R S n)(aj:m.way.length<=200000)(q:n.goals=[])(I:n.used=Eu m.way)(j:∀y∈m.way,1<=y.2/\y.2<=4000)(ap:m.tree.length<=200000):
  Calls prog 52 #[Pt b,.agg #[J,T,R,S]] w fun e w'=>e=Rq #[]/\∃s,Ad (CK b x) w w'/\Dj w' b s cs a (B7 m n)/\Es w x s:=by
 obtain⟨Q,D,N,F,E,L,G⟩:=hn;obtain⟨an,ao,z,B,A,av,ax,aw,u,rfl,rfl,rfl,rfl,au⟩:=C3.shape ⟨Q,D,N,F,E,L,G⟩;have f:=h.box;obtain⟨ca,cc,na,nc,wa,wc,va,vl,vc,fa,fl,fc⟩:=x;simp only[CX.cells]at f;obtain⟨aa,b1,b2,ab,ac,ad,ae,af,ag⟩:=IB f;have aq:=Ab f;obtain⟨U,v⟩:=h.way;have Z:=hd (Az m.tree [33]);have O:B7 m n={m with tree:=m.tree++[33],status:=1,found:=n}:=by unfold B7;rw[if_pos q]
 have W:Hd (∀y,Ad (only b) w y->y.heap[b]?=some (.cells #[.slice ca cs.length cc,.slice na a.2.length nc,.slice wa m.way.length wc,Vi m.tries,Vi 1,.slice z B A,.slice fa fl fc,.string ⟨(m.tree++[33]).toArray⟩] 112 (0,0))->Calls prog 75 #[Pt b] y fun e C=>∃c d,e= .returned (.slice c m.way.length d)/\Ad (only b) w C/\C.heap[b]?=some (.cells #[.slice ca cs.length cc,.slice na a.2.length nc,.slice wa m.way.length wc,Vi m.tries,Vi 1,.slice z B A,.slice fa fl fc,.string ⟨(m.tree++[33]).toArray⟩] 112 (0,0))/\C.ownsRow w.hz 3 1 (.slice c m.way.length d) m.way.length (AM (Eu m.way))):=fun y l hb=>by
  refine(Mt y b wa wc m.way U (Aa hb 2 _ rfl) (v.keep l h.off (fun k r e=> ?_)) aj j).mono ?_
  ·have e:k=b:=e;subst e;rcases v.owns.2 with⟨e,_⟩|⟨g,al,am,e,_,q,_⟩
   ·rw[e]at r;simp[Value.ownBlock]at r
   ·rw[e]at r;simp[Value.ownBlock]at r;subst r;rw[f]at q;simp at q
  ·rintro e C ⟨c,d,rfl,K,t⟩;exact⟨c,d,rfl,l.then (Ad.of_below K) (fun i hi h=>by have:=l.size;omega),(K.block _ (Ab hb)).trans hb,AI t l.size⟩
 have Y:Hd (∀y c d,Ad (only b) w y->y.heap[b]?=some (.cells #[.slice ca cs.length cc,.slice na a.2.length nc,.slice wa m.way.length wc,Vi m.tries,Vi 1,.slice z B A,.slice fa fl fc,.string ⟨(m.tree++[33]).toArray⟩] 112 (0,0))->y.ownsRow w.hz 3 1 (.slice c m.way.length d) m.way.length (AM (Eu m.way))->∃s,Ad (CK b ⟨ca,cc,na,nc,wa,wc,va,vl,vc,fa,fl,fc⟩) w (y.setCell ⟨b,6,none⟩ (.slice c m.way.length d))/\Dj (y.setCell ⟨b,6,none⟩ (.slice c m.way.length d)) b s cs a (B7 m n)/\Es w ⟨ca,cc,na,nc,wa,wc,va,vl,vc,fa,fl,fc⟩ s):=fun y c d l hb t=>by
  have H:Ad (only b) w (y.setCell ⟨b,6,none⟩ (.slice c m.way.length d)):=l.put 6 _;have ai:DF (only b) y:=fun k e=>by
   have e:k=b:=e;subst e;exact⟨_,_,_,hb,by simp[BR]⟩
  have ah:Ad (only b) y (y.setCell ⟨b,6,none⟩ (.slice c m.way.length d)):=(Ad.refl _ _).put 6 _;refine⟨⟨ca,cc,na,nc,wa,wc,z,B,A,c,m.way.length,d⟩,H.mono (fun i hi e=>Or.inl e),?_,⟨fun k j=>Or.inl j,rfl,rfl,rfl,rfl,fun k j=>Or.inr (t.lt k (Fv.2 j)).1⟩⟩;rw[O];refine h.upd' H (Af hb 6 _) ⟨rfl,rfl,rfl,rfl⟩ ⟨U,v⟩ (fun _=>⟨⟨Q,h.off.terms H D.vals,F,E,G⟩,?_⟩);have hl:n.used.length=m.way.length:=by rw[I];simp[Eu]
  show World.ownsRow _ 0 _ 1 _ n.used.length (AM n.used);rw[hl,I];exact AI (ai.own (by simp[BR]) ah t) (Qm _)
 have X:=hd f;rw[q];clear h D v f j I O G F E L N;go_enter func52,ntmps52;go_wp2_with fail;refine(W.o _ Mkt (Ah (by rw[<-Z.o];exact Af (Af (Af X.o 7 _) 4 _) 5 _) _)).mono ?_;rintro e w3 ⟨c,d,rfl,M,p,P⟩;have ak:=Aa p 6 _ rfl;have cf:=fun i=>Ae p i;have V:=hd (Y.o w3 c d M p P);have ar:=Ab p;clear M p P aa b1 b2 ab ac ad ae af ag;go_wp2;go_end0;exact⟨rfl,V.o⟩
theorem Lz(w:World)(b:Nat)(x:CX)(cs:Lc)(a:Ll×At)(m:SN)(W af ad ae:Value)(n:ND)(h:Dj w b x cs a m)(hn:C3 w W af ad ae n)(a7:m.way.length<=200000)(j:n.goals≠[])(bc:m.tree.length<=200000):
  Calls prog 52 #[Pt b,.agg #[W,af,ad,ae]] w fun e w'=>e=Rq #[]/\∃J,Ad (CK b x) w w'/\Dj w' b J cs a (B7 m n)/\Es w x J:=by
 obtain⟨y,z,G,I,H,D,F,E,u,rfl,rfl,rfl,rfl,bf⟩:=hn.shape;have a4:0<n.goals.length:=List.length_pos_iff.2 j;obtain⟨v,hz⟩:=Ex n.goals.length;rw[<-hz]at a4 hn⊢;have B:=h.box;obtain⟨ca,cc,na,nc,wa,wc,va,vl,vc,fa,fl,fc⟩:=x;simp only[CX.cells]at B;obtain⟨ao,b1,b2,ap,aq,ar,au,av,aw⟩:=IB B;have bd:=Ab B;obtain⟨P,U⟩:=h.way;obtain⟨L,Q⟩:=Ex m.way.length;have O:=U.owns;rw[Qv]at O;simp only[<-Q]at b2 O a7;have an:=hd (Az m.tree [40]);have aa:B7 m n={m with way:=(n,0)::m.way,tree:=m.tree++[40]}:=by unfold B7;rw[if_neg j]
 have q:=hd Q;have V:=hd B;have s:=hd h;have aj:=hd hn;have am:=hd U;have ak:=hd O;have ah:=hd aa;have bg:(0:Int)<(v:Int):=Yo
 clear h hn U O B aa j hz Q;go_enter func52,ntmps52;go_wp2_with fail;obtain⟨f,t⟩:=Ex ((w.setCell ⟨b,7,none⟩ (.string (⟨m.tree.toArray⟩++⟨#[40]⟩))).alloc (.cells #[.slice y v z,.slice G I H,.slice D F E,Vi u] 87));rw[<-t];have K:Ad (only b) w f:=by rw[t];exact((Ad.refl _ _).put 7 _).alloc _
 have N:f.heap[b]?=some (.cells #[.slice ca cs.length cc,.slice na a.2.length nc,.slice wa L wc,Vi m.tries,Vi m.status,.slice va vl vc,.slice fa fl fc,.string ⟨(m.tree++[40]).toArray⟩] 112 (0,0)):=by rw[t,<-an.o,q.o];exact Ah (Af V.o 7 _) _
 have C:f.heap[w.hz]?=some (.cells #[.slice y v z,.slice G I H,.slice D F E,Vi u] 87 (0,0)):=by rw[t];exact CU Ys _
 have be:f.hz=w.hz+1:=by rw[t];simp
 have R:∀k,(Value.slice wa L wc).ownBlock=some k->k≠b:=fun k c e=>by
  subst e;rcases ak.o.2 with⟨e,_⟩|⟨g,ax,ay,e,_,j,_⟩
  ·rw[e]at c;simp[Value.ownBlock]at c
  ·rw[e]at c;simp[Value.ownBlock]at c;subst c;rw[V.o]at j;simp at j
 have T:=am.o.keep K s.o.off (fun k c e=>R k (by rw[q.o];exact c) e);have ac:f.ownsRow 0 135 5 (.slice wa L wc) L P:=by
  have:=T.owns;rw[Qv,<-q.o]at this;exact this
 have ai:Hd (∀w2 l p,Ar (f.drewN 1) 0 135 5 (.slice wa L wc) (L+1) (P++[.slice y v z,.slice G I H,.slice D F E,Vi u,Vi 0]) (.slice l (L+1) p) w2->w2.heap[b]?=some (.cells #[.slice ca cs.length cc,.slice na a.2.length nc,.slice wa L wc,Vi m.tries,Vi m.status,.slice va vl vc,.slice fa fl fc,.string ⟨(m.tree++[40]).toArray⟩] 112 (0,0))/\∃J,Ad (CK b ⟨ca,cc,na,nc,wa,wc,va,vl,vc,fa,fl,fc⟩) w (w2.setCell ⟨b,2,none⟩ (.slice l (L+1) p))/\Dj (w2.setCell ⟨b,2,none⟩ (.slice l (L+1) p)) b J cs a (B7 m n)/\Es w ⟨ca,cc,na,nc,wa,wc,va,vl,vc,fa,fl,fc⟩ J):=fun w2 l p d=>by
  have r:w2.heap[b]?=_:=(d.kept.block b (by show b<f.hz;omega) (fun e=>R b e rfl)).trans N;refine⟨r,?_⟩;have X:Ad (Ak (.slice wa L wc)) f w2:=⟨d.kept.os,d.kept.tape,d.kept.output,d.kept.size,d.kept.block⟩;have Y:Ad (only b) w2 (w2.setCell ⟨b,2,none⟩ (.slice l (L+1) p)):=(Ad.refl _ _).put 2 _;have A:Ad (CK b ⟨ca,cc,na,nc,wa,wc,va,vl,vc,fa,fl,fc⟩) w (w2.setCell ⟨b,2,none⟩ (.slice l (L+1) p)):=((K.mono (fun i _ e=>Or.inl e)).trans ((X.mono (fun i _ e=>Or.inr (Fv.1 e))):Ad (CK b ⟨ca,cc,na,nc,wa,wc,va,vl,vc,fa,fl,fc⟩) f w2)).trans (Y.mono (fun i _ e=>Or.inl e));have M:=s.o.offS;obtain⟨xs,a2⟩:=s.o.prog;have Z:Ff w2 (.slice l (L+1) p) (m.way.reverse++[(n,0)]) _:=T.step (k:=0) (aj.o.keep K s.o.off) ⟨by rw[Qv,<-q.o];exact d.owns,by rw[<-q.o];exact X,by rw[<-q.o];exact d.where_⟩;have a5:DF (only b) w2:=fun k e=>by
   have e:k=b:=e;subst e;exact⟨_,_,_,r,by simp[BR]⟩
  have a3:=Z.keep Y a5 (fun k c e=>by
   have e:k=b:=e;subst e;rcases Z.owns.2 with⟨e,_⟩|⟨g,ax,ay,e,_,j,_⟩
   ·rw[e]at c;simp[Value.ownBlock]at c
   ·rw[e]at c;simp[Value.ownBlock]at c;subst c;rw[r]at j;simp at j)
  refine⟨⟨ca,cc,na,nc,l,p,va,vl,vc,fa,fl,fc⟩,A,?_,⟨fun k S=> ?_,rfl,rfl,rfl,rfl,fun k S=>Or.inl S⟩⟩
  ·rw[ah.o];refine⟨?_,⟨xs,M.prog A a2⟩,M.own (by simp[BR]) A s.o.names,⟨P++[.slice y v z,.slice G I H,.slice D F E,Vi u,Vi ((0:Nat):Int)],?_⟩,fun a6=> ?_⟩
   ·simp only[CX.cells,Qf];rw[<-q.o];exact Af r 2 _
   ·simp only[Qw,Qf];rw[<-q.o];exact a3
   ·obtain⟨⟨a8,az,a0⟩,a1⟩:=s.o.found a6;exact⟨⟨a8,M.terms A az,a0⟩,M.own (by simp[BR]) A a1⟩
  ·have c:(Value.slice l (L+1) p).ownBlock=some k:=Fv.2 S;rcases d.where_ with e|⟨g,e,j⟩
   ·rw[e]at c;exact Or.inl (Fv.1 c)
   ·rw[e]at c;simp at c;subst c;exact Or.inr (by have:f.hz<=g:=j;omega)
 have al:=hd ac;have a9:=Aa N 2 _ rfl;have cf:=fun i=>Ae N i;have bh:=Aa C 0 _ rfl;have bi:=Aa C 1 _ rfl;have bj:=Aa C 2 _ rfl;have bk:=Aa C 3 _ rfl;clear t K N C R T ac ao b1 b2 ap aq ar au av aw
 go_region_law (refine BC (f.drewN 1) rfl (.tmp 19) (.tmp 22) 110 rfl 0 135 infoLevel underlying110 rfl Yd (.slice wa L wc) L P rfl al.o #[.slice y v z,.slice G I H,.slice D F E,Vi u,Vi 0] rfl (by show _=f.hz;omega) rfl My Yo Yo rfl ?_;intro bl w2 d;obtain⟨l,p,rfl⟩:=Ac d.owns;obtain⟨r,ab⟩:=ai.o _ _ _ d;have ba:=Aa r 2 _ rfl;have bb:=fun i=>Ae r i;have ag:=hd ab;clear d r ab)
 all_goals
  go_wp2
  (try simp only[Exit.inBlock,Exit.then])
  refine bodyPost_ret (results_none rfl _ _ _) rfl ?_;exact⟨rfl,ag.o⟩
theorem Ry(d:Nat)(w:World)(hd:d<=1000):Calls prog 80 #[Vi d] w fun e w'=>e= .returned (.string ⟨(List.replicate (2*d) 32).toArray⟩)/\w'=w:=by
 go_enter func80,m;go_wp2
 go_loopg [3,4] (d+1) (fun gk h nv wr=>∃(k:Nat),nv=Vi k/\k<=d/\d-k<gk/\h= .string ⟨(List.replicate (2*k) 32).toArray⟩/\wr=w)
 case atStart=>exact⟨0,Yg,Qm _,Yo,rfl,rfl⟩
 case round=>
  obtain⟨k,rfl,j,i,rfl,rfl⟩:=hrel
  by_cases l:k<d
  ·have f:(k:Int)<(d:Int):=Yo
   have g:(⟨(List.replicate (2*k) 32).toArray⟩:ByteArray).size=2*k:=by simp[ByteArray.size]
   obtain⟨S,a⟩:=Ex ((⟨(List.replicate (2*k) (32:UInt8)).toArray⟩:ByteArray));rw[<-a]at g⊢;have b:=hd a;clear a;go_wp2
   go_roundg (d-k)
   case measure=>omega
   case rel=>
    refine⟨k+1,Yg,Yo,Yo,?_,rfl⟩;rw[b.o];show Value.string (_++(⟨[32,32].toArray⟩:ByteArray))=_;rw[Az,show 2*(k+1)=2*k+1+1 by omega,List.replicate_succ',List.replicate_succ'];simp
  ·have c:k=d:=Yo
   subst c;have f:¬((k:Int)<(k:Int)):=Yo
   go_wp2;go_ret;exact⟨rfl,rfl⟩
theorem PM:∀{ks:List Nat}{n:ND}{i:Nat},(AA cs n ks i).2=(0,0)->(AA cs n ks i).1.used=n.used++ks:=by
 intro ks
 induction ks with
 |nil=>
  intro n i h;have e:AA cs n [] i=if n.goals=[]then(n,0,0)else(n,7,i):=by unfold AA;rfl
  rw[e]at h⊢;split
  ·simp
  ·rename_i a;rw[if_neg a]at h;simp at h
 |cons k ks f=>
  intro n i h;obtain⟨c,g,a,d,b⟩:=MP h;rw[b]at h⊢;rw[f h,Gm d];simp
theorem W2{n:ND}(hn:FU n)(e:NK n)(d:Mk n):V8 (n.done.map (·.1)):=by
 have hl:n.done.length<=100:=by rw[hn.dl];exact hn.ul
 have c:∀t∈n.done.map (·.1),t∈n.terms/\t.length<=30:=fun t a=>by
  refine⟨by unfold ND.terms;simp only[Qk];exact Or.inr (Or.inr a),?_⟩;obtain⟨x,f,rfl⟩:=Q0.1 a;exact(hn.ds x f).1
 refine Xj hn e c Yp ?_;have:=SM (n.done.map (·.1)) [] (fun t a=>by
  obtain⟨b,g⟩:=c t a;have:=Vw (hn.wf t b) (d t b);omega)
 simp only[Qt,Ql]at this;omega
theorem OH(a:Lu)(b:Array UInt8):(⟨a.toArray⟩:ByteArray)++⟨b⟩=⟨(a++b.toList).toArray⟩:=by
 have:=Az a b.toList;simpa using this
def Sj(w0:World)(I X:Lu):Lv->World->Prop
 |[],u=>u=w0
 |[a],u=>a= .string ⟨I.toArray⟩/\u=w0
 |[a,b],u=>a= .string ⟨I.toArray⟩/\b= .string ⟨X.toArray⟩/\u=w0
 |_,_=>False
theorem Sj.at{c X:Lu}:∀{vs:Lv}{u:World},Sj w0 c X vs u->u=w0/\(1<=vs.length->vs.getD 0 undef= .string ⟨c.toArray⟩)/\(2<=vs.length->vs.getD 1 undef= .string ⟨X.toArray⟩)
 |[],u,h=>⟨h,Ys,Ys⟩
 |[a],u,h=>⟨h.2,fun _=>h.1,Ys⟩
 |[a,b],u,h=>⟨h.2.2,fun _=>h.1,fun _=>h.2.1⟩
 |_::_::_::_,u,h=>h.elim
theorem JP(w:World)(nv an bf bd ba am:Value)(be:Nat)(n:ND)(ds ks:List Nat)(b4:∃a l c,nv= .slice a l c)(bz:∃a l c,an= .slice a l c)(b6:∃a l c,bf= .slice a l c)(v:AF w bd (n.done.map (·.1)))(r:w.ownsRow 0 3 1 ba ks.length (AM ks))(hd:w.ownsRow 0 3 1 am ds.length (AM ds))
  (hn:FU n) (a9:NK n) (a1:Mk n) (b1:ks.length=n.done.length) (bv:ds.length=n.done.length) (a3:∀k∈ks,k<=99) (au:∀d∈ds,d<=100) (V:(CL (Aw (n.done.map (·.1)) []).1 ds ks).length<=100000000):
  Calls prog 59 #[.agg #[nv,an,bf,bd,Vi be,ba,am]] w fun e w'=>Ao w w'/\e= .returned (.string ⟨(CL (Aw (n.done.map (·.1)) []).1 ds ks).toArray⟩):=by
 obtain⟨cd,ce,cf,rfl⟩:=b4;obtain⟨bp,bq,br,rfl⟩:=bz;obtain⟨ch,ci,cj,rfl⟩:=b6;obtain⟨bb,bc,rfl⟩:=v.shape;obtain⟨ae,J,rfl⟩:=Ac r;obtain⟨da,E,rfl⟩:=Ac hd;have bu:n.done.length<=100:=by rw[hn.dl];exact hn.ul
 obtain⟨ts,ac⟩:∃l,l=n.done.map (·.1):=⟨_,rfl⟩;have b5:ts.length=n.done.length:=by rw[ac];simp
 have ad:=W2 hn a9 a1;rw[<-ac]at v ad V⊢;obtain⟨N,W⟩:=Ex ts.length;have aa:ks.length=N:=Yo
 have Z:ds.length=N:=Yo
 have cp:N<=100:=Yo
 rw[aa]at r⊢;rw[Z]at hd⊢;rw[<-W]at v⊢;have ah:Hd (∀y,Ao w y->Calls prog 79 #[.slice bb N bc] y (O1 ts y)):=fun y bt=>M1 y _ ts (v.ext bt) ad;have ar:(Aw ts []).1.length=ts.length:=EX _ _;obtain⟨C,R⟩:=Ex ((Aw ts []).1);have bm:Hd (GR ts=C.map (fun t=>A3 t [])):=by show _=_;unfold GR;rw[R]
 rw[<-R]at ar V⊢;obtain⟨K,T⟩:=Ex (CL C ds ks);rw[<-T]at V⊢;have bg:=hd T;have al:=hd r;have Hd:=hd hd;have bj:=hd a3;have bh:=hd au;have bk:=hd aa;have bi:=hd Z;have af:Hd (C.length=N):=by show _=_;omega
 have bl:Hd (ts.length=N):=W.symm;clear v r hd hn a9 a1 ad R T ar b1 bv a3 au aa Z ac b5 W bu;go_enter func59,ntmps59;go_wp2_with fail;apply(ah.o _ (Below.refl _ w|>.alloc (Qe _) _)).mono;rintro e w1 ⟨F,c0,c1,rfl,G⟩;rw[bl.o]at G⊢;rw[bm.o]at G;have ca:=F.size;simp at ca;have ao:Ao w w1:=(Below.refl _ w|>.alloc (Qe _) _).trans (F.mono Ys);have H:w1.heap[w.hz]?=some (.cells #[.slice cd ce cf,.slice bp bq br,.slice ch ci cj,.slice bb N bc,Vi be,.slice ae N J,.slice da N E] 89 (0,0)):=(F.block _ Ys).trans (QL w _);have M:w1.cell? ⟨w.hz,5,none⟩=some (.slice ae N J):=Aa H 5 _ rfl;have O:w1.cell? ⟨w.hz,6,none⟩=some (.slice da N E):=Aa H 6 _ rfl;have aq:=Ab H;have D:=hd ao;have ai:=hd G;clear F ao H G ah;go_wp2
 go_loopg [3,11] (N+1) (fun gk cg cb wr=>∃(k:Nat)(h:Lu),cb=Vi k/\k<=N/\N-k<gk/\cg= .string ⟨h.toArray⟩/\h++CL (C.drop k) (ds.drop k) (ks.drop k)=K/\Ao w1 wr)
 case atStart=>exact⟨0,[],Yg,Qm _,Yo,rfl,by rw[bg.o];rfl,Below.refl _ _⟩
 case round=>
  obtain⟨k,h,rfl,r,ct,rfl,i,m⟩:=hrel;have cy:=m.size;have M:wr.cell? ⟨w.hz,5,none⟩=some (.slice ae N J):=(m.cell (p:=⟨w.hz,5,none⟩) aq).trans M;have O:wr.cell? ⟨w.hz,6,none⟩=some (.slice da N E):=(m.cell (p:=⟨w.hz,6,none⟩) aq).trans O;have cq:w.hz<wr.hz:=Yo
  have B:=hd m;clear m
  by_cases s:k<N
  ·have a4:k<C.length:=by rw[af.o];exact s
   have a6:k<ds.length:=by rw[bi.o];exact s
   have a8:k<ks.length:=by rw[bk.o];exact s
   obtain⟨t,ab⟩:∃t,C[k]?=some t:=⟨_,Qb a4⟩;obtain⟨d,hd⟩:∃d,ds[k]?=some d:=⟨_,Qb a6⟩;obtain⟨x,I⟩:∃x,ks[k]?=some x:=⟨_,Qb a8⟩;have ay:C.drop k=t::C.drop (k+1):=by rw[QC a4,(Qa.1 ab).2]
   have aw:ds.drop k=d::ds.drop (k+1):=by rw[QC a6,(Qa.1 hd).2]
   have az:ks.drop k=x::ks.drop (k+1):=by rw[QC a8,(Qa.1 I).2]
   rw[ay,aw,az,CL]at i;have cr:=bh.o d (Qh hd);have cx:=bj.o x (Qh I);obtain⟨z,kc',cz,a7,_,a5,_⟩:=An al.o Yo;simp only[QH]at a7;obtain⟨rfl,_,rfl⟩:=a7;have b2:=Ab a5;obtain⟨j,cn,co,ax,_,av,_⟩:=An Hd.o Yo;simp only[QH]at ax;obtain⟨rfl,_,rfl⟩:=ax;have bw:=Ab av;have b9:=D.o.size;have S:Ao w wr:=D.o.trans (B.o.mono b9);have cc:wr.cell? ⟨z,k,none⟩=some (Vi x):=(S.cell (p:=⟨z,k,none⟩) b2).trans (Ag al.o k _ (by simp only[AM,Qj,I,Option.map_some]));have bo:wr.cell? ⟨j,k,none⟩=some (Vi d):=(S.cell (p:=⟨j,k,none⟩) bw).trans (Ag Hd.o k _ (by simp only[AM,Qj,hd,Option.map_some]));obtain⟨A,Q⟩:=Ex (A3 t []);obtain⟨P,cl,cm,a0,_,a2,_⟩:=An ai.o Yo;simp only[QH]at a0;obtain⟨rfl,_,rfl⟩:=a0;have b0:=Ab a2;have cu:P<wr.hz:=Yo
   have c2:wr.cell? ⟨P,k,none⟩=some (.string ⟨A.toArray⟩):=(B.o.cell (p:=⟨P,k,none⟩) b0).trans (Ag ai.o _ _ (by simp[Ba,ab,Q]));rw[<-Q]at i;obtain⟨f,U⟩:=Ex (List.replicate (2*d) (32:UInt8));obtain⟨X,Y⟩:=Ex (Lib.decDigits x);rw[<-U,<-Y]at i;have b3:=Ig i;simp only[Qg,Qf,Qt]at b3;have ag:=hd (Ry d wr.drew Yo);have aj:=hd (Jb x wr.drew Yo);rw[<-U]at ag;rw[<-Y]at aj;have L:=hd i;have cv:z<wr.hz:=Yo
   have cs:j<wr.hz:=Yo
   have cw:¬((N:Int)<=(k:Int)):=Yo
   clear i ay aw az ab hd I a5 av a2 Q U Y S;go_wp2_with fail;refine FC Yk 19 [.rd 0 2 (fun _=> .string ⟨h.toArray⟩),.rd 0 2 (fun _=> .pointer (some ⟨w.hz,6,none⟩)),.rd 0 2 (fun _=> .slice (some ⟨j,0,none⟩) N E),.rd 0 2 (fun _=>Vi k),.rd 0 2 (fun _=> .pointer (some ⟨j,k,none⟩)),.rd 0 2 (fun _=>Vi d),.st 0,.rd 0 2 (fun _=> .string ⟨A.toArray⟩),
    .rd 1 2 (fun _=> .string ⟨(f++A).toArray⟩),.rd 1 2 (fun _=> .string ⟨(f++A++[32,98,121,32]).toArray⟩),.rd 0 2 (fun _=> .pointer (some ⟨w.hz,5,none⟩)),.rd 0 2 (fun _=> .slice (some ⟨z,0,none⟩) N J),.rd 0 2 (fun _=>Vi k),.rd 0 2 (fun _=> .pointer (some ⟨z,k,none⟩)),.rd 0 2 (fun _=>Vi x),.st 1,
    .rd 2 2 (fun _=> .string ⟨(f++A++[32,98,121,32]++X).toArray⟩),.rd 2 2 (fun _=> .string ⟨(f++A++[32,98,121,32]++X++[10]).toArray⟩),.rd 2 2 (fun _=> .string ⟨(h++(f++A++[32,98,121,32]++X++[10])).toArray⟩),.rd 2 2 (fun _=> .string ⟨(h++(f++A++[32,98,121,32]++X++[10])).toArray⟩)] 2 6 Yk
    (Sj wr.drew f X) rfl ?_ ?_
   ·refine⟨⟨trivial,fun vs u g hl b=> ?_⟩,⟨trivial,fun vs u g hl b=> ?_⟩,⟨trivial,fun vs u g hl b=> ?_⟩,⟨trivial,fun vs u g hl b=> ?_⟩,⟨trivial,fun vs u g hl b=> ?_⟩,⟨trivial,fun vs u g hl b=> ?_⟩,⟨trivial,fun vs u hl b=> ?_⟩,⟨trivial,fun vs u g hl b=> ?_⟩,⟨trivial,fun vs u g hl b=> ?_⟩,⟨trivial,fun vs u g hl b=> ?_⟩,⟨trivial,fun vs u g hl b=> ?_⟩,⟨trivial,fun vs u g hl b=> ?_⟩,⟨trivial,fun vs u g hl b=> ?_⟩,⟨trivial,fun vs u g hl b=> ?_⟩,⟨trivial,fun vs u g hl b=> ?_⟩,⟨trivial,fun vs u hl b=> ?_⟩,⟨trivial,fun vs u g hl b=> ?_⟩,⟨trivial,fun vs u g hl b=> ?_⟩,⟨trivial,fun vs u g hl b=> ?_⟩,⟨trivial,fun vs u g hl b=> ?_⟩,trivial⟩
    all_goals(obtain⟨rfl,b7,b8⟩:=b.at)
    ·simp[go_sem]
    ·simp[go_sem]
    ·simp[go_sem,O]
    ·simp[go_sem]
    ·simp[go_sem,s]
    ·simp[go_sem,bo]
    ·obtain rfl:=Q3.1 hl;refine .call 80 #[Vi d] _ (by simp[go_sem]) (ag.o.mono ?_);rintro e u ⟨rfl,rfl⟩;exact⟨_,rfl,rfl,rfl⟩
    ·simp[go_sem]
    ·have h0:vs[0]?.getD undef= .string ⟨f.toArray⟩:=by have:=b7 g;rwa [List.getD_eq_getElem?_getD]at this
     simp[go_sem,h0,show¬9223372036854775807<f.length+A.length by omega,Az]
    ·simp[go_sem,show¬9223372036854775807<f.length+A.length+4 by omega,show¬9223372036854775807<f.length+(A.length+4) by omega,OH]
    ·simp[go_sem]
    ·simp[go_sem,M]
    ·simp[go_sem]
    ·simp[go_sem,s]
    ·simp[go_sem,cc]
    ·obtain⟨ck,rfl⟩:=Q1.1 hl;refine .call 41 #[Vi x] _ (by simp[go_sem]) (aj.o.mono ?_);rintro e u ⟨rfl,rfl⟩;exact⟨_,rfl,b.1,rfl,rfl⟩
    ·have bs:vs[1]?.getD undef= .string ⟨X.toArray⟩:=by have:=b8 g;rwa [List.getD_eq_getElem?_getD]at this
     simp[go_sem,bs,show¬9223372036854775807<f.length+(A.length+4)+X.length by omega,show¬9223372036854775807<f.length+(A.length+(4+X.length)) by omega,show¬9223372036854775807<f.length+(A.length+(X.length+4)) by omega,Az]
    ·simp[go_sem,show¬9223372036854775807<f.length+(A.length+(4+X.length))+1 by omega,show¬9223372036854775807<f.length+(A.length+(X.length+4))+1 by omega,OH]
    ·simp[go_sem,show¬9223372036854775807<h.length+(f.length+(A.length+(X.length+1+4))) by omega,Az]
    ·simp[go_sem]
   ·rintro vs u hl b;obtain⟨rfl,_,_⟩:=b.at
    simp only[El,Hq,B4,pa,Ph.kd,Ph.val,Kd.val,Qx,List.map_nil,if_true,Act.put,List.setIfInBounds_toArray,List.set_cons_succ,List.set_cons_zero];have ak:Hd ((h++(f++A++[32,98,121,32]++X++[10]))++CL (C.drop (k+1)) (ds.drop (k+1)) (ks.drop (k+1))=K):=by show _=_;rw[<-L.o];simp
    obtain⟨bn,ap⟩:∃q,q=h++(f++A++[32,98,121,32]++X++[10]):=⟨_,rfl⟩;rw[<-ap]at ak⊢;clear ap;go_wp2
    go_roundg (N-k)
    case measure=>omega
    case rel=>exact⟨k+1,bn,Yg,Yo,Yo,rfl,ak.o,B.o.trans ⟨rfl,rfl,rfl,Qe _,fun _ _=>rfl⟩⟩
  ·have bx:k=N:=Yo
   subst bx;have L:Hd (h=K):=by
    show _=_;rw[List.drop_eq_nil_of_le (by rw[af.o];exact Qe _)]at i;simpa[CL]using i
   clear i;go_wp2;go_ret;rw[<-L.o];exact⟨D.o.trans (B.o.mono D.o.size),rfl⟩
theorem NI:HC:=by
 intro p q x w ae af ag;have N:=hd (LS p q x w ae af ag);obtain⟨Y,C⟩:=Ex (GH p q x);rw[<-C];have P:=hd C;clear ae af ag C;go_enter func34,ntmps34;go_wp2_with fail;apply N.o.mono;rintro e w1 ⟨A,aq⟩;have a4:=A.size;have O:=hd A;clear A N;rcases aq with⟨J,rfl⟩|⟨a,ks,n,m,b,aw,nc,ak,al,am,a1,a2,a3,ay,az,a0,ah,au,av,aj,dc,rfl,W,ap,I,F⟩
 ·obtain⟨Q,c⟩:∃r,r=(Bo p q x).2.2.1:=⟨_,rfl⟩;obtain⟨ax,K⟩:∃r,r=(Bo p q x).2.2.2:=⟨_,rfl⟩;rw[<-c,<-K];rw[<-c]at J;have v:Hd (Y=([],Q,ax)):=by show _=_;rw[P.o,GH,if_neg (by rw[<-c];exact J),<-c,<-K]
  have hb:((Q:Int) !=0)=true:=by rw[bne_iff_ne];omega
  clear c K J;unfold CD;go_wp2_with fail;go_quiet (fail);go_wp2;go_ret3;rw[v.o];exact⟨rfl,O.o.trans (Ad.below (S:=fun i=>w.hz<=i) Mst Yo (fun _ h=>h))⟩
 ·have u:m.used=ks:=by
   obtain⟨cs,_,aa⟩:=b.fol;have:=PM (cs:=cs) (ks:=ks) (n:=AN a) (i:=0) (by rw[aa]);rw[aa]at this;simpa[AN]using this
  have L:=Lk b.ask b.held;rw[u]at L;have ad:ks.length=n.done.length:=by rw[b.ok.dl,b.same.used,u]
  have X:(m.done.map (·.2)).length=n.done.length:=by rw[Ql,<-b.same.dl]
  have E:∀d∈m.done.map (·.2),d<=100:=fun d hd=>by
   rw[<-b.same.dd]at hd;obtain⟨g,f,rfl⟩:=Q0.1 hd;have:=(b.ok.ds g f).2;have:=b.ok.ul;omega
  have H:∀k∈ks,k<=99:=fun k ao=>by have:=L k ao;omega
  have ab:(n.done.map (·.1)).flatten.length<=30*(n.done.map (·.1)).length:=Kx (fun t l=>by
   obtain⟨g,f,rfl⟩:=Q0.1 l;exact(b.ok.ds g f).1)
  have an:n.done.length<=100:=by rw[b.ok.dl];exact b.ok.ul
  simp only[Ql]at ab;have V:(CL (Aw (n.done.map (·.1)) []).1 (m.done.map (·.2)) ks).length<=100000000:=by
   have:=Na (n.done.map (·.1)) (m.done.map (·.2)) ks [] E H (fun t l=>by
    have ac:t∈n.terms:=by unfold ND.terms;simp only[Qk];exact Or.inr (Or.inr l)
    obtain⟨g,f,rfl⟩:=Q0.1 l;exact⟨b.ok.wf _ ac,by have:=(b.ok.ds g f).1;omega,fun s ar=>Qq (b.nm _ ac s ar) Yo⟩) (by simp only[Qt];omega)
   omega
  have Z:HH m=CL (Aw (n.done.map (·.1)) []).1 (m.done.map (·.2)) ks:=by unfold HH;rw[b.same.doneC b.ok,u]
  obtain⟨T,B⟩:=Ex (CL (Aw (n.done.map (·.1)) []).1 (m.done.map (·.2)) ks);have v:Hd (Y=(T,0,0)):=by show _=_;rw[P.o,GH,b.held,B,<-Z];simp
  have M:Hd (∀y,Ao w1 y->Calls prog 59 #[.agg #[.slice aw a.2.length nc,.slice ak al am,.slice a1 a2 a3,.slice ay az a0,Vi ah,.slice au ks.length av,.slice aj (m.done.map (·.2)).length dc]] y fun e w'=>Ao y w'/\e= .returned (.string ⟨T.toArray⟩)):=fun y z=>by
   rw[B];exact JP y _ _ _ _ _ _ ah n (m.done.map (·.2)) ks ⟨_,_,_,rfl⟩ ⟨_,_,_,rfl⟩ ⟨_,_,_,rfl⟩ (W.done.ext z) (Aj I (fun j G=>z.block j (I.lt j G).2)) (Aj F (fun j G=>z.block j (F.lt j G).2)) b.ok b.nm b.few ad X H E V
  obtain⟨D,R⟩:=Ex ((m.done.map (·.2)).length);rw[<-R]at M⊢;clear u L ad X E H ab an V Z B b W ap I F R;go_wp2_with fail;apply(M.o _ ((Below.refl _ w1|>.alloc (Qe _) _).alloc Ys _)).mono;rintro e w2 ⟨U,rfl⟩;have ai:=hd U;clear U;go_wp2;go_ret3;rw[v.o];exact⟨rfl,(O.o.trans (Ad.below (S:=fun i=>w.hz<=i) Mst Yo (fun _ h=>h))).trans (ai.o.mono Yp)⟩
theorem Ff.bump{c:Nat}{n:ND}(h:Ff w (.slice (some ⟨c,0,none⟩) (ds.length+1) cap) (ds++[(n,k)]) xs)(b:Nat):
  Ff (w.setCell ⟨c,ds.length*5+4,none⟩ (Vi b)) (.slice (some ⟨c,0,none⟩) (ds.length+1) cap) (ds++[(n,b)]) (xs.set (ds.length*5+4) (Vi b)):=by
 have a:=h.owns;have v:=a.1;rw[Qg,Qn]at a v;have s:=HA a;have t:=CT w c (ds.length+1) cap (ds.length*5+4) (Vi b);refine⟨by rw[Qg,Qn];exact BY a _ _,fun i d hd=> ?_⟩;rcases QB i ds.length with hi|hi
 ·rw[Qc hi]at hd;obtain⟨f,j,l,m,o,p,q,r,u,g⟩:=h.all i d (by rw[Qc hi];exact hd);exact⟨f,j,l,m,by rw[QF Yo];exact o,by rw[QF Yo];exact p,by rw[QF Yo];exact q,by rw[QF Yo];exact r,by rw[QF Yo];exact u,g.keep t s⟩
 ·have e:i=ds.length:=by
   have:=(Qa.1 hd).1;simp at this;omega
  subst e;rw[Qd (Qe _)]at hd;simp at hd;subst hd;obtain⟨f,j,l,m,o,p,q,r,u,g⟩:=h.all ds.length (n,k) (by rw[Qd (Qe _)];simp);exact⟨f,j,l,m,by rw[QF Yo];exact o,by rw[QF Yo];exact p,by rw[QF Yo];exact q,by rw[QF Yo];exact r,by rw[List.getElem?_set_self Yo],g.keep t s⟩
theorem Dj.bump{c:Nat}{x:CX}{n:ND}(h:Dj w b x cs a m)(z:m.way=(n,k)::r)(p:x.wa=some ⟨c,0,none⟩):
  Ad (CK b x) w ((w.setCell ⟨c,r.length*5+4,none⟩ (Vi ((k+1:Nat):Int))).setCell ⟨b,3,none⟩ (Vi ((m.tries+1:Nat):Int)))/\Dj ((w.setCell ⟨c,r.length*5+4,none⟩ (Vi ((k+1:Nat):Int))).setCell ⟨b,3,none⟩ (Vi ((m.tries+1:Nat):Int))) b x cs a {m with way:=(n,k+1)::r,tries:=m.tries+1}:=by
 obtain⟨J,o⟩:=h.way;obtain⟨xs,D⟩:=h.prog;rw[z,p,Qf,Qw]at o;have l:=h.box;have y:c≠b:=fun e=>by
  subst e;rcases o.owns.2 with⟨e,_⟩|⟨g,K,L,e,_,v,_⟩
  ·simp at e
  ·simp at e;obtain⟨rfl,_⟩:=e;rw[l]at v;simp at v
 have q:Ad (Ak (.slice (some ⟨c,0,none⟩) (r.length+1) x.wc)) w (w.setCell ⟨c,r.length*5+4,none⟩ (Vi ((k+1:Nat):Int))):=CT w c (r.length+1) x.wc _ _;have u:(w.setCell ⟨c,r.length*5+4,none⟩ (Vi ((k+1:Nat):Int))).heap[b]?=_:=(q.block b (Ab l) (fun e=>y (by simpa[Ak,Value.ownBlock]using e))).trans l;have s:Ad (only b) (w.setCell ⟨c,r.length*5+4,none⟩ (Vi ((k+1:Nat):Int))) _:=(Ad.refl (only b) _).put 3 (Vi ((m.tries+1:Nat):Int));have d:Ad (CK b x) w ((w.setCell ⟨c,r.length*5+4,none⟩ (Vi ((k+1:Nat):Int))).setCell ⟨b,3,none⟩ (Vi ((m.tries+1:Nat):Int))):=(q.mono (fun i _ e=>Or.inr (by rw[p];exact Fv.1 e))).trans (s.mono (fun i _ e=>Or.inl e));have f:=h.offS;have t:=Ff.bump (ds:=r.reverse) (n:=n) (k:=k) (xs:=J) (by rw[Qv];exact o) (k+1);rw[Qv]at t;have G:DF (only b) (w.setCell ⟨c,r.length*5+4,none⟩ (Vi ((k+1:Nat):Int))):=fun j e=>by
  have e:j=b:=e;subst e;exact⟨_,_,_,u,by simp[BR]⟩
 have E:=t.keep s G (fun j F e=>by
  have e:j=b:=e;subst e;exact y (by simpa[Value.ownBlock]using F))
 refine⟨d,(by have:=Af u 3 (Vi ((m.tries+1:Nat):Int));rw[z]at this;exact this),⟨xs,f.prog d D⟩,f.own (by simp[BR]) d h.names,⟨_,by rw[p];simp only[Qw,Qf];exact E⟩,fun H=> ?_⟩;obtain⟨⟨I,A,B⟩,C⟩:=h.found H;exact⟨⟨I,f.terms d A,B⟩,f.own (by simp[BR]) d C⟩
def Rz(W:World)(b:Nat)(T X:Lu):Lv->World->Prop
 |[],y=>y=W
 |[v],y=>y=W/\v= .string ⟨X.toArray⟩
 |[v,_],y=>v= .string ⟨X.toArray⟩/\y=W.setCell ⟨b,7,none⟩ (.string ⟨(T++X).toArray⟩)
 |_,_=>False
theorem Rz.at{a:World}{T X:Lu}{y:World}(h:Rz a b T X vs y):(vs.length<=1->y=a)/\(1<=vs.length->vs.getD 0 undef= .string ⟨X.toArray⟩):=by
 match vs,h with
 |[],h=>exact⟨fun _=>h,fun h=>by simp at h⟩
 |[v],h=>exact⟨fun _=>h.1,fun _=>by simpa using h.2⟩
 |[v,v'],h=>exact⟨fun h=>by simp at h,fun _=>by simpa using h.1⟩
theorem OE(w:World)(b:Nat)(x:CX)(cs:Lc)(a:Ll×At)(m:SN)(h:Dj w b x cs a m)(be:DG cs a m)(h0:m.status=0)(ea:m.way≠[])(d7:m.tries<3000)(dw:∀c∈cs,Kl c/\QU c)(du:∀c∈cs,Ma c)(e9:cs.length<=24):
  Calls prog 76 #[Pt b] w fun e w'=>e=Rq #[]/\∃z,Ad (CK b x) w w'/\Dj w' b z cs a (AQ cs m)/\Es w x z:=by
 obtain⟨n,k,r,c,a3,ce,dy⟩:=be.head ea;have fd:=(Qa.1 ce).1;have d2:=be.len;rw[a3,Qf]at d2;have gc:r.length+1<=100000:=Yo
 obtain⟨xs,cb⟩:=h.prog;obtain⟨gr,a0⟩:=h.way;have D:=h.box;obtain⟨ca,cc,na,nc,wa,wc,va,vl,vc,fa,fl,fc⟩:=x;simp only[CX.cells]at D cb a0;rw[a3,Qf,Qw]at a0;rw[a3,Qf,h0]at D;have bh:=a0.owns;rw[Qg,Qv,Qn]at bh;obtain⟨l,gn,gp,eb,_,a4,gi⟩:=An bh Yo;simp only[QH]at eb;obtain⟨rfl,_,rfl⟩:=eb;obtain⟨fs,ft,fu,fv,a6,a7,a8,bm,bn,ch⟩:=a0.all r.length (n,k) (by rw[Qd Ys];simp);obtain⟨lb,gj,gk,d1,_,ff,_⟩:=An cb.owns Yo;simp only[QH]at d1;obtain⟨rfl,_,rfl⟩:=d1;obtain⟨V,b1,b2,W,aq,ar,au,Y,Z⟩:=IB D;have cz:=Ag bh _ _ bn;simp only at cz;have fo:=fun i=>Ae a4 i;have f2:=Ab D;have fn:=Ab a4;have fh:l≠b:=fun e=>by
  subst e;rw[D]at a4;simp at a4
 have gb:b≠l:=fun e=>fh e.symm;have f9:¬((cs.length:Int)<=(k:Int)):=Yo
 have f7:decide ((r.length:Int)<0)=false:=by rw[decide_eq_false_iff_not];omega
 obtain⟨a5,ci⟩:∃x,x=m.tries:=⟨_,rfl⟩;rw[<-ci]at D W;have gg:a5<=3000:=Yo
 have ba:=hd be;have em:=hd h;have ez:=hd dw;have ex:=hd du;have K:=hd a3;have S:=hd ce;have e0:=hd dy;have co:=hd h0;have bd:=hd ci;have e1:=hd d7;clear h be dw du a3 ce dy h0 ea cb a0 bh a4 ff D a6 a7 a8 bm bn ch ci d7 d2;go_enter func76,ntmps76;go_wp2_with fail;go_quiet (fail);go_wp2_with fail;obtain⟨G,cd⟩:=Ex (((w.drewN nq).setCell ⟨l,r.length*5+4,none⟩ (Vi ((k:Int)+1))).setCell ⟨b,3,none⟩ (Vi ((a5:Int)+1)));rw[<-cd];have de:Ao w (w.drewN nq):=Ao.of ((Ad.refl _ w).drewN _);obtain⟨b6,P⟩:=(em.o.ext de).bump K.o rfl;rw[show((k+1:Nat):Int)=(k:Int)+1 by omega,<-bd.o,show((a5+1:Nat):Int)=(a5:Int)+1 by omega,<-cd]at b6 P;have b8:Ad (CK b ⟨some ⟨lb,0,none⟩,cc,na,nc,some ⟨l,0,none⟩,wc,va,vl,vc,fa,fl,fc⟩) w G:=((Ad.refl _ w).drewN nq).trans b6;obtain⟨s,ax⟩:∃s:SN,s={m with way:=(n,k+1)::r,tries:=a5+1}:=⟨_,rfl⟩;rw[<-ax]at P;have af:=P.box;rw[ax]at af;simp only[CX.cells,Qf]at af;rw[co.o]at af;clear V b1 b2 W aq ar au Y Z cz fo;obtain⟨V,b1,b2,W,aq,ar,au,Y,Z⟩:=IB af;obtain⟨gs,a1⟩:=P.way;rw[ax]at a1;simp only[Qf,Qw]at a1;have ah:=a1.owns;rw[Qg,Qv,Qn]at ah;obtain⟨fs,ft,fu,fv,a6,a7,a8,bm,bn,ch⟩:=a1.all r.length (n,k+1) (by rw[Qd Ys];simp);obtain⟨C,ad,rfl,b9,dm,df,dr⟩:=ch;obtain⟨c8,c9,rfl⟩:=ad.goals.shape;obtain⟨ei,ej,rfl⟩:=ad.vals.shape;obtain⟨eg,eh,rfl⟩:=ad.done.shape;simp only[Ql]at ad a6 a7 a8;have cv:=Ag ah _ _ a6;have cw:=Ag ah _ _ a7;have cx:=Ag ah _ _ a8;have cy:=Ag ah _ _ bm;obtain⟨gq,dq⟩:=P.prog;obtain⟨fy,fz,cv2,ck,ed,ee,az⟩:=dq.cell S.o;obtain⟨c0,c1,rfl⟩:=Ac az.head;obtain⟨c2,c3,rfl⟩:=az.body.shape;obtain⟨c4,c5,rfl⟩:=Ac az.names;have f3:=Ab af;have gh:l<G.hz:=Nat.lt_of_lt_of_le fn b8.size;have ga:lb<G.hz:=World.block_lt_of_cell? G ⟨lb,k*3,none⟩ ck;obtain⟨cf,dv⟩:=ez.o c (Qh S.o);have er:Hd (∀ap u,Ao G.drew u->(∀k,ap k->G.hz<=k/\k<u.hz)->Calls prog 97 #[.agg #[.slice c8 C.goals.length c9,.slice ei C.vals.length ej,.slice eg C.done.length eh,Vi C.vars],.agg #[.slice c0 c.head.length c1,.slice c2 c.body.length c3,.slice c4 c.names.length c5]] u fun e cm=>∃r,e= .returned r/\Ao u cm/\Jt C c k ap r cm):=fun ap u f e6=>by
  have ec:Ao G u:=f.undrew;apply(KH u _ _ _ _ _ _ C c k b9 cf (ad.ext ec) (az.ext ec)).mono;intro e cm h;exact h.toX (fun j I=>(e6 j I).2)
 have bx:=hd cf;have bv:=hd b9;have ew:=hd dm;have eq:=hd df;have bc:=hd dr;have ey:=hd dv;have ep:Hd (Ma c):=ex.o c (Qh S.o);have eo:=hd P;have cq:=hd b8;have J:=hd ax;have gd:r.length<r.length+1:=Yo
 clear cd de b6 P b8 ax af a1 ah a6 a7 a8 bm bn ad dq az cf b9 dm df dr dv;refine DM Yk [.pur (Pt b),.pur (Pt b),.pur (.pointer (some ⟨b,2,none⟩)),.pur (.slice (some ⟨l,0,none⟩) (r.length+1) wc),.pur (Vi r.length),.pur (.pointer (some ⟨l,r.length*5,none⟩)),.pur (.pointer (some ⟨l,r.length*5,none⟩)),.pur (.agg #[.slice c8 C.goals.length c9,.slice ei C.vals.length ej,.slice eg C.done.length eh,Vi C.vars]),
  .pur (Pt b),.pur (Pt b),.pur (Pt b),.pur (.slice (some ⟨lb,0,none⟩) cs.length cc),.pur (Vi k),.pur (.pointer (some ⟨lb,k*3,none⟩)),.pur (.agg #[.slice c0 c.head.length c1,.slice c2 c.body.length c3,.slice c4 c.names.length c5]),
  .cal,.post (fun v=>v),.post (A7 0),.post (A7 1),.alo 87 #[Nl,Nl,Nl,Vi 0] 20 (fun v=>cellsOf (A7 0 v)),.sto 19,.post (A7 1)] 15 Yk (Jt C c k) 97 _ Jt.stable er.o ?_ rfl Yd ?_
 ·refine⟨fun vc β u f=> ?_,fun vc β u f=> ?_,fun vc β u f=> ?_,fun vc β u f=> ?_,fun vc β u f=> ?_,fun vc β u f=> ?_,fun vc β u f=> ?_,fun vc β u f=> ?_,fun vc β u f=> ?_,fun vc β u f=> ?_,fun vc β u f=> ?_,fun vc β u f=> ?_,fun vc β u f=> ?_,fun vc β u f=> ?_,fun vc β u f=> ?_,fun vc β u=> ?_,?_,?_,?_,fun vc β u=> ?_,?_,?_,trivial⟩
  all_goals try(simp[pa,Kd.val,go_sem,f.up V,f.up b2,f.up cv,f.up cw,f.up cx,f.up cy,f.up ck,f.up ed,f.up ee,fd];done)
  all_goals try(simp[pa,Kd.val,go_sem];done)
  all_goals try(rintro vc β ap u ⟨aa,b3,ab,al,am,an,ai,aj,ak,cn,ef,rfl,_⟩;simp[pa,Kd.val,go_sem,A7];done)
  all_goals try(simp[pa,Kd.val,go_sem];intro h;omega)
  rintro vc β ap u t gt gm cl dx ⟨aa,b3,ab,al,am,an,ai,aj,ak,cn,ef,rfl,_⟩ hb;simp at dx;obtain⟨rfl,rfl,rfl,rfl⟩:=dx;have bo:=Aa hb 0 _ rfl;have bp:=Aa hb 1 _ rfl;have bq:=Aa hb 2 _ rfl;have br:=Aa hb 3 _ rfl;have fw:=fun i=>Ae hb i;refine⟨_,?_,Af (Af (Af (Af hb 0 _) 1 _) 2 _) 3 _,((((Ad.refl (only (β 19)) u).put 0 _).put 1 _).put 2 _).put 3 _⟩;simp[pa,Kd.val,go_sem,bo,bp,bq,br,fw,A7]
 rintro vc β w5 ag ⟨aa,b3,ab,al,am,an,ai,aj,ak,cn,ef,rfl,fj⟩ dt _;have ag:=ag.undrew;have ge:=ag.size;obtain⟨e7,D⟩:=dt 19 _ _ _ _ rfl;have ae:w5.heap[β 19]?=some (.cells #[.slice aa b3 ab,.slice al am an,.slice ai aj ak,Vi cn] 87 (0,0)):=D;generalize e8:β 19=bt at*;have bo:=Aa ae 0 _ rfl;have bp:=Aa ae 1 _ rfl;have bq:=Aa ae 2 _ rfl;have br:=Aa ae 3 _ rfl;have b4:=eo.o.ext ag;have bb:=hd (cq.o.then (Ad.of_below ag) (S':=fun j=>G.hz<=j) (fun i hi f8=>by have:=cq.o.size;omega));have Q:=b4.box;rw[J.o]at Q;simp only[CX.cells,Qf]at Q;rw[co.o]at Q;clear V b1 b2 W aq ar au Y Z cv cw cx cy ck ed ee;obtain⟨V,b1,b2,W,aq,ar,au,Y,Z⟩:=IB Q;have f4:=Ab Q;have f6:=Ab ae;have fx:=hd Q;have F:=hd b4;have cj:s.way=(n,k+1)::r:=by rw[J.o]
 have d3:s.tree.length+s.way.length<=100000:=by
  have av:=ba.o.len;have M:=e1.o;rw[K.o]at av;rw[J.o];simp only[Qf]at av⊢;omega
 have d4:∀y∈s.way,1<=y.2/\y.2<=4000:=fun y g=>by
  rw[cj]at g;rcases Qp.1 g with rfl|g
  ·exact⟨Nat.succ_le_succ (Qm _),by show k+1<=_;omega⟩
  ·have av:=(ba.o.way y (by rw[K.o];simp[g])).2.2.1;have M:=ba.o.used;rw[K.o]at M;exact⟨M.2.1 y g,Yo⟩
 have R:Hd (∀u (bl:CX) (O:SN),Dj u b bl cs a O->O.way.length<=200000->(∀y∈O.way,y.2<=4000)->O.tree.length+O.way.length<=200000->Calls prog 53 #[Pt b] u fun e w'=>e=Rq #[]/\Ad (only b) u w'/\Dj w' b bl cs a (CJ cs O)):=fun u bl O av M e4 e5=>MY u b bl cs a O av M e4 e9 e5;have U:=hd d3;have bz:=hd d4;have e3:=hd cj;clear d3 d4 cj D ae Q b4 dt ag;simp only[B4,pa,Kd.val,if_true,Act.put,A7];rw[e8];rcases fj with⟨rfl,E⟩|⟨rfl,L,E⟩|⟨rfl,L,q0,bi,E,rfl,rfl,fb,fm,fk⟩
 ·have fi:(Ax n c k).2=0:=by
   rcases E with h|h
   ·exact absurd (List.eq_nil_of_length_eq_zero (by rw[<-bc.o.gl,h];rfl)) e0.o
   ·exact(Ef bv.o bc.o bx.o h).1.symm
  have N:AQ cs m=CJ cs s:=by
   unfold AQ;rw[K.o];simp only[S.o];rw[if_neg Yo,if_neg Yo,J.o,bd.o]
  have bu:=hd (R.o w5 _ s F.o (by have:=U.o;omega) (fun y g=>(bz.o y g).2) (by have:=U.o;omega));have ao:=hd N;clear E fi N R;go_wp2_with fail;apply bu.o.mono;rintro e q ⟨rfl,aw,H⟩;have bs:Hd (∃z,Ad (CK b ⟨some ⟨lb,0,none⟩,cc,na,nc,some ⟨l,0,none⟩,wc,va,vl,vc,fa,fl,fc⟩) w q/\Dj q b z cs a (AQ cs m)/\Es w ⟨some ⟨lb,0,none⟩,cc,na,nc,some ⟨l,0,none⟩,wc,va,vl,vc,fa,fl,fc⟩ z):=⟨_,bb.o.trans (aw.mono (fun i _ e=>Or.inl e)),by rw[ao.o];exact H,⟨fun j I=>Or.inl I,rfl,rfl,rfl,rfl,fun j I=>Or.inl I⟩⟩;clear aw H;go_wp2;go_end0;exact⟨rfl,bs.o⟩
 ·have d5:(Ax n c k).2=3:=(Ef bv.o bc.o bx.o E).1.symm;obtain⟨d,A⟩:∃d:SN,d={s with status:=3}:=⟨_,rfl⟩;have N:AQ cs m=CJ cs d:=by
   unfold AQ;rw[K.o];simp only[S.o];rw[if_pos d5,A,J.o,bd.o]
  have b7:Ad (only b) w5 (w5.setCell ⟨b,4,none⟩ (Vi 3)):=(Ad.refl _ _).put 4 _;have da:Dj (w5.setCell ⟨b,4,none⟩ (Vi 3)) b ⟨some ⟨lb,0,none⟩,cc,na,nc,some ⟨l,0,none⟩,wc,va,vl,vc,fa,fl,fc⟩ cs a d:=by
   refine F.o.upd b7 ?_ ⟨rfl,rfl,rfl,rfl⟩ (by rw[A];exact F.o.way) (fun h=>by rw[A]at h;simp at h);have:=Af F.o.box 4 (Vi 3);rw[A];exact this
  have B:d.way=s.way/\d.tree=s.tree:=by rw[A];exact⟨rfl,rfl⟩
  have bu:=hd (R.o _ _ d da (by rw[B.1];have:=U.o;omega) (fun y g=>(bz.o y (by rw[<-B.1];exact g)).2) (by rw[B.1,B.2];have:=U.o;omega));have ao:=hd N;have es:=hd (bb.o.trans (b7.mono (fun i _ e=>Or.inl e)));clear E d5 N R da b7 B A;go_wp2_with fail;apply bu.o.mono;rintro e q ⟨rfl,aw,H⟩;have bs:Hd (∃z,Ad (CK b ⟨some ⟨lb,0,none⟩,cc,na,nc,some ⟨l,0,none⟩,wc,va,vl,vc,fa,fl,fc⟩) w q/\Dj q b z cs a (AQ cs m)/\Es w ⟨some ⟨lb,0,none⟩,cc,na,nc,some ⟨l,0,none⟩,wc,va,vl,vc,fa,fl,fc⟩ z):=⟨_,es.o.trans (aw.mono (fun i _ e=>Or.inl e)),by rw[ao.o];exact H,⟨fun j I=>Or.inl I,rfl,rfl,rfl,rfl,fun j I=>Or.inl I⟩⟩;clear aw H;go_wp2;go_end0;exact⟨rfl,bs.o⟩
 ·obtain⟨c6,c7⟩:=Ef bv.o bc.o bx.o E;obtain⟨dp,ds⟩:=c7 bi;have cg:(Ax n c k).2=1\/(Ax n c k).2=2:=by rw[<-c6];exact bi
  have dn:=Ol E bi ew.o ey.o;have dg:=NU E bi eq.o ep.o;obtain⟨fp,dz,_⟩:=fb;obtain⟨fq,d9,_⟩:=fm;obtain⟨fr,d6,_⟩:=fk;have dk:Gd w5 (.slice aa L.goals.length ab) (.slice al am an) (.slice ai aj ak) L:=⟨⟨fp,dz⟩,⟨fq,d9⟩,⟨fr,d6⟩⟩;have dd:C3 w5 (.slice aa L.goals.length ab) (.slice al am an) (.slice ai aj ak) (Vi L.vars) (Ax n c k).1:=⟨L,dk,rfl,dp,dn,dg,ds⟩;obtain⟨X,bf⟩:=Ex (Lib.decDigits k);have f1:X.length<=24:=by rw[bf];have:=Ec k;omega
  obtain⟨T,ay⟩:=Ex m.tree;have f0:T.length<=100000:=by
   have:=U.o;rw[J.o]at this;simp only at this;rw[ay];omega
  obtain⟨d,A⟩:∃d:SN,d={s with tree:=T++X}:=⟨_,rfl⟩;have dj:s.tree=T:=by rw[J.o,ay]
  have N:AQ cs m=CJ cs (B7 d (Ax n c k).1):=by
   unfold AQ;rw[K.o];simp only[S.o];rw[if_neg Yo,if_pos cg,A,J.o,bd.o,ay,bf]
  obtain⟨q,bj⟩:=Ex (w5.drew.setCell ⟨b,7,none⟩ (.string ⟨(T++X).toArray⟩));have ac:Ad (only b) w5 q:=by rw[bj];exact((Ad.refl _ _).drew).put 7 _
  have H:Dj q b ⟨some ⟨lb,0,none⟩,cc,na,nc,some ⟨l,0,none⟩,wc,va,vl,vc,fa,fl,fc⟩ cs a d:=by
   refine F.o.upd ac ?_ ⟨rfl,rfl,rfl,rfl⟩ (by rw[A];exact F.o.way) (fun h=>by rw[A]at h⊢;exact F.o.found h);have:=Af (w:=w5.drew) F.o.box 7 (.string ⟨(T++X).toArray⟩);rw[bj,A];exact this
  have b5:=dd.keep ac F.o.off;have B:d.way=s.way/\d.tree=T++X:=by rw[A];exact⟨rfl,rfl⟩
  have fg:d.tree.length+d.way.length<=150000:=by
   have:=U.o;rw[B.1,B.2,Qg];rw[dj]at this;omega
  have d8:(Ax n c k).1.used=Eu d.way:=by
   have M:=ba.o.used;rw[K.o]at M;rw[Gm cg,B.1,e3.o,K0,M.1]
  have bg:∀y∈d.way,1<=y.2/\y.2<=4000:=fun y g=>bz.o y (by rw[<-B.1];exact g);have cp:Hd (Calls prog 52 #[Pt b,.agg #[.slice aa L.goals.length ab,.slice al am an,.slice ai aj ak,Vi L.vars]] q fun e w'=>e=Rq #[]/\∃z,Ad (CK b ⟨some ⟨lb,0,none⟩,cc,na,nc,some ⟨l,0,none⟩,wc,va,vl,vc,fa,fl,fc⟩) q w'/\Dj w' b z cs a (B7 d (Ax n c k).1)/\Es q ⟨some ⟨lb,0,none⟩,cc,na,nc,some ⟨l,0,none⟩,wc,va,vl,vc,fa,fl,fc⟩ z):=by
   by_cases d0:(Ax n c k).1.goals=[]
   ·exact St q b _ cs a d _ _ _ _ _ H b5 Yo d0 d8 bg (by rw[B.2,Qg];omega)
   ·exact Lz q b _ cs a d _ _ _ _ _ H b5 Yo d0 (by rw[B.2,Qg];omega)
  have bw:Hd ((B7 d (Ax n c k).1).way.length<=200000/\(∀y∈(B7 d (Ax n c k).1).way,y.2<=4000)/\(B7 d (Ax n c k).1).tree.length+(B7 d (Ax n c k).1).way.length<=200000):=by
   show _/\_/\_;unfold B7;split
   ·simp only[Qg,Qn];exact⟨Yo,fun y g=>(bg y g).2,Yo⟩
   ·simp only[Qg,Qt,Qf];refine⟨Yo,fun y g=> ?_,Yo⟩;rcases Qp.1 g with rfl|g
    ·exact Qm _
    ·exact(bg y g).2
  have ct:=hd (Jb k w5.drew Yo);rw[<-bf]at ct;have ao:=hd N;have cr:=hd ac;have gf:=ac.size;have e2:=hd bj;have a9:∀i v,w5.cell? ⟨bt,i,none⟩=some v->q.cell? ⟨bt,i,none⟩=some v:=fun i v a2=>ac.cell a2 (fun e=>by
   have e:bt=b:=e;have:G.hz<=bt:=e7;omega)
  have bo:=a9 0 _ bo;have bp:=a9 1 _ bp;have bq:=a9 2 _ bq;have br:=a9 3 _ br;have b0:w5.drew.cell? ⟨b,7,none⟩=some (.string ⟨T.toArray⟩):=by rw[ay];exact Y
  have cu:∀i,w5.drew.frozen? ⟨b,i,none⟩=false:=Z;have f5:bt<q.hz:=Yo
  clear E c6 c7 dp ds cg dn dg dz d9 d6 dk dd bf ay A dj N H b5 B fg d8 bg ac bj a9 V b1 b2 W aq ar au Y Z;go_wp2_with fail;refine FC Yk 999 [.rd 0 2 (fun _=>Pt b),.rd 0 2 (fun _=>Pt b),.rd 0 2 (fun _=> .pointer (some ⟨b,7,none⟩)),.rd 0 1 (fun _=> .string ⟨T.toArray⟩),.rd 0 2 (fun _=>Vi k),.st 0,.rd 1 2 (fun _=> .string ⟨(T++X).toArray⟩),.rd 0 2 (fun _=>Pt b),.rd 0 2 (fun _=> .pointer (some ⟨b,7,none⟩)),.st 1] 2 7 Yk (Rz w5.drew b T X) rfl ?_ ?_
  ·refine⟨⟨trivial,fun vs y _ hl p=> ?_⟩,⟨trivial,fun vs y _ hl p=> ?_⟩,⟨trivial,fun vs y _ hl p=> ?_⟩,⟨trivial,fun vs y _ hl p=> ?_⟩,⟨trivial,fun vs y _ hl p=> ?_⟩,⟨trivial,fun vs y hl p=> ?_⟩,⟨trivial,fun vs y fe hl p=> ?_⟩,⟨trivial,fun vs y _ hl p=> ?_⟩,⟨trivial,fun vs y _ hl p=> ?_⟩,⟨trivial,fun vs y hl p=> ?_⟩,trivial⟩
   ·simp[go_sem]
   ·simp[go_sem]
   ·simp[go_sem]
   ·obtain rfl:=p.at.1 hl;simp[go_sem,b0]
   ·simp[go_sem]
   ·obtain rfl:=Q3.1 hl;obtain rfl:y=w5.drew:=p;refine .call 41 #[Vi k] _ (by simp[go_sem]) (ct.o.mono ?_);rintro e u ⟨rfl,rfl⟩;exact⟨_,rfl,rfl,rfl⟩
   ·have h0:=p.at.2 fe;rw[List.getD_eq_getElem?_getD]at h0;simp[go_sem,h0,Az,show¬9223372036854775807<T.length+X.length by omega]
   ·simp[go_sem]
   ·simp[go_sem]
   ·obtain⟨v,rfl⟩:=Q1.1 hl;obtain⟨rfl,a2⟩:=p;exact .skip _ (by simp[go_sem,b0,cu]) ⟨a2,rfl⟩
  rintro vs y hl p;obtain⟨v,bk,rfl⟩:∃v bk,vs=[v,bk]:=by
   match vs,hl with
   |[v,bk],_=>exact⟨v,bk,rfl⟩
  obtain⟨a2,g⟩:=p;rw[<-e2.o]at g;subst g;simp only[El,Hq,B4,pa,Ph.kd,Ph.val,Kd.val,Qx,List.map_nil,if_true,Act.put,List.setIfInBounds_toArray,List.set_cons_succ,List.set_cons_zero];clear a2 b0 cu;go_wp2_with fail;apply cp.o.mono;rintro e w7 ⟨rfl,el,dh,db,dl⟩;have eu:=hd (R.o w7 el _ db bw.o.1 bw.o.2.1 bw.o.2.2);have et:=hd dh;have ev:=hd dl;clear dh db dl R cp;go_wp2_with fail;apply eu.o.mono;rintro e ek ⟨rfl,di,dc⟩;have en:Hd (∃z,Ad (CK b ⟨some ⟨lb,0,none⟩,cc,na,nc,some ⟨l,0,none⟩,wc,va,vl,vc,fa,fl,fc⟩) w ek/\Dj ek b z cs a (AQ cs m)/\Es w ⟨some ⟨lb,0,none⟩,cc,na,nc,some ⟨l,0,none⟩,wc,va,vl,vc,fa,fl,fc⟩ z):=⟨el,((bb.o.trans (cr.o.mono (fun i _ e=>Or.inl e))).trans et.o).trans (di.mono (fun i _ e=>Or.inl e)),by rw[ao.o];exact dc,ev.o.down (Qq bb.o.size cr.o.size)⟩;clear di dc;go_wp2;go_end0;exact⟨rfl,en.o⟩
structure BK(X:Nat->Prop)(w:World)(s:SC)(cs:List Dt)(a:List (List BL)×At)(D:List (ND×Nat))(m:SN):Prop where
 ref:GY X w s cs a D m.status m.found
 trim:m.status≠3->CB cs.length D=m.way
 len:D.length<=1+m.tries
 next:∀x∈D,x.2<=cs.length
theorem BK.ext{s:SC}{D:Ln}(h:BK X w s cs a D m)(e:Ao w w'):BK X w' s cs a D m:=⟨h.ref.ext e,h.trim,h.len,h.next⟩
theorem BK.keep{s:SC}{D:Ln}(h:BK X w s cs a D m)(c:Ad S w w')(b:DC S w):BK X w' s cs a D m:=⟨h.ref.keep c b,h.trim,h.len,h.next⟩
def SC.cells(s:SC)(cl al nl wl:Nat)(st tr:Int):Av:=#[.slice s.la cl s.lc,.slice s.aa al s.ac,.slice s.na nl s.nc,.slice s.da wl s.dc,.int .i64 st,.int .i64 tr,.slice s.f0a s.f0l s.f0c,.slice s.f1a s.f1l s.f1c,.slice s.f2a s.f2l s.f2c,.slice s.f3a s.f3l s.f3c,.int .i64 s.f4]
theorem K7{a:Av}{c:Nat×Nat}(d:w.heap[b]?=some (.cells a 154 c)):DC (only b) w:=fun k e=>by
 have:k=b:=e;subst this;exact⟨_,_,_,d,by simp[HZ]⟩
theorem BK.tried{s:SC}{n:ND}{L T:Nat}(p:m.way=(n,k)::r)(e:cs[k]?=some c)(h0:m.status=0)(g:∀x∈r,x.2<=cs.length)(hl:r.length+1<=1+m.tries)
  (h:GY X w s cs a (Cn n c k r) (Cl n c k) (Ax n c k).1):BK X w s cs a (Cn n c k r) (AQ cs m):=by
 obtain⟨i,j,l,o⟩:=EW p e h0;have f:=(Qa.1 e).1;refine⟨⟨h.cls,h.ask,h.dues,fun d=> ?_,h.xok⟩,fun _=>i.symm,?_,?_⟩
 ·rw[j]at d;rw[o d];exact h.found d
 ·rw[l];unfold Cn;split<;>simp<;>omega
 ·intro x b;unfold Cn at b;split at b
  ·rcases Qp.1 b with rfl|b
   ·exact Qm _
   ·rcases Qp.1 b with rfl|b
    ·exact f
    ·exact g x b
  ·rcases Qp.1 b with rfl|b
   ·exact f
   ·exact g x b
theorem Kk{z y x u s q p n m k j:Value}(h:w.heap[b]?=some (.cells #[z,y,x,u,s,q,p,n,m,k,j] t (0,0)))(a c d e f g i l o r v:Value):(((((((((((w.setCell ⟨b,0,none⟩ a).setCell ⟨b,1,none⟩ c).setCell ⟨b,2,none⟩ d).setCell ⟨b,3,none⟩ e).setCell ⟨b,4,none⟩ f).setCell ⟨b,5,none⟩ g).setCell ⟨b,6,none⟩ i).setCell ⟨b,7,none⟩ l).setCell ⟨b,8,none⟩ o).setCell ⟨b,9,none⟩ r).setCell ⟨b,10,none⟩ v).heap[b]?=some (.cells #[a,c,d,e,f,g,i,l,o,r,v] t (0,0)):=by
 have h0:(w.setCell ⟨b,0,none⟩ a).heap[b]?=some (.cells #[a,y,x,u,s,q,p,n,m,k,j] t (0,0)):=Af h 0 _;have A:((w.setCell ⟨b,0,none⟩ a).setCell ⟨b,1,none⟩ c).heap[b]?=some (.cells #[a,c,x,u,s,q,p,n,m,k,j] t (0,0)):=Af h0 1 _;have C:(((w.setCell ⟨b,0,none⟩ a).setCell ⟨b,1,none⟩ c).setCell ⟨b,2,none⟩ d).heap[b]?=some (.cells #[a,c,d,u,s,q,p,n,m,k,j] t (0,0)):=Af A 2 _;have D:((((w.setCell ⟨b,0,none⟩ a).setCell ⟨b,1,none⟩ c).setCell ⟨b,2,none⟩ d).setCell ⟨b,3,none⟩ e).heap[b]?=some (.cells #[a,c,d,e,s,q,p,n,m,k,j] t (0,0)):=Af C 3 _;have E:(((((w.setCell ⟨b,0,none⟩ a).setCell ⟨b,1,none⟩ c).setCell ⟨b,2,none⟩ d).setCell ⟨b,3,none⟩ e).setCell ⟨b,4,none⟩ f).heap[b]?=some (.cells #[a,c,d,e,f,q,p,n,m,k,j] t (0,0)):=Af D 4 _;have F:((((((w.setCell ⟨b,0,none⟩ a).setCell ⟨b,1,none⟩ c).setCell ⟨b,2,none⟩ d).setCell ⟨b,3,none⟩ e).setCell ⟨b,4,none⟩ f).setCell ⟨b,5,none⟩ g).heap[b]?=some (.cells #[a,c,d,e,f,g,p,n,m,k,j] t (0,0)):=Af E 5 _;have G:(((((((w.setCell ⟨b,0,none⟩ a).setCell ⟨b,1,none⟩ c).setCell ⟨b,2,none⟩ d).setCell ⟨b,3,none⟩ e).setCell ⟨b,4,none⟩ f).setCell ⟨b,5,none⟩ g).setCell ⟨b,6,none⟩ i).heap[b]?=some (.cells #[a,c,d,e,f,g,i,n,m,k,j] t (0,0)):=Af F 6 _;have H:((((((((w.setCell ⟨b,0,none⟩ a).setCell ⟨b,1,none⟩ c).setCell ⟨b,2,none⟩ d).setCell ⟨b,3,none⟩ e).setCell ⟨b,4,none⟩ f).setCell ⟨b,5,none⟩ g).setCell ⟨b,6,none⟩ i).setCell ⟨b,7,none⟩ l).heap[b]?=some (.cells #[a,c,d,e,f,g,i,l,m,k,j] t (0,0)):=Af G 7 _;have I:(((((((((w.setCell ⟨b,0,none⟩ a).setCell ⟨b,1,none⟩ c).setCell ⟨b,2,none⟩ d).setCell ⟨b,3,none⟩ e).setCell ⟨b,4,none⟩ f).setCell ⟨b,5,none⟩ g).setCell ⟨b,6,none⟩ i).setCell ⟨b,7,none⟩ l).setCell ⟨b,8,none⟩ o).heap[b]?=some (.cells #[a,c,d,e,f,g,i,l,o,k,j] t (0,0)):=Af H 8 _;have J:((((((((((w.setCell ⟨b,0,none⟩ a).setCell ⟨b,1,none⟩ c).setCell ⟨b,2,none⟩ d).setCell ⟨b,3,none⟩ e).setCell ⟨b,4,none⟩ f).setCell ⟨b,5,none⟩ g).setCell ⟨b,6,none⟩ i).setCell ⟨b,7,none⟩ l).setCell ⟨b,8,none⟩ o).setCell ⟨b,9,none⟩ r).heap[b]?=some (.cells #[a,c,d,e,f,g,i,l,o,r,j] t (0,0)):=Af I 9 _;have B:(((((((((((w.setCell ⟨b,0,none⟩ a).setCell ⟨b,1,none⟩ c).setCell ⟨b,2,none⟩ d).setCell ⟨b,3,none⟩ e).setCell ⟨b,4,none⟩ f).setCell ⟨b,5,none⟩ g).setCell ⟨b,6,none⟩ i).setCell ⟨b,7,none⟩ l).setCell ⟨b,8,none⟩ o).setCell ⟨b,9,none⟩ r).setCell ⟨b,10,none⟩ v).heap[b]?=some (.cells #[a,c,d,e,f,g,i,l,o,r,v] t (0,0)):=Af J 10 _;exact B
theorem MC(n:ND)(c:Dt)(k:Nat):Cl n c k≠2:=by
 unfold Cl;split
 ·omega
 ·split<;>omega
theorem Cb{s:SN}(h:n=0\/s.status≠0\/s.way=[]\/3000<=s.tries):CR cs n s=(s,0):=by
 cases n with
 |zero=>rfl
 |succ n=>
  unfold CR;rw[if_neg];rintro⟨a,b,c⟩;rcases h with h|h|h|h
  ·omega
  ·exact h a
  ·exact b h
  ·omega
theorem Pm{s:SN}(a:s.status=0)(b:s.way≠[])(c:s.tries<3000):CR cs (n+1) s=((CR cs n (AQ cs s)).1,(CR cs n (AQ cs s)).2+1):=by
 rw[CR,if_pos ⟨a,b,c⟩]
theorem E8{j:Nat}{a:SN}(h:m.status≠2/\m.status≠3)(hl:CR cs n {m with status:=0}=((CR cs (n-j) a).1,(CR cs (n-j) a).2+j))(b:CR cs (n-j) a=(a,0)):Fl cs n m=(Dy a,j):=by
 unfold Fl;rw[if_neg Yo,hl,b];simp
theorem BK.end_ne{s:SC}{D:Ln}(h:BK X w s cs a D m)(h0:m.status≠0):BK X w s cs a D (Dy m)/\(Dy m).status=m.status/\(Dy m).tries=m.tries:=by
 unfold Dy;split
 ·rename_i c;exact⟨⟨⟨h.ref.cls,h.ref.ask,h.ref.dues,fun b=>by simp[FG]at b,h.ref.xok⟩,fun h=>absurd rfl h,h.len,h.next⟩,c.symm,rfl⟩
 ·exact⟨h,rfl,rfl⟩
theorem BK.end_no{s:SC}{D:Ln}(h:BK X w s cs a D m)(h0:m.status=0)(c:m.way=[]):BK X w s cs a D (Dy m)/\(Dy m).status=2/\(Dy m).tries=m.tries:=by
 have e:Dy m={m with status:=2}:=by unfold Dy;rw[if_neg Yo,if_pos h0,if_pos c]
 rw[e];exact⟨⟨⟨h.ref.cls,h.ref.ask,h.ref.dues,fun b=>by simp at b,h.ref.xok⟩,fun _=>h.trim Yo,h.len,h.next⟩,rfl,rfl⟩
theorem BK.end_full{s:SC}{D:Ln}(h:BK X w s cs a D m)(h0:m.status=0)(d:m.way≠[])(c:3000<=m.tries):BK X w s cs a D (Dy m)/\(Dy m).status=3/\(Dy m).tries=m.tries:=by
 have e:Dy m=FG m:=by unfold Dy;rw[if_neg Yo,if_pos h0,if_neg d,if_pos c]
 rw[e];exact⟨⟨⟨h.ref.cls,h.ref.ask,h.ref.dues,fun b=>by simp[FG]at b,h.ref.xok⟩,fun h=>absurd rfl h,h.len,h.next⟩,rfl,rfl⟩
theorem BK.end_on{s:SC}{D:Ln}(h:BK X w s cs a D m)(h0:m.status=0)(c:m.way≠[])(b:¬3000<=m.tries):BK X w s cs a D (Dy m)/\(Dy m).status=0/\(Dy m).tries=m.tries:=by
 have e:Dy m=m:=by unfold Dy;rw[if_neg Yo,if_pos h0,if_neg c,if_neg b]
 rw[e];exact⟨h,h0,rfl⟩
def Ka(X:Np)(w:World)(cs:Lc)(a:Ll×At)(m:SN)(n:Nat)(e:Ending)(w':World):Prop:=∃(s':SC)(D':Ln),e= .returned (.tuple #[s'.val cs.length a.1.length a.2.length D'.length (Fl cs n m).1.status (Fl cs n m).1.tries,.int .i64 (Fl cs n m).2,.int .i64 0])/\Ao w w'/\BK X w' s' cs a D' (Fl cs n m).1
set_option maxRecDepth 20000 in
theorem Rf(w:World)(s:SC)(cs:Lc)(a:Ll×At)(D:Ln)(m:SN)(n:Nat)(h:BK X w s cs a D m)(ax:DG cs a m)(dd:∀c∈cs,Kl c/\QU c)(db:cs.length<=24)(hn:n<=3000)(bj:m.status≠2/\m.status≠3):
  Calls prog 89 #[s.val cs.length a.1.length a.2.length D.length m.status m.tries,Vi n] w (Ka X w cs a m n):=by
 obtain⟨H6,di⟩:∃x,x=m.status:=⟨_,rfl⟩;obtain⟨dy,b0⟩:∃x,x=m.tries:=⟨_,rfl⟩;have ep:((H6:Int)==2)=false:=by rw[Qu];omega
 have eq:((H6:Int)==3)=false:=by rw[Qu];omega
 have a1:Hd (m.status≠2/\m.status≠3):=bj;have c9:BK X w s cs a D {m with status:=0}:=⟨⟨h.ref.cls,h.ref.ask,h.ref.dues,fun a3=>by simp at a3,h.ref.xok⟩,fun _=>h.trim bj.2,h.len,h.next⟩;have c7:=ax.seek bj.2;rw[<-di,<-b0];have ek:=ax.tries;have cg:=hd b0;clear di b0 h ax;obtain⟨bg,a7⟩:=Ex ((w.alloc (.cells (s.cells cs.length a.1.length a.2.length D.length 0 dy) 154)).alloc (.cells #[Nl,Nl,Nl,Nl,Vi 0,Vi 0,Nl,Nl,Nl,Nl,Vi 0] 154));have bp:Ao w bg:=by rw[a7];exact Mxt
 have es:bg.hz=w.hz+2:=by rw[a7];simp
 have c3:bg.heap[w.hz]?=some (.cells (s.cells cs.length a.1.length a.2.length D.length 0 dy) 154 (0,0)):=by rw[a7];exact heap_alloc2_old w _ _
 have c4:bg.heap[w.hz+1]?=some (.cells #[Nl,Nl,Nl,Nl,Vi 0,Vi 0,Nl,Nl,Nl,Nl,Vi 0] 154 (0,0)):=by rw[a7];exact heap_alloc2_new w _ _
 have cc:=hd (c9.ext bp);have b8:=hd c3;have b9:=hd c4;have ca:=hd bp;have cb:=hd c7;have cd:=hd a7;have d3:=hd dd;clear bp c3 c4 a7 c9 c7 dd bj;obtain⟨la,lc,aa,ac,na,nc,da,dc,f0a,f0l,f0c,f1a,f1l,f1c,f2a,f2l,f2c,f3a,f3l,f3c,f4⟩:=s;simp only[SC.val,SC.cells]at*;go_enter func89,ev;go_wp2;rw[<-cd.o]
 go_loopg [7] (n+1) (fun gk ef wr=>∃(j:Nat)(du:SC)(b:Ln)(d:SN),ef=Vi j/\j<=n/\n-j<gk/\Ao w wr/\wr.heap[w.hz]?=some (.cells (du.cells cs.length a.1.length a.2.length b.length d.status d.tries) 154 (0,0))/\wr.heap[w.hz+1]?=some (.cells #[Nl,Nl,Nl,Nl,Vi 0,Vi 0,Nl,Nl,Nl,Nl,Vi 0] 154 (0,0))/\BK X wr du cs a b d/\DG cs a d/\CR cs n {m with status:=0}=((CR cs (n-j) d).1,(CR cs (n-j) d).2+j)/\d.status≠2)
 case atStart=>exact⟨0,⟨la,lc,aa,ac,na,nc,da,dc,f0a,f0l,f0c,f1a,f1l,f1c,f2a,f2l,f2c,f3a,f3l,f3c,f4⟩,D,{m with status:=0},Yg,Yo,Yo,ca.o,by rw[<-cg.o];exact b8.o,b9.o,cc.o,cb.o,Ys,Ys⟩
 case round=>
  clear b8 b9 ca cc cb cd cg;obtain⟨j,⟨la,lc,aa,ac,na,nc,da,dc,f0a,f0l,f0c,f1a,f1l,f1c,f2a,f2l,f2c,f3a,f3l,f3c,f4⟩,b,d,rfl,em,el,bh,hb,hz,bi,ax,de,ed⟩:=hrel;obtain⟨st,p⟩:∃x,x=d.status:=⟨_,rfl⟩;obtain⟨f,bz⟩:∃x,x=d.tries:=⟨_,rfl⟩;have ee:=ax.st;have d8:=ax.tries;have ea:=bi.len;have dh:=bi.next;rw[<-p,<-bz]at hb;simp only[SC.cells]at hb;obtain⟨G,b1,b2,I,J,K,M,N,O,P,H,Q⟩:=Dz hb;obtain⟨Z,ab,ae,af,ag,ah,ai,aj,ak,al,ad,am⟩:=Dz hz;have aw:w.hz+1<wr.hz:=Ab hz;have l:Hd (st=d.status/\f=d.tries):=⟨p,bz⟩;have eu:st=0\/st=1\/st=3:=Yo
  have ay:f<=3000:=Yo
  have c6:b.length<=4000:=Yo
  have V:=hd bh;have bd:=hd hb;have bf:=hd hz;have t:=hd bi;have aq:=hd ax;have y:=hd de;have av:=hd dh;clear bh hb hz bi ax de ed p bz ee d8 ea dh
  by_cases bu:st=0
  ·subst bu;have bs:d.status=0:=l.o.1.symm;have an:=hd bs;obtain⟨a5,dp⟩:∃x,x=d.way.length:=⟨_,rfl⟩;have a2:=hd dp;obtain⟨eh,c5⟩:=t.o.ref.dues;have b4:=t.o.trim (by rw[bs];decide);have bb:Hd (∀u,Ao wr u->Calls prog 112 #[.agg #[.slice la cs.length lc,.slice aa a.1.length ac,.slice na a.2.length nc,.slice da b.length dc,Vi 0,Vi f,.slice f0a f0l f0c,.slice f1a f1l f1c,.slice f2a f2l f2c,.slice f3a f3l f3c,Vi f4]] u fun e d0=>∃ta bl,e= .returned (.slice ta a5 bl)/\Ao u d0):=fun u b5=>(J9 u X la cs.length lc aa a.1.length ac na a.2.length nc (.slice da b.length dc) 0 f f0a f0l f0c f1a f1l f1c f2a f2l f2c f3a f3l f3c f4 b eh (c5.ext (Y:=X) (B':=0) b5 (fun _ _ h=>h) (Qe _)) c6 (fun x ba=>Qq (av.o x ba) Yo) Yo).mono (by
    rintro e d0 ⟨ei,ew,rfl,bh,ec⟩;obtain⟨ta,bl,rfl⟩:=Ac ec.owns;exact⟨ta,bl,by rw[b4,Qv,<-a2.o],bh⟩)
   have ch:=hd b4;clear bs dp c5 b4
   by_cases eb:j<n
   ·by_cases au:f<3000
    ·have d9:(f:Int)<3000:=Yo
     have bm:=hd au;clear au ay;go_wp2_with fail;apply(bb.o _ (Ao.of (Ad.refl _ _))).mono;rintro e w5 ⟨ta,bl,rfl,a8⟩;have et:=a8.size;have bt:=(a8.block _ Yo).trans bd.o;have dn:=(a8.block _ aw).trans bf.o;obtain⟨G,b1,b2,I,J,K,M,N,O,P,H,Q⟩:=Dz bt;have er:w.hz+1<w5.hz:=Yo
     have a0:=hd a8;have ce:=hd bt;have ci:=hd dn;clear a8 bt dn Z ab ae af ag ah ai aj ak al ad am
     by_cases W:a5=0
     ·have az:d.way=[]:=List.eq_nil_of_length_eq_zero (by rw[<-a2.o];exact W);have a6:=hd az;clear az;subst W;go_wp2_with fail;apply(bb.o _ a0.o).mono;rintro e A ⟨dw,dx,rfl,g⟩;have bw:=g.size;have z:=(g.block _ Yo).trans ce.o;have F:=(g.block _ Yo).trans ci.o;obtain⟨G,b1,b2,I,J,K,M,N,O,P,H,Q⟩:=Dz z;obtain⟨Z,ab,ae,af,ag,ah,ai,aj,ak,al,ad,am⟩:=Dz F;have dg:w.hz+1<A.hz:=Yo
      have B:=hd ((V.o.trans (a0.o.mono V.o.size)).trans (g.mono (V.o.trans (a0.o.mono V.o.size)).size));have C:=hd (t.o.ext (a0.o.trans (g.mono a0.o.size)));have ao:=hd z;have ar:=hd F;clear g z F;have E:Hd (∀w',Ad (fun k=>w.hz<=k/\k<=w.hz+1) A w'->Ka X w cs a m n (Rq #[.agg #[.slice la cs.length lc,.slice aa a.1.length ac,.slice na a.2.length nc,.slice da b.length dc,Vi 2,Vi f,.slice f0a f0l f0c,.slice f1a f1l f1c,.slice f2a f2l f2c,.slice f3a f3l f3c,Vi f4],Vi j,Vi 0]) w'):=fun w' q=>by
       have p:=E8 (n:=n) (j:=j) a1.o y.o (Cb (Or.inr (Or.inr (Or.inl a6.o))));obtain⟨R,S,U⟩:=C.o.end_no an.o a6.o;refine⟨⟨la,lc,aa,ac,na,nc,da,dc,f0a,f0l,f0c,f1a,f1l,f1c,f2a,f2l,f2c,f3a,f3l,f3c,f4⟩,b,?_,?_,?_⟩
       ·rw[p];simp only[S,U,SC.val];rw[<-l.o.2];try rfl
       ·exact B.o.trans (q.below B.o.size (fun _ h=>h.1))
       ·rw[p];exact R.keep q (DR ao.o ar.o)
      clear t aq y av l C
      try clear au
      try clear ay
      go_wp2;refine bodyPost_ret (v:= .tuple #[.agg #[.slice la cs.length lc,.slice aa a.1.length ac,.slice na a.2.length nc,.slice da b.length dc,Vi 2,Vi f,.slice f0a f0l f0c,.slice f1a f1l f1c,.slice f2a f2l f2c,.slice f3a f3l f3c,Vi f4],Vi j,Vi 0]) (by simp[results,results89,go_sem,Z,ab,ae,af,ag,ah,ai,aj,ak,al,ad,am,G,b1,b2,I,J,K,M,N,O,P,H,Q,aw]) rfl ?_;exact E.o _ Mst
     ·have dm:((a5:Int)==0)=false:=by rw[Qu];omega
      have b6:d.way≠[]:=fun e=>W (by rw[a2.o,e];rfl);obtain⟨ap,k,r,c,a4,a9,dk⟩:=aq.o.head b6;have be:=hd (Ty w5 ⟨la,lc,aa,ac,na,nc,da,dc,f0a,f0l,f0c,f1a,f1l,f1c,f2a,f2l,f2c,f3a,f3l,f3c,f4⟩ cs a b f d.found ap k r c (by have:=t.o.ref.ext a0.o;rw[an.o]at this;exact this) d3.o db (by rw[ch.o,a4]) a9 dk c6 (fun x ba=>Qq (av.o x ba) Yo) (Qq (Nat.le_of_lt bm.o) Yd));obtain⟨d6,bo,co,d7⟩:=EW a4 a9 an.o;have df:r.length+1<=1+d.tries:=by
       have a3:=MZ cs.length b;rw[ch.o,a4]at a3;have ej:=t.o.len;simp at a3;omega
      have cf:Hd (∀u b7,GY X u b7 cs a (Cn ap c k r) (Cl ap c k) (Ax ap c k).1->BK X u b7 cs a (Cn ap c k r) (AQ cs d)):=fun u b7 b5=>BK.tried (L:=0) (T:=0) a4 a9 an.o (fun x ba=>(aq.o.way x (by rw[a4];simp[ba])).2.2.1) df b5;have d4:Hd (DG cs a (AQ cs d)):=aq.o.try' db an.o a4 a9 (by rw[<-l.o.2];exact bm.o);have bn:Hd ((AQ cs d).status=Cl ap c k/\(AQ cs d).tries=f+1/\(AQ cs d).status≠2):=⟨bo,by rw[co,<-l.o.2],by rw[bo];exact MC _ _ _⟩;have d5:Hd (CR cs n {m with status:=0}=((CR cs (n-(j+1)) (AQ cs d)).1,(CR cs (n-(j+1)) (AQ cs d)).2+(j+1))):=by
       have a3:=y.o;rw[show n-j=(n-(j+1))+1 by omega,Pm an.o b6 (by rw[<-l.o.2];exact bm.o)]at a3;show _=_;rw[a3];simp;omega
      clear d6 bo co d7 df a4 a9 dk b6 W;simp only[SC.val]at be;go_wp2_with fail;unfold Gc at be;apply be.o.mono;obtain⟨dz,b3⟩:∃x:Nat,x=f+1:=⟨_,rfl⟩;obtain⟨dv,bx⟩:∃x:Nat,x=Cl ap c k:=⟨_,rfl⟩;obtain⟨cj,br⟩:∃x:Nat,x=(Cn ap c k r).length:=⟨_,rfl⟩;have bc:Hd (dz=f+1/\dv=Cl ap c k/\cj=(Cn ap c k r).length):=⟨b3,bx,br⟩;rw[<-b3,<-bx,<-br];clear b3 bx br;rintro e A ⟨eg,rfl,g,c8⟩;obtain⟨dq,dr,ck,cl,ds,dt,cm,cn,cp,cr,cq,ct,cv,cu,cw,cy,cx,cz,c1,c0,c2⟩:=eg;have bw:=g.size;have z:=(g.block _ Yo).trans ce.o;have F:=(g.block _ Yo).trans ci.o;obtain⟨G,b1,b2,I,J,K,M,N,O,P,H,Q⟩:=Dz z;have d1:=hd g;have ao:=hd z;have ar:=hd F;have d2:=hd (cf.o _ _ (by rw[<-bc.o.2.1];exact c8));clear g z F c8 cf be;simp only[SC.val];go_wp2
      go_roundg (n-j)
      case measure=>omega
      case rel=>
       have bq:Ad (only w.hz) A _:=(((((((((((Ad.refl (only w.hz) A).put 0 (.slice dq cs.length dr)).put 1 (.slice ck a.1.length cl)).put 2 (.slice ds a.2.length dt)).put 3 (.slice cm cj cn)).put 4 (Vi dv)).put 5 (Vi dz)).put 6 (.slice cp cr cq)).put 7 (.slice ct cv cu)).put 8 (.slice cw cy cx)).put 9 (.slice cz c1 c0)).put 10 (Vi c2);have dl:Ao w A:=(V.o.trans (a0.o.mono V.o.size)).trans (d1.o.mono Yo);refine⟨j+1,⟨dq,dr,ck,cl,ds,dt,cm,cn,cp,cr,cq,ct,cv,cu,cw,cy,cx,cz,c1,c0,c2⟩,Cn ap c k r,AQ cs d,Yg,Yo,Yo,dl.trans (bq.below dl.size (fun i hi=>by have:i=w.hz:=hi;omega)),?_,?_,d2.o.keep bq (K7 ao.o),d4.o,d5.o,bn.o.2.2⟩
       ·rw[bn.o.1,bn.o.2.1,<-bc.o.1,<-bc.o.2.1,<-bc.o.2.2];exact Kk ao.o _ _ _ _ _ _ _ _ _ _ _
       ·exact(bq.block _ Yo (fun e=>by have:w.hz+1=w.hz:=e;omega)).trans ar.o
    ·have dj:(3000:Int)<=(f:Int):=Yo
     have d9:¬(f:Int)<3000:=Yo
     clear au ay;go_wp2_with fail;apply(bb.o _ (Ao.of (Ad.refl _ _))).mono;rintro e A ⟨dw,dx,rfl,g⟩;have bw:=g.size;have z:=(g.block _ Yo).trans bd.o;have F:=(g.block _ Yo).trans bf.o;obtain⟨G,b1,b2,I,J,K,M,N,O,P,H,Q⟩:=Dz z;obtain⟨Z,ab,ae,af,ag,ah,ai,aj,ak,al,ad,am⟩:=Dz F;have dg:w.hz+1<A.hz:=Yo
     have B:=hd (V.o.trans (g.mono V.o.size));have C:=hd (t.o.ext (g));have ao:=hd z;have ar:=hd F;clear g z F
     by_cases W:a5=0
     ·have az:d.way=[]:=List.eq_nil_of_length_eq_zero (by rw[<-a2.o];exact W);have a6:=hd az;clear az;subst W;have E:Hd (∀w',Ad (fun k=>w.hz<=k/\k<=w.hz+1) A w'->Ka X w cs a m n (Rq #[.agg #[.slice la cs.length lc,.slice aa a.1.length ac,.slice na a.2.length nc,.slice da b.length dc,Vi 2,Vi f,.slice f0a f0l f0c,.slice f1a f1l f1c,.slice f2a f2l f2c,.slice f3a f3l f3c,Vi f4],Vi j,Vi 0]) w'):=fun w' q=>by
       have p:=E8 (n:=n) (j:=j) a1.o y.o (Cb (Or.inr (Or.inr (Or.inr (by rw[<-l.o.2];omega)))));obtain⟨R,S,U⟩:=C.o.end_no an.o a6.o;refine⟨⟨la,lc,aa,ac,na,nc,da,dc,f0a,f0l,f0c,f1a,f1l,f1c,f2a,f2l,f2c,f3a,f3l,f3c,f4⟩,b,?_,?_,?_⟩
       ·rw[p];simp only[S,U,SC.val];rw[<-l.o.2];try rfl
       ·exact B.o.trans (q.below B.o.size (fun _ h=>h.1))
       ·rw[p];exact R.keep q (DR ao.o ar.o)
      clear t aq y av l C
      try clear au
      try clear ay
      go_wp2;refine bodyPost_ret (v:= .tuple #[.agg #[.slice la cs.length lc,.slice aa a.1.length ac,.slice na a.2.length nc,.slice da b.length dc,Vi 2,Vi f,.slice f0a f0l f0c,.slice f1a f1l f1c,.slice f2a f2l f2c,.slice f3a f3l f3c,Vi f4],Vi j,Vi 0]) (by simp[results,results89,go_sem,Z,ab,ae,af,ag,ah,ai,aj,ak,al,ad,am,G,b1,b2,I,J,K,M,N,O,P,H,Q,aw]) rfl ?_;exact E.o _ Mst
     ·have dm:((a5:Int)==0)=false:=by rw[Qu];omega
      have bk:d.way≠[]:=fun e=>W (by rw[a2.o,e];rfl);have E:Hd (∀w',Ad (fun k=>w.hz<=k/\k<=w.hz+1) A w'->Ka X w cs a m n (Rq #[.agg #[.slice la cs.length lc,.slice aa a.1.length ac,.slice na a.2.length nc,.slice da b.length dc,Vi 3,Vi f,.slice f0a f0l f0c,.slice f1a f1l f1c,.slice f2a f2l f2c,.slice f3a f3l f3c,Vi f4],Vi j,Vi 0]) w'):=fun w' q=>by
       have p:=E8 (n:=n) (j:=j) a1.o y.o (Cb (Or.inr (Or.inr (Or.inr (by rw[<-l.o.2];omega)))));obtain⟨R,S,U⟩:=C.o.end_full an.o bk (by rw[<-l.o.2];omega);refine⟨⟨la,lc,aa,ac,na,nc,da,dc,f0a,f0l,f0c,f1a,f1l,f1c,f2a,f2l,f2c,f3a,f3l,f3c,f4⟩,b,?_,?_,?_⟩
       ·rw[p];simp only[S,U,SC.val];rw[<-l.o.2];try rfl
       ·exact B.o.trans (q.below B.o.size (fun _ h=>h.1))
       ·rw[p];exact R.keep q (DR ao.o ar.o)
      clear t aq y av l C
      try clear au
      try clear ay
      go_wp2;refine bodyPost_ret (v:= .tuple #[.agg #[.slice la cs.length lc,.slice aa a.1.length ac,.slice na a.2.length nc,.slice da b.length dc,Vi 3,Vi f,.slice f0a f0l f0c,.slice f1a f1l f1c,.slice f2a f2l f2c,.slice f3a f3l f3c,Vi f4],Vi j,Vi 0]) (by simp[results,results89,go_sem,Z,ab,ae,af,ag,ah,ai,aj,ak,al,ad,am,G,b1,b2,I,J,K,M,N,O,P,H,Q,aw]) rfl ?_;exact E.o _ Mst
   ·go_wp2_with fail;apply(bb.o _ (Ao.of (Ad.refl _ _))).mono;rintro e A ⟨dw,dx,rfl,g⟩;have bw:=g.size;have z:=(g.block _ Yo).trans bd.o;have F:=(g.block _ Yo).trans bf.o;obtain⟨G,b1,b2,I,J,K,M,N,O,P,H,Q⟩:=Dz z;obtain⟨Z,ab,ae,af,ag,ah,ai,aj,ak,al,ad,am⟩:=Dz F;have dg:w.hz+1<A.hz:=Yo
    have B:=hd (V.o.trans (g.mono V.o.size));have C:=hd (t.o.ext (g));have ao:=hd z;have ar:=hd F;clear g z F
    by_cases W:a5=0
    ·have az:d.way=[]:=List.eq_nil_of_length_eq_zero (by rw[<-a2.o];exact W);have a6:=hd az;clear az;subst W;have E:Hd (∀w',Ad (fun k=>w.hz<=k/\k<=w.hz+1) A w'->Ka X w cs a m n (Rq #[.agg #[.slice la cs.length lc,.slice aa a.1.length ac,.slice na a.2.length nc,.slice da b.length dc,Vi 2,Vi f,.slice f0a f0l f0c,.slice f1a f1l f1c,.slice f2a f2l f2c,.slice f3a f3l f3c,Vi f4],Vi j,Vi 0]) w'):=fun w' q=>by
      have p:=E8 (n:=n) (j:=j) a1.o y.o (Cb (Or.inl Yo));obtain⟨R,S,U⟩:=C.o.end_no an.o a6.o;refine⟨⟨la,lc,aa,ac,na,nc,da,dc,f0a,f0l,f0c,f1a,f1l,f1c,f2a,f2l,f2c,f3a,f3l,f3c,f4⟩,b,?_,?_,?_⟩
      ·rw[p];simp only[S,U,SC.val];rw[<-l.o.2];try rfl
      ·exact B.o.trans (q.below B.o.size (fun _ h=>h.1))
      ·rw[p];exact R.keep q (DR ao.o ar.o)
     clear t aq y av l C
     try clear au
     try clear ay
     go_wp2;refine bodyPost_ret (v:= .tuple #[.agg #[.slice la cs.length lc,.slice aa a.1.length ac,.slice na a.2.length nc,.slice da b.length dc,Vi 2,Vi f,.slice f0a f0l f0c,.slice f1a f1l f1c,.slice f2a f2l f2c,.slice f3a f3l f3c,Vi f4],Vi j,Vi 0]) (by simp[results,results89,go_sem,Z,ab,ae,af,ag,ah,ai,aj,ak,al,ad,am,G,b1,b2,I,J,K,M,N,O,P,H,Q,aw]) rfl ?_;exact E.o _ Mst
    ·have dm:((a5:Int)==0)=false:=by rw[Qu];omega
     have bk:d.way≠[]:=fun e=>W (by rw[a2.o,e];rfl)
     by_cases au:3000<=f
     ·have dj:(3000:Int)<=(f:Int):=Yo
      have E:Hd (∀w',Ad (fun k=>w.hz<=k/\k<=w.hz+1) A w'->Ka X w cs a m n (Rq #[.agg #[.slice la cs.length lc,.slice aa a.1.length ac,.slice na a.2.length nc,.slice da b.length dc,Vi 3,Vi f,.slice f0a f0l f0c,.slice f1a f1l f1c,.slice f2a f2l f2c,.slice f3a f3l f3c,Vi f4],Vi j,Vi 0]) w'):=fun w' q=>by
       have p:=E8 (n:=n) (j:=j) a1.o y.o (Cb (Or.inl Yo));obtain⟨R,S,U⟩:=C.o.end_full an.o bk (by rw[<-l.o.2];omega);refine⟨⟨la,lc,aa,ac,na,nc,da,dc,f0a,f0l,f0c,f1a,f1l,f1c,f2a,f2l,f2c,f3a,f3l,f3c,f4⟩,b,?_,?_,?_⟩
       ·rw[p];simp only[S,U,SC.val];rw[<-l.o.2];try rfl
       ·exact B.o.trans (q.below B.o.size (fun _ h=>h.1))
       ·rw[p];exact R.keep q (DR ao.o ar.o)
      clear t aq y av l C
      try clear au
      try clear ay
      go_wp2;refine bodyPost_ret (v:= .tuple #[.agg #[.slice la cs.length lc,.slice aa a.1.length ac,.slice na a.2.length nc,.slice da b.length dc,Vi 3,Vi f,.slice f0a f0l f0c,.slice f1a f1l f1c,.slice f2a f2l f2c,.slice f3a f3l f3c,Vi f4],Vi j,Vi 0]) (by simp[results,results89,go_sem,Z,ab,ae,af,ag,ah,ai,aj,ak,al,ad,am,G,b1,b2,I,J,K,M,N,O,P,H,Q,aw]) rfl ?_;exact E.o _ Mst
     ·have dj:¬(3000:Int)<=(f:Int):=Yo
      have E:Hd (∀w',Ad (fun k=>w.hz<=k/\k<=w.hz+1) A w'->Ka X w cs a m n (Rq #[.agg #[.slice la cs.length lc,.slice aa a.1.length ac,.slice na a.2.length nc,.slice da b.length dc,Vi 0,Vi f,.slice f0a f0l f0c,.slice f1a f1l f1c,.slice f2a f2l f2c,.slice f3a f3l f3c,Vi f4],Vi j,Vi 0]) w'):=fun w' q=>by
       have p:=E8 (n:=n) (j:=j) a1.o y.o (Cb (Or.inl Yo));obtain⟨R,S,U⟩:=C.o.end_on an.o bk (by rw[<-l.o.2];omega);refine⟨⟨la,lc,aa,ac,na,nc,da,dc,f0a,f0l,f0c,f1a,f1l,f1c,f2a,f2l,f2c,f3a,f3l,f3c,f4⟩,b,?_,?_,?_⟩
       ·rw[p];simp only[S,U,SC.val];rw[<-l.o.2];try rfl
       ·exact B.o.trans (q.below B.o.size (fun _ h=>h.1))
       ·rw[p];exact R.keep q (DR ao.o ar.o)
      clear t aq y av l C
      try clear au
      try clear ay
      go_wp2;refine bodyPost_ret (v:= .tuple #[.agg #[.slice la cs.length lc,.slice aa a.1.length ac,.slice na a.2.length nc,.slice da b.length dc,Vi 0,Vi f,.slice f0a f0l f0c,.slice f1a f1l f1c,.slice f2a f2l f2c,.slice f3a f3l f3c,Vi f4],Vi j,Vi 0]) (by simp[results,results89,go_sem,Z,ab,ae,af,ag,ah,ai,aj,ak,al,ad,am,G,b1,b2,I,J,K,M,N,O,P,H,Q,aw]) rfl ?_;exact E.o _ Mst
  ·have en:((st:Int)==0)=false:=by rw[Qu];omega
   have eo:((st:Int) !=0)=true:=by rw[bne_iff_ne];omega
   have bv:d.status≠0:=by rw[<-l.o.1];exact bu
   have E:Hd (∀w',Ad (fun k=>w.hz<=k/\k<=w.hz+1) wr w'->Ka X w cs a m n (Rq #[.agg #[.slice la cs.length lc,.slice aa a.1.length ac,.slice na a.2.length nc,.slice da b.length dc,Vi st,Vi f,.slice f0a f0l f0c,.slice f1a f1l f1c,.slice f2a f2l f2c,.slice f3a f3l f3c,Vi f4],Vi j,Vi 0]) w'):=fun w' q=>by
    have p:=E8 (n:=n) (j:=j) a1.o y.o (Cb (Or.inr (Or.inl bv)));obtain⟨R,S,U⟩:=(t.o.end_ne bv);refine⟨⟨la,lc,aa,ac,na,nc,da,dc,f0a,f0l,f0c,f1a,f1l,f1c,f2a,f2l,f2c,f3a,f3l,f3c,f4⟩,b,?_,?_,?_⟩
    ·rw[p];simp only[S,U,SC.val];rw[<-l.o.1,<-l.o.2];try rfl
    ·exact V.o.trans (q.below V.o.size (fun _ h=>h.1))
    ·rw[p];exact R.keep q (DR bd.o bf.o)
   clear bu bv t aq y av l
   by_cases eb:j<n
   ·go_wp2;refine bodyPost_ret (v:= .tuple #[.agg #[.slice la cs.length lc,.slice aa a.1.length ac,.slice na a.2.length nc,.slice da b.length dc,Vi st,Vi f,.slice f0a f0l f0c,.slice f1a f1l f1c,.slice f2a f2l f2c,.slice f3a f3l f3c,Vi f4],Vi j,Vi 0]) (by simp[results,results89,go_sem,Z,ab,ae,af,ag,ah,ai,aj,ak,al,ad,am,G,b1,b2,I,J,K,M,N,O,P,H,Q,aw]) rfl ?_;exact E.o _ Mst
   ·go_wp2;refine bodyPost_ret (v:= .tuple #[.agg #[.slice la cs.length lc,.slice aa a.1.length ac,.slice na a.2.length nc,.slice da b.length dc,Vi st,Vi f,.slice f0a f0l f0c,.slice f1a f1l f1c,.slice f2a f2l f2c,.slice f3a f3l f3c,Vi f4],Vi j,Vi 0]) (by simp[results,results89,go_sem,Z,ab,ae,af,ag,ah,ai,aj,ak,al,ad,am,G,b1,b2,I,J,K,M,N,O,P,H,Q,aw]) rfl ?_;exact E.o _ Mst
noncomputable def Hr(m:SN):Nat:=open Classical in if m.way=[]then 2 else if 3000<=m.tries then 3 else 0
theorem WW(w:World)(b:Nat)(x:CX)(cs:Lc)(a:Ll×At)(m:SN)(h:Dj w b x cs a m):
  Calls prog 77 #[Pt b] w fun e w'=>e= .returned (Vi (Hr m))/\w'=w:=by
 have d:=h.box;obtain⟨ca,cc,na,nc,wa,wc,va,vl,vc,fa,fl,fc⟩:=x;simp only[CX.cells]at d;obtain⟨p,b1,b2,n,q,r,s,t,u⟩:=IB d;obtain⟨j,hz⟩:=Ex m.way.length;obtain⟨k,f⟩:∃j,j=m.tries:=⟨_,rfl⟩;rw[<-hz]at b2;rw[<-f]at n;have v:=Ab d
 by_cases i:j=0
 ·have c:Hr m=2:=by unfold Hr;rw[if_pos (List.eq_nil_of_length_eq_zero Yo)]
  rw[c];subst i;clear h d hz f c;go_enter func77,ntmps77;go_wp2;go_ret;exact⟨rfl,rfl⟩
 ·have g:m.way≠[]:=fun e=>i (by rw[hz,e];rfl);have y:((j:Int)==0)=false:=by rw[Qu];omega
  by_cases l:3000<=k
  ·have c:Hr m=3:=by unfold Hr;rw[if_neg g,if_pos Yo]
   have o:(3000:Int)<=(k:Int):=Yo
   rw[c];clear h d hz f c g l i;go_enter func77,ntmps77;go_wp2;go_ret;exact⟨rfl,rfl⟩
  ·have c:Hr m=0:=by unfold Hr;rw[if_neg g,if_neg Yo]
   have o:¬(3000:Int)<=(k:Int):=Yo
   rw[c];clear h d hz f c g l i;go_enter func77,ntmps77;go_wp2;go_ret;exact⟨rfl,rfl⟩
theorem Dj.full{x:CX}(h:Dj w b x cs a m)(c:Ad (only b) w w')(hb:w'.heap[b]?=some (.cells #[.slice x.ca cs.length x.cc,.slice x.na a.2.length x.nc,Nl,Vi m.tries,Vi 3,.slice x.va x.vl x.vc,.slice x.fa x.fl x.fc,.string ⟨#[]⟩] 112 (0,0))):Dj w' b {x with wa:=none,wc:=0} cs a (FG m):=
 h.upd c hb ⟨rfl,rfl,rfl,rfl⟩ ⟨[],Ff.nil _⟩ (fun h=>by simp[FG]at h)
theorem Dj.stat{x:CX}(h:Dj w b x cs a m)(st:Nat)(d:st≠1)(c:Ad (only b) w w')(hb:w'.heap[b]?=some (.cells (x.cells cs.length a.2.length m.way.length m.tries st m.tree) 112 (0,0))):Dj w' b x cs a {m with status:=st}:=
 h.upd c hb ⟨rfl,rfl,rfl,rfl⟩ h.way (fun h=>absurd h d)
theorem SH(h:m.status=0):m={m with status:=0}:=by
 obtain⟨a,b,c,d,e⟩:=m;simp only at h;subst h;rfl
theorem Ws{x c:CX}(h:Es w x c)(hi:i<w.hz)(a:CK b c i):CK b x i:=by
 rcases a with rfl|a
 ·exact Or.inl rfl
 ·rcases h.1 i a with h|h
  ·exact Or.inr h
  ·omega
theorem Sf(w:World)(b:Nat)(x:CX)(cs:Lc)(a:Ll×At)(m:SN)(n:Nat)(h:Dj w b x cs a m)(hn:n<=3000)(c:m.status=2\/m.status=3):
  Calls prog 54 #[Pt b,Vi n] w fun e w'=>e=Rq #[Vi 0,Vi 0]/\w'=w:=by
 have d:=h.box;obtain⟨ca,cc,na,nc,wa,wc,va,vl,vc,fa,fl,fc⟩:=x;simp only[CX.cells]at d;obtain⟨g,b1,b2,i,f,j,k,l,o⟩:=IB d;have p:=Ab d;clear h d;rcases c with c|c
 all_goals
  rw[c]at f;clear c;go_enter func54,ntmps54;go_wp2;go_ret2;exact⟨rfl,rfl⟩
theorem Uh(w:World)(b:Nat)(n:Int)(hn:n<0\/3000<n)(hi: -9223372036854775808<=n/\n<9223372036854775808):
  Calls prog 54 #[Pt b,Vi n] w fun e w'=>e=Rq #[Vi 0,Vi 8]/\w'=w:=by
 by_cases h0:n<0
 ·clear hn;go_enter func54,ntmps54;go_wp2;go_ret2;exact⟨rfl,rfl⟩
 ·have a:3000<n:=Yo
  clear hn;go_enter func54,ntmps54;go_wp2;go_ret2;exact⟨rfl,rfl⟩
set_option maxRecDepth 20000 in
theorem Vb(w:World)(b:Nat)(x:CX)(cs:Lc)(a:Ll×At)(m:SN)(n:Nat)(h:Dj w b x cs a m)(I:DG cs a m)(bg:∀c∈cs,Kl c/\QU c)(be:∀c∈cs,Ma c)(bf:cs.length<=24)(hn:n<=3000)(au:m.status≠2/\m.status≠3):
  Calls prog 54 #[Pt b,Vi n] w fun e w'=>e=Rq #[Vi (Fl cs n m).2,Vi 0]/\∃l,Ad (CK b x) w w'/\Dj w' b l cs a (Fl cs n m).1/\NE w x l m (Fl cs n m).1:=by
 obtain⟨H6,bj⟩:∃Q,Q=m.status:=⟨_,rfl⟩;have cj:((H6:Int)==2)=false:=by rw[Qu];omega
 have ck:((H6:Int)==3)=false:=by rw[Qu];omega
 have A:=h.box;obtain⟨ca,cc,na,nc,wa,wc,va,vl,vc,fa,fl,fc⟩:=x;simp only[CX.cells]at A;rw[<-bj]at A;obtain⟨ah,b1,b2,ai,aj,ak,al,am,an⟩:=IB A;have cf:=Ab A;obtain⟨a8,ag⟩:=Ex (((w.setCell ⟨b,4,none⟩ (Vi 0)).setCell ⟨b,5,none⟩ Nl).setCell ⟨b,6,none⟩ Nl);have aq:Ad (only b) w a8:=by rw[ag];exact(((Ad.refl _ _).put 4 _).put 5 _).put 6 _
 have ba:Dj a8 b ⟨ca,cc,na,nc,wa,wc,none,0,0,none,0,0⟩ cs a {m with status:=0}:=h.upd aq (by rw[ag];exact Af (Af (Af A 4 _) 5 _) 6 _) ⟨rfl,rfl,rfl,rfl⟩ h.way (fun h=>by simp at h);have a5:=hd (aq.mono (S':=CK b ⟨ca,cc,na,nc,wa,wc,va,vl,vc,fa,fl,fc⟩) (fun i _ e=>Or.inl e));have a2:=hd ba;have a3:=hd (I.seek au.2);have a6:=hd ag;have bp:=hd bg;have bo:=hd be;have br:=hd au;clear h I bg be au A aq ba ag bj;go_enter func54,cp;go_wp2;rw[<-a6.o]
 go_loopg [6] (n+1) (fun gk cd wr=>∃(j:Nat)(l:CX)(d:SN),cd=Vi j/\j<=n/\n-j<gk/\Ad (CK b ⟨ca,cc,na,nc,wa,wc,va,vl,vc,fa,fl,fc⟩) w wr/\Dj wr b l cs a d/\Es w ⟨ca,cc,na,nc,wa,wc,va,vl,vc,none,fl,fc⟩ l/\DG cs a d/\CR cs n {m with status:=0}=((CR cs (n-j) d).1,(CR cs (n-j) d).2+j)/\d.status≠2)
 case atStart=>exact⟨0,_,{m with status:=0},Yg,Yo,Yo,a5.o,a2.o,⟨fun k B=>Or.inl B,rfl,rfl,rfl,rfl,fun k B=>Or.inl B⟩,a3.o,Ys,Ys⟩
 case round=>
  clear ah b1 b2 ai aj ak al am an a5 a2 a3 a6;obtain⟨j,⟨K,L,N,O,P,Z,W,Y,X,M,U,T⟩,d,rfl,ci,ch,ap,ao,J,I,ar,b7⟩:=hrel;obtain⟨st,ax⟩:∃Q,Q=d.status:=⟨_,rfl⟩;obtain⟨V,ay⟩:∃Q,Q=d.tries:=⟨_,rfl⟩;obtain⟨aa,a1⟩:∃Q,Q=d.way.length:=⟨_,rfl⟩;have b8:=I.st;have b4:=I.tries;have A:=ao.box;simp only[CX.cells]at A;rw[<-ax,<-ay,<-a1]at A;obtain⟨ah,b1,b2,ai,aj,ak,al,am,an⟩:=IB A;have cg:=Ab A;have f:Hd (st=d.status/\V=d.tries/\aa=d.way.length):=⟨ax,ay,a1⟩;have b9:st=0\/st=1\/st=3:=Yo
  have cn:aa<=100000:=by have:=I.len;omega
  have a4:=hd ap;have t:=hd ao;have HN:=hd J;have D:=hd I;have H:=hd ar;have S:=hd A;have v:Hd (CR cs (n-j) d=(d,0)->∀w',(∃l,Ad (only b) wr w'/\Dj w' b l cs a (Dy d)/\(l.wa=P\/l.wa=none)/\l.ca=K/\l.cc=L/\l.na=N/\l.nc=O/\l.fa=M)->(Ending.returned (.tuple #[Vi j,Vi 0]))=Rq #[Vi (Fl cs n m).2,Vi 0]/\∃l,Ad (CK b ⟨ca,cc,na,nc,wa,wc,va,vl,vc,fa,fl,fc⟩) w w'/\Dj w' b l cs a (Fl cs n m).1/\NE w ⟨ca,cc,na,nc,wa,wc,va,vl,vc,fa,fl,fc⟩ l m (Fl cs n m).1):=fun hl w' ⟨l,af,bv,ab,bw,bx,bz,b0,b3⟩=>by
   have bh:∀k,(∃p,l.fa=some p/\p.block=k)->w.hz<=k:=fun k B=>(J.2.2.2.2.2 k (by rw[b3]at B;exact B)).elim (fun⟨p,aw,_⟩=>by simp at aw) (fun h=>h);rw[E8 (n:=n) (j:=j) br.o ar hl];refine⟨rfl,l,ap.trans (af.mono (fun i _ e=>Or.inl e)),bv,⟨fun k B=> ?_,bw.trans J.2.1,bx.trans J.2.2.1,bz.trans J.2.2.2.1,b0.trans J.2.2.2.2.1,fun k B=>Or.inr (bh k B)⟩,Or.inr bh⟩;rcases ab with ab|ab
   ·rw[ab]at B;exact J.1 k B
   ·rw[ab]at B;obtain⟨p,aw,_⟩:=B;simp at aw
  clear ap ao J I ar A ax ay a1 b7 b8 b4
  by_cases ac:st=0
  ·subst ac;have u:Hd (d.status=0):=f.o.1.symm;have E:=hd (WW wr b ⟨K,L,N,O,P,Z,W,Y,X,M,U,T⟩ cs a d t.o)
   by_cases bi:j<n
   ·by_cases G:aa=0
    ·have R:Hd (d.way=[]):=List.eq_nil_of_length_eq_zero (by rw[<-f.o.2.2];exact G);subst G;have q:=Cb (cs:=cs) (n:=n-j) (s:=d) (Or.inr (Or.inr (Or.inl R.o)));have y:Hr d=2:=by unfold Hr;rw[if_pos R.o]
     rw[y]at E;have g:Ad (only b) wr (wr.setCell ⟨b,4,none⟩ (Vi 2)):=(Ad.refl _ _).put 4 _;have z:Hd (_/\_):=v.o q _ ⟨⟨K,L,N,O,P,Z,W,Y,X,M,U,T⟩,g,by
      have e:Dy d={d with status:=2}:=by unfold Dy;rw[if_neg (by rw[u.o];decide),if_pos u.o,if_pos R.o]
      rw[e];exact t.o.stat 2 Yd g (by rw[<-f.o.2.1,<-f.o.2.2];exact Af S.o 4 _),Or.inl rfl,rfl,rfl,rfl,rfl,rfl⟩
     clear q y g v t D HN H f;go_wp2_with fail;apply E.o.mono;rintro e w1 ⟨rfl,rfl⟩;go_wp2;go_ret2;exact z.o
    ·have ae:d.way≠[]:=fun e=>G (by rw[f.o.2.2,e];rfl);have cm:(0:Int)<(aa:Int):=Yo
     have cl:((aa:Int)==0)=false:=by rw[Qu];omega
     have F:=hd ae;clear ae G
     by_cases ad:V<3000
     ·have b5:(V:Int)<3000:=Yo
      have bm:=hd (OE wr b ⟨K,L,N,O,P,Z,W,Y,X,M,U,T⟩ cs a d t.o D.o u.o F.o (by rw[<-f.o.2.1];exact ad) bp.o bo.o bf);obtain⟨co,k,r,c,az,a0,cb⟩:=D.o.head F.o;obtain⟨bs,a9,bt,bu⟩:=EW az a0 u.o;have a7:Hd (DG cs a (AQ cs d)/\(AQ cs d).status≠2):=⟨D.o.try' bf u.o az a0 (by rw[<-f.o.2.1];exact ad),by rw[a9];exact MC _ _ _⟩;have bq:Hd (CR cs n {m with status:=0}=((CR cs (n-(j+1)) (AQ cs d)).1,(CR cs (n-(j+1)) (AQ cs d)).2+(j+1))):=by
       have af:=H.o;rw[show n-j=(n-(j+1))+1 by omega,Pm u.o F.o (by rw[<-f.o.2.1];exact ad)]at af;show _=_;rw[af];simp;omega
      clear ad az a0 cb bs a9 bt bu;go_wp2_with fail;apply bm.o.mono;rintro e w1 ⟨rfl,ce,bc,bb,bd⟩;have bl:=hd bc;have bk:=hd bb;have bn:=hd bd;clear bc bb bd ah b1 b2 ai aj ak al am an;go_wp2
      go_roundg (n-j)
      case measure=>omega
      case rel=>
       exact⟨j+1,ce,AQ cs d,Yg,Yo,Yo,a4.o.then bl.o (fun i hi b6=>Ws HN.o hi b6),bk.o,HN.o.trans bn.o a4.o.size,a7.o.1,bq.o,a7.o.2⟩
     ·have b5:¬(V:Int)<3000:=Yo
      have C:3000<=V:=Yo
      clear ad;have q:=Cb (cs:=cs) (n:=n-j) (s:=d) (Or.inr (Or.inr (Or.inr (by rw[<-f.o.2.1];exact C))));have y:Hr d=3:=by unfold Hr;rw[if_neg F.o,if_pos (by rw[<-f.o.2.1];exact C)]
      rw[y]at E;have g:Ad (only b) wr (((wr.setCell ⟨b,4,none⟩ (Vi 3)).setCell ⟨b,2,none⟩ Nl).setCell ⟨b,7,none⟩ (.string ⟨#[]⟩)):=(((Ad.refl _ _).put 4 _).put 2 _).put 7 _;have z:Hd (_/\_):=v.o q _ ⟨_,g,by
       have e:Dy d=FG d:=by unfold Dy;rw[if_neg (by rw[u.o];decide),if_pos u.o,if_neg F.o,if_pos (by rw[<-f.o.2.1];exact C)]
       rw[e];exact t.o.full g (by rw[<-f.o.2.1];exact Af (Af (Af S.o 4 _) 2 _) 7 _),Or.inr rfl,rfl,rfl,rfl,rfl,rfl⟩
      clear q y g v t D HN H f C;go_wp2_with fail;apply E.o.mono;rintro e w1 ⟨rfl,rfl⟩;go_wp2;go_ret2;exact z.o
   ·by_cases G:aa=0
    ·have R:Hd (d.way=[]):=List.eq_nil_of_length_eq_zero (by rw[<-f.o.2.2];exact G);subst G;have q:=Cb (cs:=cs) (n:=n-j) (s:=d) (Or.inl Yo);have y:Hr d=2:=by unfold Hr;rw[if_pos R.o]
     rw[y]at E;have g:Ad (only b) wr (wr.setCell ⟨b,4,none⟩ (Vi 2)):=(Ad.refl _ _).put 4 _;have z:Hd (_/\_):=v.o q _ ⟨⟨K,L,N,O,P,Z,W,Y,X,M,U,T⟩,g,by
      have e:Dy d={d with status:=2}:=by unfold Dy;rw[if_neg (by rw[u.o];decide),if_pos u.o,if_pos R.o]
      rw[e];exact t.o.stat 2 Yd g (by rw[<-f.o.2.1,<-f.o.2.2];exact Af S.o 4 _),Or.inl rfl,rfl,rfl,rfl,rfl,rfl⟩
     clear q y g v t D HN H f;go_wp2_with fail;apply E.o.mono;rintro e w1 ⟨rfl,rfl⟩;go_wp2;go_ret2;exact z.o
    ·have ae:d.way≠[]:=fun e=>G (by rw[f.o.2.2,e];rfl);have F:=hd ae;clear ae G
     by_cases C:3000<=V
     ·have q:=Cb (cs:=cs) (n:=n-j) (s:=d) (Or.inl Yo);have y:Hr d=3:=by unfold Hr;rw[if_neg F.o,if_pos (by rw[<-f.o.2.1];exact C)]
      rw[y]at E;have g:Ad (only b) wr (((wr.setCell ⟨b,4,none⟩ (Vi 3)).setCell ⟨b,2,none⟩ Nl).setCell ⟨b,7,none⟩ (.string ⟨#[]⟩)):=(((Ad.refl _ _).put 4 _).put 2 _).put 7 _;have z:Hd (_/\_):=v.o q _ ⟨_,g,by
       have e:Dy d=FG d:=by unfold Dy;rw[if_neg (by rw[u.o];decide),if_pos u.o,if_neg F.o,if_pos (by rw[<-f.o.2.1];exact C)]
       rw[e];exact t.o.full g (by rw[<-f.o.2.1];exact Af (Af (Af S.o 4 _) 2 _) 7 _),Or.inr rfl,rfl,rfl,rfl,rfl,rfl⟩
      clear q y g v t D HN H f C;go_wp2_with fail;apply E.o.mono;rintro e w1 ⟨rfl,rfl⟩;go_wp2;go_ret2;exact z.o
     ·have q:=Cb (cs:=cs) (n:=n-j) (s:=d) (Or.inl Yo);have y:Hr d=0:=by unfold Hr;rw[if_neg F.o,if_neg (by rw[<-f.o.2.1];exact C)]
      rw[y]at E;have g:Ad (only b) wr (wr.setCell ⟨b,4,none⟩ (Vi 0)):=(Ad.refl _ _).put 4 _;have z:Hd (_/\_):=v.o q _ ⟨⟨K,L,N,O,P,Z,W,Y,X,M,U,T⟩,g,by
       have e:Dy d={d with status:=0}:=by
        unfold Dy;rw[if_neg (by rw[u.o];decide),if_pos u.o,if_neg F.o,if_neg (by rw[<-f.o.2.1];exact C)];exact SH u.o
       rw[e];exact t.o.stat 0 Yd g (by rw[<-f.o.2.1,<-f.o.2.2];exact Af S.o 4 _),Or.inl rfl,rfl,rfl,rfl,rfl,rfl⟩
      clear q y g v t D HN H f C;go_wp2_with fail;apply E.o.mono;rintro e w1 ⟨rfl,rfl⟩;go_wp2;go_ret2;exact z.o
  ·have av:d.status≠0:=by rw[<-f.o.1];exact ac
   have q:=Cb (cs:=cs) (n:=n-j) (s:=d) (Or.inr (Or.inl av));rcases b9 with rfl|rfl|rfl
   ·exact absurd rfl ac
   ·have z:Hd (_/\_):=v.o q wr ⟨⟨K,L,N,O,P,Z,W,Y,X,M,U,T⟩,Ad.refl _ _,by
     have e:Dy d=d:=by simp[Dy,show d.status=1 from f.o.1.symm]
     rw[e];exact t.o,Or.inl rfl,rfl,rfl,rfl,rfl,rfl⟩
    clear ac av q v t D HN H f
    by_cases bi:j<n
    all_goals
     go_wp2;go_ret2;exact z.o
   ·have g:Ad (only b) wr ((wr.setCell ⟨b,2,none⟩ Nl).setCell ⟨b,7,none⟩ (.string ⟨#[]⟩)):=((Ad.refl _ _).put 2 _).put 7 _;have z:Hd (_/\_):=v.o q _ ⟨_,g,by
     have e:Dy d=FG d:=by unfold Dy;rw[if_pos f.o.1.symm]
     rw[e];exact t.o.full g (by rw[<-f.o.2.1];exact Af (Af S.o 2 _) 7 _),Or.inr rfl,rfl,rfl,rfl,rfl,rfl⟩
    clear ac av q g v t D HN H f
    by_cases bi:j<n
    all_goals
     go_wp2;go_ret2;exact z.o
theorem Wg(w:World)(C:Oa)(D:Nat)(ks:List Nat)(h:w.ownsRow 0 3 1 (.slice C ks.length D) ks.length (AM ks))(hl:ks.length<=1000)(v:∀k∈ks,k<24):
  Calls prog 78 #[.slice C ks.length D] w fun e w'=>e= .returned (.string ⟨(CW [] ks).toArray⟩)/\w'=w:=by
 obtain⟨f,l⟩:=Ex (CW [] ks);rw[<-l];have P:f.length<=200000:=by
  have:=LR ks [] Ys (fun k I=>by have:=v k I;omega);rw[<-l]at this;omega
 obtain⟨L,s⟩:=Ex ks.length;rw[<-s]at h hl⊢;have y:=hd h;have E:=hd l;have G:=hd v;have x:=hd s;clear h l v s;go_enter func78,W;go_wp2
 go_loopg [3,8] (L+1) (fun gk M i wr=>∃(j:Nat)(a:Lu),i=Vi j/\j<=L/\L-j<gk/\M= .string ⟨a.toArray⟩/\wr=w/\
  a++CW (if j=0 then[]else[46]) (ks.drop j)=f)
 case atStart=>exact⟨0,[],Yg,Qm _,Yo,rfl,rfl,by simp[E.o]⟩
 case round=>
  obtain⟨j,a,rfl,S,R,rfl,rfl,t⟩:=hrel;have Q:a.length<=200000:=by
   have b:=congrArg List.length t;simp only[Qg]at b;omega
  have c:=hd t;clear t
  by_cases K:j<L
  ·have n:j<ks.length:=by rw[<-x.o];exact K
   obtain⟨u,g⟩:∃u,ks[j]?=some u:=⟨_,Qb n⟩;have m:ks.drop j=u::ks.drop (j+1):=by
    rw[QC n,(Qa.1 g).2]
   obtain⟨N,Y,Z,B,O,A,U⟩:=An y.o Yo;simp only[QH]at B;obtain⟨rfl,_,rfl⟩:=B;have aa:wr.cell? ⟨N,j,none⟩=some (Vi u):=Ag y.o j _ (by simp only[AM,Qj,g,Option.map_some]);have T:=G.o u (Qh g);have p:=hd (Jb u wr Yo);obtain⟨X,d⟩:=Ex (Lib.decDigits u);rw[<-d]at p;have V:X.length<=30:=by rw[d];have:=Ec u;omega
   by_cases h0:j=0
   ·have J:¬(0:Int)<(j:Int):=Yo
    have q:Hd ((a++X)++CW [46] (ks.drop (j+1))=f):=by
     have b:=c.o;rw[m,if_pos h0]at b;simp only[CW]at b;show _=_;rw[<-b,d];simp
    have r:=hd (Az a X);clear h0 g m A c d n;go_wp2_with fail;apply p.o.mono;rintro e w1 ⟨rfl,rfl⟩;go_wp2
    go_roundg (L-j)
    case measure=>omega
    case rel=>exact⟨j+1,a++X,Yg,Yo,Yo,by rw[<-r.o],rfl,by simpa using q.o⟩
   ·have J:(0:Int)<(j:Int):=Yo
    have q:Hd ((a++[46]++X)++CW [46] (ks.drop (j+1))=f):=by
     have b:=c.o;rw[m,if_neg h0]at b;simp only[CW]at b;show _=_;rw[<-b,d];simp
    have r:=hd (Az (a++[46]) X);have H:=hd (Az a [46]);clear h0 g m A c d n;go_wp2_with fail;apply p.o.mono;rintro e w1 ⟨rfl,rfl⟩;go_wp2
    go_roundg (L-j)
    case measure=>omega
    case rel=>exact⟨j+1,a++[46]++X,Yg,Yo,Yo,by rw[<-r.o,<-H.o],rfl,by simpa using q.o⟩
  ·have z:j=L:=Yo
   have F:Hd (a=f):=by
    have b:=c.o;rw[z,x.o,List.drop_length]at b;show _=_;simpa[CW]using b
   clear c z;go_wp2;go_ret;rw[F.o];exact⟨rfl,rfl⟩
theorem Pl(w:World)(b:Nat)(x:CX)(cs:Lc)(a:Ll×At)(m:SN)(h:Dj w b x cs a m):
  Calls prog 55 #[Pt b] w fun e w'=>e= .returned (Vi m.status)/\w'=w:=by
 have c:=h.box;obtain⟨ca,cc,na,nc,wa,wc,va,vl,vc,fa,fl,fc⟩:=x;simp only[CX.cells]at c;obtain⟨d,b1,b2,f,g,i,j,k,l⟩:=IB c;have n:=Ab c;clear h c;go_enter func55,ntmps55;go_wp2;go_ret;exact⟨rfl,rfl⟩
theorem TF(w:World)(b:Nat)(x:CX)(cs:Lc)(a:Ll×At)(m:SN)(h:Dj w b x cs a m):
  Calls prog 58 #[Pt b] w fun e w'=>e= .returned (.string ⟨(Dx a m.status m.found m.tree).2.2.toArray⟩)/\w'=w:=by
 have d:=h.box;obtain⟨ca,cc,na,nc,wa,wc,va,vl,vc,fa,fl,fc⟩:=x;simp only[CX.cells]at d;obtain⟨k,b1,b2,l,i,n,p,q,r⟩:=IB d;have s:=Ab d;obtain⟨st,g⟩:∃j,j=m.status:=⟨_,rfl⟩;rw[<-g]at i⊢;clear h d g
 by_cases f:st=2
 ·subst f;have c:Hd ((Dx a 2 m.found m.tree).2.2=m.tree):=by show _=_;simp[Dx]
  rw[c.o];go_enter func58,ntmps58;go_wp2;go_ret;exact⟨rfl,rfl⟩
 ·have c:Hd ((Dx a st m.found m.tree).2.2=[]):=by
   show _=_;unfold Dx;split
   ·rfl
   ·rfl
  rw[c.o];have hb:((st:Int) !=2)=true:=by rw[bne_iff_ne];omega
  clear f c;go_enter func58,ntmps58;go_wp2;go_ret;exact⟨rfl,rfl⟩
theorem NZ(w:World)(b:Nat)(x:CX)(cs:Lc)(a:Ll×At)(m:SN)(h:Dj w b x cs a m)(i:DG cs a m)(J:cs.length<=24):
  Calls prog 57 #[Pt b] w fun e w'=>e= .returned (.string ⟨(Dx a m.status m.found m.tree).2.1.toArray⟩)/\w'=w:=by
 have f:=h.box;obtain⟨ca,cc,na,nc,wa,wc,va,vl,vc,fa,fl,fc⟩:=x;simp only[CX.cells]at f;obtain⟨B,b1,b2,C,j,D,v,E,F⟩:=IB f;have I:=Ab f
 by_cases c:m.status=1
 ·obtain⟨⟨n,_,l,_,p⟩,g⟩:=h.found c;have s:=(i.found c).2.2;have t:m.found.used.length<=1000:=by rw[<-p.used];have:=l.ul;omega
  obtain⟨G,H,q⟩:=Ac g;simp only[QH]at q;obtain⟨rfl,y,rfl⟩:=q;rw[y]at g v;have u:=hd (Wg w fa fc m.found.used g t (fun k z=>by have:=s k z;omega));have d:Hd ((Dx a m.status m.found m.tree).2.1=CW [] m.found.used):=by show _=_;simp[Dx,c,FQ]
  rw[d.o];rw[c]at j;clear h i f c g s t l p d;go_enter func57,ntmps57;go_wp2_with fail;apply u.o.mono;rintro e w1 ⟨rfl,rfl⟩;go_wp2;go_ret;exact⟨rfl,rfl⟩
 ·obtain⟨st,r⟩:∃A,A=m.status:=⟨_,rfl⟩;rw[<-r]at j c⊢;have d:Hd ((Dx a st m.found m.tree).2.1=[]):=by
   show _=_;unfold Dx;rw[if_neg c];split<;>rfl
  rw[d.o];have hb:((st:Int) !=1)=true:=by rw[bne_iff_ne];omega
  clear h i f c d r;go_enter func57,ntmps57;go_wp2;go_ret;exact⟨rfl,rfl⟩
def Tl(W:World)(A:Value):Lv->World->Prop
 |[],y=>y=W
 |[v],y=>v=A/\Ao W y
 |_,_=>False
theorem Tl.at{a:World}{A:Value}{y:World}(h:Tl a A vs y):vs.length<=0->y=a:=by
 match vs,h with
 |[],h=>exact fun _=>h
 |[v],h=>exact fun h=>by simp at h
theorem Pd(w:World)(b:Nat)(x:CX)(cs:Lc)(q:ByteArray)(a:Ll×At)(m:SN)(h:Dj w b x cs a m)(s:DG cs a m)(z:Cr q=some a):
  Calls prog 56 #[Pt b] w fun e w'=>e= .returned (.string ⟨(Dx a m.status m.found m.tree).1.toArray⟩)/\Ao w w':=by
 have g:=h.box;obtain⟨ca,cc,na,nc,wa,wc,va,vl,vc,fa,fl,fc⟩:=x;simp only[CX.cells]at g;obtain⟨L,b1,b2,M,r,B,N,O,P⟩:=IB g;have U:=Ab g
 by_cases d:m.status=1
 ·obtain⟨⟨n,i,l,t,c⟩,R⟩:=h.found d;obtain⟨_,I,_⟩:=s.found d;obtain⟨_,_,_,_,_,_,_,_,E⟩:=Cs z;have D:=JD z;have G:n.vals.length=a.2.length:=by rw[c.vl,I]
  have p:=h.names;simp only at p i;have F:AU a.2 n=AU a.2 m.found:=by unfold AU;rw[c.valsC l]
  have A:Hd (Calls prog 70 #[.slice na a.2.length nc,.slice va vl vc] w.drew fun e w'=>Ao w.drew w'/\e= .returned (.string ⟨(AU a.2 n).toArray⟩)):=by
   have k:Ao w w.drew:=⟨rfl,rfl,rfl,Qe _,fun _ _=>rfl⟩;exact FM _ _ _ a.2 n.vals (Aj p (fun j Q=>k.block j (p.lt j Q).2)) (i.ext k) (NX l t Yo) G.symm (Iz l t Yo D E)
  have f:Hd ((Dx a m.status m.found m.tree).1=AU a.2 m.found):=by show _=_;simp[Dx,d]
  rw[f.o,<-F];obtain⟨Y,C⟩:=Ex (AU a.2 n);rw[<-C]at A⊢;rw[d]at r;clear h s g d R l t c i I E D G p F f C z;go_enter func56,S;go_wp2_with fail;refine FB Yk [.rd 0 1 (fun _=>Pt b),.rd 0 1 (fun _=>Pt b),.rd 0 1 (fun _=> .pointer (some ⟨b,1,none⟩)),.rd 0 0 (fun _=> .slice na a.2.length nc),.rd 0 1 (fun _=>Pt b),.rd 0 1 (fun _=>Pt b),.rd 0 1 (fun _=> .pointer (some ⟨b,5,none⟩)),.rd 0 0 (fun _=> .slice va vl vc),.st 0,.rd 1 1 (fun _=> .string ⟨Y.toArray⟩)] 1 7 Yk (Tl w.drew (.string ⟨Y.toArray⟩)) rfl ?_ ?_
  ·refine⟨⟨trivial,fun vs y _ hl c=> ?_⟩,⟨trivial,fun vs y _ hl c=> ?_⟩,⟨trivial,fun vs y _ hl c=> ?_⟩,⟨trivial,fun vs y _ hl c=> ?_⟩,⟨trivial,fun vs y _ hl c=> ?_⟩,⟨trivial,fun vs y _ hl c=> ?_⟩,⟨trivial,fun vs y _ hl c=> ?_⟩,⟨trivial,fun vs y _ hl c=> ?_⟩,⟨trivial,fun vs y hl c=> ?_⟩,⟨trivial,fun vs y V hl c=> ?_⟩,trivial⟩
   ·simp[go_sem]
   ·simp[go_sem]
   ·simp[go_sem]
   ·obtain rfl:=c.at hl;simp[go_sem,b1]
   ·simp[go_sem]
   ·simp[go_sem]
   ·simp[go_sem]
   ·obtain rfl:=c.at hl;simp[go_sem,B]
   ·obtain rfl:=Q3.1 hl;obtain rfl:y=w.drew:=c;refine .call 70 #[.slice na a.2.length nc,.slice va vl vc] _ (by simp[go_sem]) (A.o.mono ?_);rintro e u ⟨k,rfl⟩;exact⟨_,rfl,rfl,k⟩
   ·obtain⟨v,rfl⟩:=Q1.1 (show vs.length=1 by omega);obtain⟨rfl,_⟩:=c;simp[go_sem]
  rintro vs y hl c;obtain⟨v,rfl⟩:=Q1.1 hl;obtain⟨i,J⟩:=c;have K:=hd J;simp only[El,Hq,B4,pa,Ph.kd,Ph.val,Kd.val,Qx,List.map_nil,if_true,Act.put,List.setIfInBounds_toArray,List.set_cons_succ,List.set_cons_zero];clear i J L b1 b2 M r B N O P;go_wp2;go_ret;exact⟨rfl,K.o.undrew⟩
 ·obtain⟨st,H⟩:∃T,T=m.status:=⟨_,rfl⟩;rw[<-H]at r d⊢;have f:Hd ((Dx a st m.found m.tree).1=[]):=by
   show _=_;unfold Dx;rw[if_neg d];split<;>rfl
  rw[f.o];have hb:((st:Int) !=1)=true:=by rw[bne_iff_ne];omega
  clear h s g d f H;go_enter func56,S;go_wp2;go_ret;exact⟨rfl,Ao.of (Ad.refl _ _)⟩
def XZ(p q:ByteArray)(w:World)(e:Ending)(w':World):Prop:=Ao w w'/\
 ((BD p=none/\e= .returned (.tuple #[.pointer none,.int .i64 4]))\/
 ((∃cs,BD p=some cs)/\Cr q=none/\e= .returned (.tuple #[.pointer none,.int .i64 5]))\/
 (∃cs a b,∃x:CX,BD p=some cs/\Cr q=some a/\e= .returned (.tuple #[.pointer (some ⟨b,0,none⟩),.int .i64 0])/\(∀k,CK b x k\/(∃p,x.fa=some p/\p.block=k)->w.heap.size<=k)/\Dj w' b x cs a (Kn cs a)))
theorem US(b:FU (AN a))(f:a.2.length<=121):∀l∈a.1,IG l:=fun l hl=>by
 have c:l∈(AN a).terms:=by
  unfold ND.terms AN;refine Q9 _ ?_;simp;exact hl
 have d:=(b.gs (l,0) (by unfold AN;simp;exact hl)).1;exact Hs (b.wf l c) (by have e:l.length<=30:=d;omega) (b.occ l c) (by have:(AN a).vars=a.2.length:=rfl;omega)
theorem UJ(p q:ByteArray)(w:World)(d:p.size<=maxLen)(aj:q.size<=maxLen):Calls prog 32 #[.string p,.string q] w (XZ p q w):=by
 have ap:=hd (JF p q w d aj);clear d aj;go_enter func32,ntmps32;go_wp2_with fail;apply ap.o.mono;rintro e w1 ⟨I,aw⟩;have A:=hd I;have ak:=I.size;clear I;rcases aw with⟨x,rfl⟩|⟨⟨cs,s⟩,x,rfl⟩|⟨cs,a,t,lc,xs,c,U,V,b1,T,f,nc,s,C,rfl,af,ag,z⟩
 ·have G:=hd x;clear x;go_wp2;go_ret2;exact⟨A.o.trans ((Mxt:Ao w1 (w1.alloc _)).mono ak),Or.inl ⟨G.o,rfl⟩⟩
 ·have G:=hd x;have H:=hd s;clear x s;go_wp2;go_ret2;exact⟨A.o.trans ((Mxt:Ao w1 (w1.alloc _)).mono ak),Or.inr (Or.inl ⟨⟨cs,H.o⟩,G.o,rfl⟩)⟩
 ·obtain⟨_,_,_,a1,a0⟩:=CA s;obtain⟨_,_,_,B,ae,az,L,ah,_⟩:=Cs C;have ab:=N0 C;obtain⟨g,v⟩:=Ex ((w1.alloc (.cells #[.slice c U V,.slice b1 a.1.length T,.slice f a.2.length nc] 107)).alloc (.cells #[.slice t cs.length lc,.slice f a.2.length nc,Nl,Vi 0,Vi 0,Nl,Nl,.string ⟨#[]⟩] 112));have n:Ao w1 g:=by rw[v];exact Mxt
  have a3:g.hz=w1.hz+2:=by rw[v];simp
  have ai:g.heap[w1.hz+1]?=some (.cells #[.slice t cs.length lc,.slice f a.2.length nc,Nl,Vi 0,Vi 0,Nl,Nl,.string ⟨#[]⟩] 112 (0,0)):=by rw[v];exact heap_alloc2_new w1 _ _
  have X:Dj g (w1.hz+1) ⟨t,lc,f,nc,none,0,none,0,0,none,0,0⟩ cs a ⟨[],0,0,⟨[],[],[],[],0⟩,[]⟩:=⟨ai,⟨xs,af.ext n⟩,Aj z (fun j M=>n.block j (z.lt j M).2),⟨[],Ff.nil _⟩,fun h=>by simp at h⟩;have R:=hd (Lj g (.slice c U V) (.slice b1 a.1.length T) (.slice f a.2.length nc) a.1 a.2 ⟨_,_,_,rfl⟩ (ag.ext n) (Aj z (fun j M=>n.block j (z.lt j M).2)) Yo Yo (US B ah));have S:Hd (∀w3 i l m vc,Ao g w3->AF w3 (.slice i a.1.length l) a.1->AF w3 (.slice m a.2.length vc) ((List.range a.2.length).map vr)->∀o,Dj (w3.alloc o) (w1.hz+1) ⟨t,lc,f,nc,none,0,none,0,0,none,0,0⟩ cs a ⟨[],0,0,⟨[],[],[],[],0⟩,[]⟩/\Ao w (w3.alloc o)/\Calls prog 52 #[Pt (w1.hz+1),.agg #[.slice i a.1.length l,.slice m a.2.length vc,Nl,Vi a.2.length]] (w3.alloc o) fun e w'=>e=Rq #[]/\∃am,Ad (CK (w1.hz+1) ⟨t,lc,f,nc,none,0,none,0,0,none,0,0⟩) (w3.alloc o) w'/\Dj w' (w1.hz+1) am cs a (B7 ⟨[],0,0,⟨[],[],[],[],0⟩,[]⟩ (AN a))/\Es (w3.alloc o) ⟨t,lc,f,nc,none,0,none,0,0,none,0,0⟩ am):=fun w3 i l m vc r D E o=>by
   have J:Ao w3 (w3.alloc o):=Mxt;have aa:Ao g (w3.alloc o):=r.trans (J.mono r.size);have W:=X.ext aa;have ay:Ao w (w3.alloc o):=(A.o.trans (n.mono A.o.size)).trans (aa.mono Yo);have ax:C3 (w3.alloc o) (.slice i a.1.length l) (.slice m a.2.length vc) Nl (Vi a.2.length) (AN a):=by
    refine⟨AN a,⟨?_,E.ext J,⟨[],AK.nil _ _⟩⟩,rfl,B,ae,ab,Co.refl B⟩;have:(AN a).goals.map (·.1)=a.1:=by unfold AN;rw[QK];exact(List.map_congr_left (fun _ _=>rfl)).trans (List.map_id _)
    rw[this];exact D.ext J
   exact⟨W,ay,Lz (w3.alloc o) _ _ cs a _ _ _ _ _ _ W ax Ys (Hc L) Ys⟩
  have P:Hd (∀u (F:CX),Dj u (w1.hz+1) F cs a (B7 ⟨[],0,0,⟨[],[],[],[],0⟩,[]⟩ (AN a))->Calls prog 53 #[Pt (w1.hz+1)] u fun e w'=>e=Rq #[]/\Ad (only (w1.hz+1)) u w'/\Dj w' (w1.hz+1) F cs a (Kn cs a)):=fun u F c=>by
   have e:B7 ⟨[],0,0,⟨[],[],[],[],0⟩,[]⟩ (AN a)=(⟨[(AN a,0)],0,0,⟨[],[],[],[],0⟩,[40]⟩:SN):=by unfold B7;rw[if_neg (Hc L)];rfl
   refine MY u _ F cs a _ c (by rw[e];simp) (by rw[e];intro y al;simp at al;subst al;exact Qm _) a0 (by rw[e];simp)
  have au:=hd v;have H:=hd s;have av:=hd C;clear s C af ag z a1 B ae az L ah ab n ai X v;go_wp2_with fail;rw[<-au.o];apply R.o.mono;rintro e w3 ⟨r,i,l,m,vc,rfl,D,E⟩;have a4:=r.size;have N:=hd (S.o w3 i l m vc r D E);clear r D E R S;go_wp2_with fail;apply(N.o _).2.2.mono;rintro e w4 ⟨rfl,an,K,Y,ad⟩;have ao:=hd (P.o w4 an Y);have a2:=K.size;simp at a2;have O:=hd K;have Q:=hd ad;clear K Y ad P;go_wp2_with fail;apply ao.o.mono;rintro e w5 ⟨rfl,ac,Z⟩;have ar:=hd ac;have aq:=hd Z;clear ac Z;go_wp2;go_ret2;refine⟨?_,Or.inr (Or.inr ⟨cs,a,w1.hz+1,an,H.o,av.o,rfl,fun k b=> ?_,aq.o⟩)⟩
  ·have c:=(N.o (.cells #[.slice i a.1.length l,.slice m a.2.length vc,Nl,Vi a.2.length] 87)).2.1;refine c.trans ((O.o.below c.size (fun k b=> ?_)).trans (ar.o.below (Qq c.size O.o.size) (fun k b=> ?_)))
   ·rcases b with rfl|⟨p,d,_⟩
    ·omega
    ·simp at d
   ·have:k=w1.hz+1:=b;omega
  ·rcases b with(rfl|b)|b
   ·omega
   ·rcases Q.o.1 k b with⟨p,d,_⟩|h
    ·simp at d
    ·simp at h;omega
   ·rcases Q.o.2.2.2.2.2 k b with⟨p,d,_⟩|h
    ·simp at d
    ·simp at h;omega
end Go.Proofs.YtlmjilpjmgjjcaaGreatDoor
