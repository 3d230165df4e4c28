/-
  PROVED HERE: plain facts on rows of goals in memory that are appended to each other (the conditions stand in each statement).
-/
import Derived.Test.YtlmjilpjmgjjcaaGreatDoorT5
set_option linter.unusedSimpArgs false
set_option linter.unusedVariables false
set_option maxRecDepth 10000
set_option maxHeartbeats 4000000
namespace Go.Proofs.YtlmjilpjmgjjcaaGreatDoor
open Go.RowKit
open _root_.Go.Proofs.Tryz
open Go.Value (int slice string agg pointer tuple)
open Go.IntKind (i64)
open Go.Ending (returned)
variable {w w' w1 w2 w0 wr:World}{k B b i p size cap M rb bW x:Nat}{v cv gv vv lv:Value}{xs ys vs:Lv}{X Y S:Np}{s:ByteArray}{t e:TypeId}{P:Program}{l:Ly}{ls ts:Ll}{ρ:Nat->Nat}{σ:Nat->Ly}{cs:Lc}{c:Db}{a:Ll×At}{ds r:Ln}{st:RS}{L:Bj}{G:Gr}{A:List Lu}
attribute [local simp] Yj EB IB pa Ph.kd Ph.val Kd.val
theorem DV.sz{gs:List GC}(h:DV gs l)(f:Nat->Int):DV (YtlmjilpjmgjjcaaGreatDoor.sz gs f) l:=
 ⟨by rw[Dm];exact h.len,fun i c a=>by
  simp only[YtlmjilpjmgjjcaaGreatDoor.sz,List.getElem?_mapIdx,JH]at a;obtain⟨d,hd,rfl⟩:=a;exact h.all i d hd⟩
theorem Tc(w:World)(bs bt:Value)(a b:Ly)(k:BI w bs a)(aj:BI w bt b)(ha:Wf 1 a)(hb:Wf 1 b)(cc:a.length<=1000)(cd:b.length<=1000)(hn:∀s∈a++b,s.num<=200000):
  Calls prog 127 #[bs,bt] w (N7 a b w):=by
 have cy:=BR ha;have c0:=BR hb;obtain⟨cw,cs,cu,rfl,_,cg,ce⟩:=An k Yo;obtain⟨cx,ct,cv,rfl,_,ch,cf⟩:=An aj Yo;have co:((a.length:Int)==0)=false:=by rw[Qu];omega
 have cp:((b.length:Int)==0)=false:=by rw[Qu];omega
 obtain⟨l,hl⟩:=Ex (a++b);have bn:Wf 2 l:=by rw[hl];exact EM ha hb
 have N:l.length=a.length+b.length:=by rw[hl];simp
 have Z:Ao w (w.alloc (.cells #[Nl] 216)):=Mxt;have ah:=Yh (SK (w.alloc (.cells #[Nl] 216)) _ _ a b (BI.ext k Z) (BI.ext aj Z) ha hb cc cd);have A:=Yh bn;have W:=Yh ha;have X:=Yh hb;have q:=Yh hl;have b7:YH (∀i,(AB l i).num<=200000):=fun i=>by
  rw[hl]
  by_cases hi:i<(a++b).length
  ·have:AB (a++b) i∈a++b:=by
    unfold AB;rw[QZ,Qb hi];simp
   exact hn _ this
  ·unfold AB;rw[QZ,QV Yo];simp
 rw[<-hl]at ah;clear k aj bn ha hb hl hn cg ch ce cf;go_enter func127,ntmps127;go_wp2_with fail;apply ah.o.mono;rintro e w1 ⟨v,rfl,R,ac,bg⟩;have x:=SM l;have ae:=Xm A.o;have m:(DG l (Cr l) 0).length=l.length:=x.len;have bk:=ac.size;have bk:w.heap.size+1<=w1.heap.size:=by simpa using bk
 obtain⟨gs,ar⟩:=Ex (DG l (Cr l) 0);have bq:∀c,c.map (·.size)=gs.map (·.size)->sz c (fun _=>0)=c:=fun c h=>UJ (by rw[h,ar]);rw[<-ar]at x ae m R;clear ar;have a8:F6 (w1.alloc (.cells #[v] 266)) w1.heap.size v gs:=⟨QL w1 _,by rw[m];exact Aj R (fun j d=>Jd _ _ _ (R.lt j d).2)⟩;obtain⟨va,E,rfl⟩:=Ab R;have bc:w1.heap[w.heap.size]?=some (.cells #[Nl] 216 (0,0)):=(ac.block _ Ys).trans (QL w _);have a5:Ao w (w1.alloc (.cells #[slice va l.length E] 266)):=(Z.trans (ac.mono Ys)).alloc Yo _;have ag:=Yh (Wi _ (w1.alloc (.cells #[slice va l.length E] 266)) w1.heap.size _ gs l _ _ 0 a.length a8 x A.o ae (Qe _) Yo Yo Yo);have b3:=Yh m;have b6:=Yh N;have c1:l.length<=2000:=Yo
 have cq:=Yh x;have cr:=Yh ae;have cb:=Yh bq;have a3:=Yh bg;have b0:=Yh bc;have bu:=Yh a5;clear x ae a8 bq bg bc a5 ac R m N Z ah co cp;go_wp2_with fail;apply ag.o.mono;rintro e w2 ⟨c,g,f,br,af,B⟩;have m:=b3.o;have N:=b6.o;have bl:=g.kept.size;have bl:w1.heap.size+1<=w2.heap.size:=by simpa using bl
 have au:=g.len;have ao:Below (w.heap.size+1) (w1.alloc (.cells #[slice va l.length E] 266)) w2:=g.kept.below Yp (fun j d=>by have:=a3.o j d;simpa using this);have a6:Ao w w2:=bu.o.trans (ao.mono Yo);have I:w2.heap[w.heap.size]?=some (.cells #[Nl] 216 (0,0)):=(ao.block _ Yo).trans ((Jd _ _ _ Yo).trans b0.o);have C:=Aa I 0 _ rfl;have D:=fun i=>Ag I i;have Q:=Ac I;have ad:TW (B8 l) (FZ l) a b:=by rw[q.o];exact R7 W.o X.o
 have bo:(0:Nat)<(B8 l).n:=by show 0<l.length;omega
 have bp:a.length<(B8 l).n:=by show a.length<l.length;omega
 have y:FZ l 0=a:=by rw[q.o];exact Ir W.o
 have z:FZ l a.length=b:=by rw[q.o];exact HI X.o
 have az:=Yh a6;have b1:=Yh I;clear ao a6 I;rcases B with⟨rfl,d⟩|⟨rfl,bd⟩
 ·have a9:F6 w2 w1.heap.size (slice va l.length E) (sz c (fun _=>0)):=by rw[cb.o c g.sizes];exact g.at'
  have HM:=Yh (Vv _ w2 w1.heap.size (slice va l.length E) c l f br (fun _=>0) (fun _=>[]) 0 a9 g.cells A.o af (fun j _=>QG rfl) (Qe _) Yo Yo ⟨fun r h=>absurd h.2 (Int.lt_irrefl _),fun r h=>absurd h.2 (Int.lt_irrefl _),fun r h=>absurd h.2 (Int.lt_irrefl _)⟩);have Y:=Yh d;have b9:=Yh af;have bw:=Yh g.cells;have b5:=Yh ad;have M:c.length=(a++b).length:=by rw[au,m,q.o]
  have b4:=Yh M;clear d af g ad a9 M au m N y z ag;go_wp2_with fail;apply HM.o.mono;rintro e w3 ⟨u,ba,be,B⟩;have aq:Below (w.heap.size+1) w2 w3:=be.below Yo (fun j d=>by have:=a3.o j d;simpa using this);have a7:Ao w w3:=az.o.trans (aq.mono Yo);have J:w3.heap[w.heap.size]?=some (.cells #[Nl] 216 (0,0)):=(aq.block _ Yo).trans b1.o;have C:=Aa J 0 _ rfl;have D:=fun i=>Ag J i;have Q:=Ac J;have V:=Yh a7;have b2:=Yh J;have bv:=Yh ba;clear aq a7 J be ba;have y:FZ l 0=a:=by rw[q.o];exact Ir W.o
  have z:FZ l a.length=b:=by rw[q.o];exact HI X.o
  rcases B with⟨T,rfl,bi,_,F,ak,_,_⟩|⟨rfl,bj⟩
  ·have d:=Y.o;clear y z;have hl:=q.o;subst hl;have M:=b4.o;obtain⟨O,an,S,H⟩:=UY W.o X.o d F ak;have ab:(ap (Dk (B8 (a++b)) f (MO c.length u) T) a).length=(T (f 0)).length:=by rw[an]
   obtain⟨L,am⟩:=Ex ((T (f 0)).length);rw[<-am]at ab⊢
   by_cases cz:30<L
   ·have bm:Hd a b:=O.small Yo;have ca:=Yh bm;have ay:min 31 L=31:=Yo
    rw[ay];clear bm O an S H F ak bi d am ab Y M HM;go_wp2;refine Jb (v:=tuple #[agg #[Nl],int i64 2]) (by simp[results,results127,go_sem,C,D,Q]) rfl ?_;exact⟨V.o.setCell (p:=⟨w.heap.size,0,none⟩) (Qe _) _,none,0,0,2,rfl,QO (QG ⟨rfl,ca.o⟩)⟩
   ·have bh:∀i,i<(sz c u).length->(AB (a++b) i).name=[]->(T (f i)).length<=4000:=fun i hi hn=>by
     have hi:i<(a++b).length:=by rw[Dm]at hi;omega
     have k:=Lw O Yo (TG hi hn);rw[show Dk (B8 (a++b)) f (MO c.length u) T (AB (a++b) i).num=T (f i) from KV (G:=B8 (a++b)) S hi hn (H i hi)]at k;omega
    have bz:=Yh (Jw w3 w1.heap.size (slice va (a++b).length E) (sz c u) (a++b) f br (MO c.length u) T bv.o (bw.o.sz u) A.o (by rw[XQ];exact b9.o) F (fun i hi=>H i (by rw[Dm]at hi;omega)) S (by rw[Dm];omega) bh b7.o);have a2:=Yh O;have bx:=Yh F;have a4:=Yh S;have a0:=Yh H;have a1:=Yh ab;have ay:min 31 L=L:=Yo
    have c2:¬((L:Int)= -1):=Yo
    have c3:((L:Int)== -1)=false:=by rw[Qu];omega
    rw[ay];clear O an S H F ak bi d am ab Y bh M HM;go_wp2_with fail;apply bz.o.mono;rintro e w4 ⟨tv,ts,vs,rfl,ax,av,al,cl⟩;obtain⟨ta,U,rfl⟩:=Ab ax.owns;have K:=(al.block _ Q).trans b2.o;have C:=Aa K 0 _ rfl;have D:=fun i=>Ag K i;have cj:=Ac K;have aw:=Xd av bx.o a4.o a0.o;have bb:Ad (fun j=>j=w.heap.size) w4 (w4.setCell ⟨w.heap.size,0,none⟩ (slice ta ts.length U)):=(Ad.refl (only w.heap.size) w4).put 0 _;have aa:=(ax.box K Yd Yd bb).inn;have B:N7 a b w (Rq #[agg #[slice ta ts.length U],int i64 1]) (w4.setCell ⟨w.heap.size,0,none⟩ (slice ta ts.length U)):=by
     obtain⟨cn,aa⟩:=aa;refine⟨(V.o.trans (al.mono V.o.size)).setCell (p:=⟨w.heap.size,0,none⟩) (Qe _) _,ta,ts.length,U,1,rfl,QO (QO ⟨rfl,ts,cn,aa,by rw[aw];exact a2.o,by rw[aw,a1.o];omega,cl,fun t ck=> ?_⟩)⟩;obtain⟨n,hn⟩:=J0.1 ck;rcases av.only n t hn with rfl|⟨i,hi,bf,_,rfl⟩
     ·simp
     ·have k:=Lw a2.o (by rw[a1.o];omega) (TG hi bf);rw[show Dk (B8 (a++b)) f (MO c.length u) T (AB (a++b) i).num=T (f i) from KV (G:=B8 (a++b)) a4.o hi bf (a0.o i hi)]at k;exact k
    have b8:=Yh B;clear B aa bb aw av ax al K;go_wp2;refine Jb (v:=tuple #[agg #[slice ta ts.length U],int i64 1]) (by simp[results,results127,go_sem,C,D,cj]) rfl ?_;exact b8.o
  ·have P:De a b:=O3 b5.o (H7 l A.o) bo bp y z Y.o (i:=0) (fun val cm x=>by
    obtain⟨r,ci,_⟩:=bj val cm x;simp at ci)
   have ai:=Yh P;clear P bj y z HM;go_wp2;refine Jb (v:=tuple #[agg #[Nl],int i64 0]) (by simp[results,results127,go_sem,C,D,Q]) rfl ?_;exact⟨V.o.setCell (p:=⟨w.heap.size,0,none⟩) (Qe _) _,none,0,0,0,rfl,QG ⟨rfl,ai.o⟩⟩
 ·have P:=Ra ad (H7 l A.o) bo bp y z bd;have ai:=Yh P;clear P bd g af ad y z au m N ag;go_wp2;refine Jb (v:=tuple #[agg #[Nl],int i64 0]) (by simp[results,results127,go_sem,C,D,Q]) rfl ?_;exact⟨az.o.setCell (p:=⟨w.heap.size,0,none⟩) (Qe _) _,none,0,0,0,rfl,QG ⟨rfl,ai.o⟩⟩
theorem GR(w:World)(v:Value)(a:Ly)(m:Nat)(h:BI w v a)(hl:a.length<=1000)(hn:∀s∈a,s.num<=200000)(Y:m<=200000):
  Calls prog 74 #[v,int i64 m] w (GP (a.map (rn m)) w):=by
 obtain⟨va,aa,rfl⟩:=Ab h;have u:=Yh h;have J:=Yh hn;clear h hn;go_enter func74,ntmps74;go_wp2
 go_loopg [5,10] (a.length+1) (fun gk tv P wr=>∃(k:Nat),P=int i64 k/\k<=a.length/\a.length-k<gk/\Ao w wr/\wr.ownsRow w.heap.size 133 3 tv k (Aq ((a.take k).map (rn m))))
 case atStart=>exact⟨0,Yg,Qm _,Yo,Jc _ _,Q2 _ _ _ _⟩
 case round=>
  obtain⟨k,rfl,X,V,A,B⟩:=hrel;obtain⟨ta,t,rfl⟩:=Ab B;have I:=A.size;have q:=Yh A;have l:=Yh B;clear A B
  by_cases O:k<a.length
  ·obtain⟨s,f⟩:∃s,a[k]?=some s:=⟨_,Qb O⟩;obtain⟨g,R,S,E,_,F,_⟩:=An u.o Yo;simp only[QH]at E;obtain⟨rfl,_,rfl⟩:=E;have r:=Aj u.o (fun j b=>q.o.block j (u.o.lt j b).2);have W:=Ac F
   have D:wr.cell? ⟨g,k*3,none⟩=some (string ⟨s.name.toArray⟩):=Af r _ _ (by have:=AV a k s f 0 Yo;rw[JU]at this;rw[this];rfl);have T:wr.cell? ⟨g,k*3+1,none⟩=some (int i64 s.num):=Af r _ _ (by rw[AV a k s f 1 Yo];rfl);have U:wr.cell? ⟨g,k*3+2,none⟩=some (int i64 s.args):=Af r _ _ (by rw[AV a k s f 2 Yo];rfl);have G:a.take (k+1)=a.take k++[s]:=by rw[QU,f];rfl
   have Z:=J.o s (Qh f);have C:=Yh G;clear f r G F
   cases e:s.name with
   |nil=>
    rw[e]at D;have p:rn m s=⟨[],s.num+m,s.args⟩:=by unfold rn;rw[QQ e]
    have z:=Yh p;clear e p;have c:Ao wr (wr.alloc (.cells #[string ⟨#[]⟩,int i64 ((s.num:Int)+m),int i64 s.args] 133)):=Mxt;have n:YH ((wr.alloc (.cells #[string ⟨#[]⟩,int i64 ((s.num:Int)+m),int i64 s.args] 133)).ownsRow w.heap.size 133 3 (slice ta k t) k (Aq ((a.take k).map (rn m)))):=Aj l.o (fun j b=>c.block j (l.o.lt j b).2);have y:=Yh c;clear c
    go_wp2_with (at_builtin;go_loud (refine Al (wr.alloc (.cells #[string ⟨#[]⟩,int i64 ((s.num:Int)+m),int i64 s.args] 133)) rfl (.tmp 22) (.tmp 24) 105 rfl w.heap.size 133 infoSym underlying105 rfl Yd (slice ta k t) k (Aq ((a.take k).map (rn m))) rfl n.o #[string ⟨#[]⟩,int i64 ((s.num:Int)+m),int i64 s.args] (N:=wr.heap.size+1) rfl Ys rfl (Fq _ _ _) ?_ ?_ ?_))
    ·omega
    ·simp;omega
    intro Q w1 d;obtain⟨K,L,rfl⟩:=Ab d.owns;have i:=Yh d;clear d;go_wp2
    go_roundg (a.length-k)
    case measure=>omega
    case rel=>
     refine⟨k+1,Yg,Yo,Yo,?_,?_⟩
     ·exact q.o.trans ((y.o.mono I).trans (i.o.kept.below Yp (fun j b=>(n.o.lt j b).1)))
     ·have:=i.o.owns;rw[C.o,Qr,C9];simpa[Aq,Bw,z.o]using this
   |cons x xs=>
    have p:rn m s=s:=by unfold rn;rw[QP (by rw[e];simp)]
    have c:Ao wr (wr.alloc (.cells #[string ⟨(x::xs).toArray⟩,int i64 s.num,int i64 s.args] 133)):=Mxt;have n:YH ((wr.alloc (.cells #[string ⟨(x::xs).toArray⟩,int i64 s.num,int i64 s.args] 133)).ownsRow w.heap.size 133 3 (slice ta k t) k (Aq ((a.take k).map (rn m)))):=Aj l.o (fun j b=>c.block j (l.o.lt j b).2);have y:=Yh c;have H:rn m s=⟨x::xs,s.num,s.args⟩:=by rw[p,<-e]
    have z:=Yh H;rw[e]at D;clear e p c H
    go_wp2_with (at_builtin;go_loud (refine Al (wr.alloc (.cells #[string ⟨(x::xs).toArray⟩,int i64 s.num,int i64 s.args] 133)) rfl (.tmp 22) (.tmp 24) 105 rfl w.heap.size 133 infoSym underlying105 rfl Yd (slice ta k t) k (Aq ((a.take k).map (rn m))) rfl n.o #[string ⟨(x::xs).toArray⟩,int i64 s.num,int i64 s.args] (N:=wr.heap.size+1) rfl Ys rfl (Fq _ _ _) ?_ ?_ ?_))
    ·omega
    ·simp;omega
    intro Q w1 d;obtain⟨K,L,rfl⟩:=Ab d.owns;have i:=Yh d;clear d;go_wp2
    go_roundg (a.length-k)
    case measure=>omega
    case rel=>
     refine⟨k+1,Yg,Yo,Yo,?_,?_⟩
     ·exact q.o.trans ((y.o.mono I).trans (i.o.kept.below Yp (fun j b=>(n.o.lt j b).1)))
     ·have:=i.o.owns;rw[C.o,Qr,C9];simpa[Aq,Bw,z.o]using this
  ·have M:k=a.length:=Yo
   subst M;go_wp2;go_ret;refine⟨_,w.heap.size,rfl,Qe _,?_,q.o⟩;have:=l.o;rw[QT]at this;simpa using this
def TP(ts:Ll)(s:BJ):Ly:=if s.name=[]then(ts[s.num]?).getD []else[]
theorem Xh{s:BJ}(h:TP ts s=[])(ha:s.name=[]->s.args=0):ED (B0 ts) s=[s]:=by
 unfold ED
 by_cases hn:s.name=[]
 ·rw[QQ hn];unfold TP at h;rw[QQ hn]at h;unfold B0;have a:vr s.num=[s]:=by
   have:=ha hn
   cases s
   simp at hn this;subst hn this;rfl
  cases b:ts[s.num]? with
  |none=>exact a
  |some t=>rw[b]at h;simp at h;subst h;exact a
 ·rw[QP hn]
theorem VH{s b:BJ}{t:Ly}(h:TP ts s=b::t):ED (B0 ts) s=b::t:=by
 unfold TP at h
 by_cases hn:s.name=[]
 ·rw[QQ hn]at h;unfold ED;rw[QQ hn];unfold B0
  cases a:ts[s.num]? with
  |none=>rw[a]at h;simp at h
  |some u=>rw[a]at h;simp at h;subst h;rfl
 ·rw[QP hn]at h;simp at h
def Uo(ts:Ll)(s:BJ)(w:World)(e:Ending)(w':World):Prop:=Ao w w'/\∃x,e= .returned x/\BI w' x (TP ts s)
theorem Sz(w:World)(tv:Value)(ts:Ll)(vs:Lv)(s:BJ)(h:AK w 0 tv ts vs)(hl:ts.length<=200001)(hn:s.num<=200000):
  Calls prog 208 #[agg #[tv],agg #[string ⟨s.name.toArray⟩,int i64 s.num,int i64 s.args]] w (Uo ts s w):=by
 obtain⟨ta,y,rfl⟩:=Ab h.owns;have c:YH (∀o k,Ao w ((w.alloc o).alloc k)):=fun o k=>Mxt
 cases a:s.name with
 |cons x xs=>
  have b:YH (TP ts s=[]):=by show _=_;unfold TP;rw[QP (by rw[a];simp)]
  clear h a;go_enter func208,ntmps208;go_wp2;go_ret;exact⟨c.o _ _,_,rfl,by rw[b.o];exact Q2 _ _ _ _⟩
 |nil=>
  have h0:(0:Int)<=(s.num:Int):=Yo
  by_cases q:s.num<ts.length
  ·have r:(s.num:Int)<(ts.length:Int):=Yo
   obtain⟨t,d⟩:∃t,ts[s.num]?=some t:=⟨_,Qb q⟩;obtain⟨x,j,e⟩:=h.all _ t d;obtain⟨l,m,rfl⟩:=Ab e;obtain⟨g,z,u,f,_,i,p⟩:=An h.owns Yo;simp only[QH]at f;obtain⟨rfl,_,rfl⟩:=f;have A:w.cell? ⟨g,s.num,none⟩=some (slice l t.length m):=Af h.owns _ _ j;have v:=Ac i;have b:YH (TP ts s=t):=by show _=_;unfold TP;rw[QQ a,d];rfl
   have n:YH (BI w (slice l t.length m) t):=e;clear h a d j e i p;go_enter func208,ntmps208;go_wp2;go_ret;exact⟨c.o _ _,_,rfl,by rw[b.o];exact n.o.ext (c.o _ _)⟩
  ·have r:¬(s.num:Int)<(ts.length:Int):=Yo
   have b:YH (TP ts s=[]):=by show _=_;unfold TP;rw[QQ a,QV Yo];rfl
   clear h a;go_enter func208,ntmps208;go_wp2;go_ret;exact⟨c.o _ _,_,rfl,by rw[b.o];exact Q2 _ _ _ _⟩
def V0(ts:Ll)(a:Ly)(w:World)(e:Ending)(w':World):Prop:=Ao w w'/\
 (((ap (B0 ts) a).length<=30/\∃x n c,e= .returned (.tuple #[.slice x n c,.bool true])/\w'.ownsRow w.heap.size 133 3 (.slice x n c) (ap (B0 ts) a).length (Aq (ap (B0 ts) a)))\/(30<(ap (B0 ts) a).length/\e= .returned (.tuple #[.slice none 0 0,.bool false])))
theorem LB(σ:Nat->Ly)(a:Ly)(k:Nat):(ap σ (a.take k)).length<=(ap σ a).length:=by
 have h:ap σ a=ap σ (a.take k)++ap σ (a.drop k):=by rw[<-EQ,JT]
 rw[h];simp
def GL(w:World)(tv:Value)(ts:Ll)(a:Ly)(k:Nat)(rv:Value)(wr:World):Prop:=
 Ao w wr/\wr.heap[w.heap.size]?=some (.cells #[tv] 216 (0,0))/\wr.ownsRow w.heap.size 133 3 rv (ap (B0 ts) (a.take k)).length (Aq (ap (B0 ts) (a.take k)))
theorem GL.app{tv l n:Value}{a:Ly}{s:BJ}{m:Ly}(h:GL w tv ts a k l wr)(b:Ao wr w1)(q:a[k]?=some s)(o:ED (B0 ts) s=m)(d:Ar w1 w.heap.size 133 3 l ((ap (B0 ts) (a.take k)).length+m.length) (Aq (ap (B0 ts) (a.take k))++Aq m) n w2):GL w tv ts a (k+1) n w2:=by
 obtain⟨c,f,g⟩:=h;have i:=Aj g (fun j e=>b.block j (g.lt j e).2);have hb:=(b.block _ (Ac f)).trans f;have r:=b.size;have p:ap (B0 ts) (a.take (k+1))=ap (B0 ts) (a.take k)++m:=by
  rw[QU,q,EQ,<-o];simp[ap]
 refine⟨c.trans ((b.mono c.size).trans (d.kept.below (Qq c.size r) (fun j e=>(i.lt j e).1))),(d.kept.block _ (Ac hb) (Ai i Yd hb)).trans hb,?_⟩;rw[p,C9,Qg];exact d.owns
theorem Ug(w:World)(tv av:Value)(ts:Ll)(vs:Lv)(a:Ly)(h:AK w 0 tv ts vs)(Y:BI w av a)(ar:∃k,Wf k a)(hl:ts.length<=200001)(ao:∀t∈ts,t.length<=30)(bk:a.length<=1000)(hn:∀s∈a,s.num<=200000):
  Calls prog 193 #[agg #[tv],av] w (V0 ts a w):=by
 obtain⟨ta,y,rfl⟩:=Ab h.owns;obtain⟨va,bs,rfl⟩:=Ab Y;have ax:=Yh h;have Q:=Yh Y;have az:=Yh hn;have a1:=Yh ao;have a3:=Yh ar;clear h Y hn ao ar;go_enter func193,ntmps193;go_wp2
 go_loopg [6,12] (a.length+1) (fun gk bf bc wr=>∃(k:Nat),bc=int i64 k/\k<=a.length/\a.length-k<gk/\(ap (B0 ts) (a.take k)).length<=30/\GL w (slice ta ts.length y) ts a k bf wr)
 case atStart=>exact⟨0,Yg,Qm _,Yo,by simp[ap],Mxt,QL w _,Q2 _ _ _ _⟩
 case round=>
  obtain⟨k,rfl,bq,bn,aj,l⟩:=hrel;obtain⟨G,H,rfl⟩:=Ab l.2.2;have bb:=l.1.size;have bl:=Ac l.2.1;have bg:wr.cell? ⟨w.heap.size,0,none⟩=some (slice ta ts.length y):=Aa l.2.1 0 _ rfl;have I:=Yh l;clear l
  by_cases a9:k<a.length
  ·obtain⟨s,r⟩:∃s,a[k]?=some s:=⟨_,Qb a9⟩;obtain⟨g,bi,bj,ak,_,al,_⟩:=An Q.o Yo;simp only[QH]at ak;obtain⟨rfl,_,rfl⟩:=ak;have L:=Aj Q.o (fun j C=>I.o.1.block j (Q.o.lt j C).2);have bp:=Ac al;have bo:g<wr.heap.size:=Yo
   have a5:wr.cell? ⟨g,k*3,none⟩=some (string ⟨s.name.toArray⟩):=Af L _ _ (by have:=AV a k s r 0 Yo;rw[JU]at this;rw[this];rfl);have a6:wr.cell? ⟨g,k*3+1,none⟩=some (int i64 s.num):=Af L _ _ (by rw[AV a k s r 1 Yo];rfl);have a7:wr.cell? ⟨g,k*3+2,none⟩=some (int i64 s.args):=Af L _ _ (by rw[AV a k s r 2 Yo];rfl);have an:s.name=[]->s.args=0:=by obtain⟨j,C⟩:=a3.o;exact(GJ C r).1
   have X:Ao wr (wr.alloc (.cells #[string ⟨s.name.toArray⟩,int i64 s.num,int i64 s.args] 133)):=Mxt;have ae:=Yh (Sz (wr.alloc (.cells #[string ⟨s.name.toArray⟩,int i64 s.num,int i64 s.args] 133)) _ ts vs s (ax.o.ext (I.o.1.trans (X.mono bb))) hl (az.o s (Qh r)));have aq:(TP ts s).length<=30:=by
    unfold TP;split
    ·cases ba:ts[s.num]? with
     |none=>simp
     |some t=>exact a1.o t (Qh ba)
    ·simp
   have ah:=Yh r;have ay:=Yh X;have a0:=Yh an;clear r L al X an;go_wp2_with fail;refine ae.o.mono ?_;rintro e w1 ⟨J,x,rfl,O⟩;obtain⟨au,aw,rfl⟩:=Ab O;obtain⟨t,aa⟩:=Ex (TP ts s);have K:Ao wr w1:=ay.o.trans (J.mono Ys);have f:GL w (slice ta ts.length y) ts a k (slice G (ap (B0 ts) (a.take k)).length H) w1:=by
    obtain⟨P,ab,E⟩:=I.o;exact⟨P.trans (K.mono P.size),(K.block _ (Ac ab)).trans ab,Aj E (fun j C=>K.block j (E.lt j C).2)⟩
   have B:w1.heap[wr.heap.size]?=some (.cells #[string ⟨s.name.toArray⟩,int i64 s.num,int i64 s.args] 133 (0,0)):=(J.block _ Ys).trans (QL wr _);have bt:=Aa B 0 _ rfl;have bu:=Aa B 1 _ rfl;have bv:=Aa B 2 _ rfl;have bm:=Ac B;have am:=J.size;have am:wr.heap.size+1<=w1.heap.size:=by simpa using am
   have bg:w1.cell? ⟨w.heap.size,0,none⟩=some (slice ta ts.length y):=Aa f.2.1 0 _ rfl;obtain⟨b,d⟩:∃n,n=(ap (B0 ts) (a.take k)).length:=⟨_,rfl⟩;obtain⟨U,Z⟩:∃c,c=Aq (ap (B0 ts) (a.take k)):=⟨_,rfl⟩;have ag:YH (w1.ownsRow w.heap.size 133 3 (slice G b H) b U):=by rw[d,Z];exact f.2.2
   rw[<-aa]at O aq⊢;rw[<-d]at aj⊢;have ac:=Yh f;have ai:=Yh aa;have v:=Yh d;have af:=Yh Z;have a4:=Yh O;clear J K f B aa d Z O a5 a6 a7 ae
   cases t with
   |nil=>
    have R:YH (ED (B0 ts) s=[s]):=Xh ai.o.symm a0.o
    go_wp2_with (at_builtin;go_loud (refine Al w1 rfl (.tmp 22) (.tmp 24) 105 rfl w.heap.size 133 infoSym underlying105 rfl Yd (slice G b H) b U rfl ag.o #[string ⟨s.name.toArray⟩,int i64 s.num,int i64 s.args] (N:=w1.heap.size) rfl Ys rfl (Fq _ _ _) ?_ ?_ ?_))
    ·omega
    ·omega
    intro bh w2 q;obtain⟨S,T,rfl⟩:=Ab q.owns;have p:GL w (slice ta ts.length y) ts a (k+1) (slice S (b+1) T) w2:=by
     have f:=ac.o;rw[<-v.o]at f;refine f.app (w1:=w1) (m:=[s]) (Jc _ _) ah.o R.o ?_;rw[<-v.o,<-af.o];simpa[Aq,Bw]using q
    have D:(ap (B0 ts) (a.take (k+1))).length=b+1:=by
     obtain⟨bd,be,F⟩:=Ab p.2.2;simp only[QH]at F;exact F.2.1.symm
    have z:=Yh p;have A:=Yh D;clear q p D
    by_cases V:b+1<=30
    ·have W:¬((30:Int)<((b+1:Nat):Int)):=Yo
     go_wp2
     go_roundg (a.length-k)
     case measure=>omega
     case rel=>exact⟨k+1,Yg,Yo,Yo,by rw[A.o];exact V,z.o⟩
    ·have W:(30:Int)<((b+1:Nat):Int):=Yo
     go_wp2;go_ret2;exact⟨z.o.1,QO ⟨by have:=LB (B0 ts) a (k+1);rw[A.o]at this;omega,rfl⟩⟩
   |cons u t=>
    have R:YH (ED (B0 ts) s=u::t):=VH ai.o.symm;have ad:YH (IF w1 3 (slice au (u::t).length aw) (u::t).length (Aq (u::t))):=Gq a4.o (MR _);obtain⟨i,M⟩:∃n,n=(u::t).length:=⟨_,rfl⟩;have br:0<i:=by rw[M];simp
    have hz:((i:Int)==0)=false:=by rw[Qu];omega
    rw[<-M]at ad aq⊢;have a2:=Yh M;clear M
    go_wp2_with (at_builtin;go_loud (refine BU w1 rfl (.tmp 26) (.tmp 27) 105 rfl w.heap.size 133 infoSym underlying105 rfl Yd (slice G b H) b U rfl ag.o (slice au i aw) i (Aq (u::t)) rfl ad.o ?_ ?_ ?_))
    ·omega
    ·omega
    intro bh w2 q;obtain⟨S,T,rfl⟩:=Ab q.owns;have p:GL w (slice ta ts.length y) ts a (k+1) (slice S (b+i) T) w2:=by
     have f:=ac.o;rw[<-v.o]at f;refine f.app (w1:=w1) (m:=u::t) (Jc _ _) ah.o R.o ?_;rw[<-v.o,<-af.o,<-a2.o];exact q
    have D:(ap (B0 ts) (a.take (k+1))).length=b+i:=by
     obtain⟨bd,be,F⟩:=Ab p.2.2;simp only[QH]at F;exact F.2.1.symm
    have z:=Yh p;have A:=Yh D;clear q p D
    by_cases V:b+i<=30
    ·have W:¬((30:Int)<((b+i:Nat):Int)):=Yo
     go_wp2
     go_roundg (a.length-k)
     case measure=>omega
     case rel=>exact⟨k+1,Yg,Yo,Yo,by rw[A.o];exact V,z.o⟩
    ·have W:(30:Int)<((b+i:Nat):Int):=Yo
     go_wp2;go_ret2;exact⟨z.o.1,QO ⟨by have:=LB (B0 ts) a (k+1);rw[A.o]at this;omega,rfl⟩⟩
  ·have a8:k=a.length:=Yo
   subst a8;obtain⟨b,d⟩:∃n,n=(ap (B0 ts) (a.take a.length)).length:=⟨_,rfl⟩;rw[<-d]at aj⊢;have v:=Yh d;clear d;go_wp2;go_ret2;have d:=v.o;have l:=I.o;rw[QT]at d;obtain⟨P,ab,E⟩:=l;rw[QT]at E;refine⟨P,QG ⟨Yo,G,b,H,rfl,?_⟩⟩;rw[d];exact E
structure Iv(a:List BJ):Prop where
 wf:∃k,Wf k a
 len:a.length<=1000
 num:∀s∈a,s.num<=200000
def Fv(ts ls:Ll)(w:World)(e:Ending)(w':World):Prop:=Ao w w'/\
 (((∀l∈ls,(ap (B0 ts) l).length<=30)/\∃x c,e= .returned (.tuple #[.slice x ls.length c,.bool true])/\BL w.heap.size w' (.slice x ls.length c) (ls.map (ap (B0 ts))))\/((∃l∈ls,30<(ap (B0 ts) l).length)/\e= .returned (.tuple #[.slice none 0 0,.bool false])))
def H6(w:World)(tv:Value)(ts ls:Ll)(k:Nat)(rv:Value)(xs:Lv)(wr:World):Prop:=
 Ao w wr/\wr.heap[w.heap.size]?=some (.cells #[tv] 216 (0,0))/\AK wr w.heap.size rv ((ls.take k).map (ap (B0 ts))) xs/\∀x∈xs,∀j,x.ownBlock=some j->w.heap.size<=j
theorem H6.app{tv m n x:Value}(h:H6 w tv ts ls k m xs wr)(b:Ao wr w1)(hl:ls[k]?=some l)(i:w1.ownsRow w.heap.size 133 3 x (ap (B0 ts) l).length (Aq (ap (B0 ts) l)))(f:Ar w1 w.heap.size 105 1 m (k+1) (xs++[x]) n w2):H6 w tv ts ls (k+1) n (xs++[x]) w2:=by
 obtain⟨d,g,o,p⟩:=h;have e:=o.ext b;have hb:=(b.block _ (Ac g)).trans g;have r:=b.size;have s:=(Qa.1 hl).1;have q:((ls.take k).map (ap (B0 ts))).length=k:=by simp;omega
 refine⟨d.trans ((b.mono d.size).trans (f.kept.below (Qq d.size r) (fun j c=>(e.owns.lt j c).1))),(f.kept.block _ (Ac hb) (Ai e.owns Yd hb)).trans hb,?_,fun y a j c=> ?_⟩
 rotate_left
 ·rcases Qk.1 a with a|a
  ·exact p y a j c
  ·simp at a;subst a;exact(i.lt j c).1
 rw[QU,hl];simp only[Option.toList,Qr,Qx,QX];exact e.snoc (by rw[q];exact f) (AI i (Qm _))
theorem HO(w:World)(tv av:Value)(ts ls:Ll)(vs:Lv)(h:AK w 0 tv ts vs)(i:AF w av ls)(hl:ts.length<=200001)(M:∀t∈ts,t.length<=30)(az:ls.length<=4000)(J:∀l∈ls,Iv l):
  Calls prog 161 #[agg #[tv],av] w (Fv ts ls w):=by
 obtain⟨a6,i⟩:=i;obtain⟨ta,B,rfl⟩:=Ab h.owns;obtain⟨va,a8,rfl⟩:=Ab i.owns;have U:=Yh h;have r:=Yh i;have ac:=Yh M;have Z:=Yh J;clear h i M J;go_enter func161,ntmps161;go_wp2
 go_loopg [6,13] (ls.length+1) (fun gk an aj wr=>∃(k:Nat)(xs:Lv),aj=int i64 k/\k<=ls.length/\ls.length-k<gk/\(∀l∈ls.take k,(ap (B0 ts) l).length<=30)/\H6 w (slice ta ts.length B) ts ls k an xs wr)
 case atStart=>exact⟨0,[],Yg,Qm _,Yo,Ys,Mxt,QL w _,AK.nil _ _,Ys⟩
 case round=>
  obtain⟨k,xs,rfl,a2,a1,f,c⟩:=hrel;have I:((ls.take k).map (ap (B0 ts))).length=k:=by simp;omega
  have v:=c.2.2.1.owns;rw[I]at v;obtain⟨z,A,rfl⟩:=Ab v;have L:=c.1.size;have a0:=Ac c.2.1;have a5:wr.cell? ⟨w.heap.size,0,none⟩=some (slice ta ts.length B):=Aa c.2.1 0 _ rfl;have a:=Yh c;have C:=Yh f;clear c f v I
  by_cases ah:k<ls.length
  ·obtain⟨l,n⟩:∃l,ls[k]?=some l:=⟨_,Qb ah⟩;obtain⟨x,O,y⟩:=r.o.all _ l n;obtain⟨S,T,rfl⟩:=Ab y;obtain⟨g,ax,ay,G,_,H,_⟩:=An r.o.owns Yo;simp only[QH]at G;obtain⟨rfl,_,rfl⟩:=G;have af:=Ac H
   have a9:wr.cell? ⟨g,k,none⟩=some (slice S l.length T):=(a.o.1.cell (p:=⟨g,k,none⟩) af).trans (Af r.o.owns _ _ O);obtain⟨Q,ak,R⟩:=Z.o l (Qh n);have D:=Yh (Ug wr (slice ta ts.length B) (slice S l.length T) ts vs l (U.o.ext a.o.1) (BI.ext y a.o.1) Q hl ac.o ak R);have s:=Yh n;clear n O y H Q R;go_wp2_with fail;apply D.o.mono;rintro e w1 ⟨d,ai⟩;have a3:=d.size;rcases ai with⟨K,ao,ar,aq,rfl,P⟩|⟨F,rfl⟩
   ·have aa:YH (w1.ownsRow w.heap.size 105 1 (slice z k A) k xs):=by
     have:=(a.o.2.2.1.ext d).owns;rw[show((ls.take k).map (ap (B0 ts))).length=k by simp;omega]at this;exact this
    have X:=Yh d;have ab:=Yh K;have ad:=Yh P;clear d K P D
    go_wp2_with (at_builtin;go_loud (refine Al w1 rfl (.tmp 25) (.tmp 27) 85 rfl w.heap.size 105 infoSyms underlying85 rfl Yd (slice z k A) k xs rfl aa.o #[slice ao ar aq] (N:=w1.heap.size) rfl Ys rfl (Dw _ _ _) ?_ ?_ ?_))
    ·omega
    ·omega
    intro a7 w2 u;obtain⟨au,aw,rfl⟩:=Ab u.owns;have E:=a.o.app X.o s.o (AI ad.o L) u;have V:=Yh E;clear u E;go_wp2
    go_roundg (ls.length-k)
    case measure=>omega
    case rel=>
     refine⟨k+1,_,Yg,Yo,Yo,fun m b=> ?_,V.o⟩;rw[QU,s.o]at b;rcases Qk.1 b with b|b
     ·exact C.o m b
     ·simp at b;subst b;exact ab.o
   ·have W:YH (Ao w w1):=a.o.1.trans (d.mono L);have Y:YH (∃l∈ls,30<(ap (B0 ts) l).length):=⟨l,Qh s.o,F⟩;clear d F;go_wp2;go_ret2;exact⟨W.o,QO ⟨Y.o,rfl⟩⟩
  ·have ae:k=ls.length:=Yo
   subst ae;go_wp2;go_ret2;have f:=C.o;obtain⟨al,a4,q,am⟩:=a.o;rw[QT]at q f;exact⟨al,QG ⟨f,z,A,rfl,xs,⟨AI q.owns (Qm _),q.all⟩,fun j ag=>(q.owns.lt j ag).1,am⟩⟩
theorem Fv.form{e:Ending}(h:Fv ts ls w e w'):Ao w w'/\∃x n c b,e=Rq #[slice x n c,.bool b]/\(b=true->(∀l∈ls,(ap (B0 ts) l).length<=30)/\BL w.heap.size w' (slice x n c) (ls.map (ap (B0 ts))))/\(b=false->∃l∈ls,30<(ap (B0 ts) l).length):=by
 obtain⟨d,⟨a,x,c,rfl,f⟩|⟨a,rfl⟩⟩:=h
 ·exact⟨d,x,_,c,true,rfl,fun _=>⟨a,f⟩,fun h=>by simp at h⟩
 ·exact⟨d,none,0,0,false,rfl,fun h=>(by simp at h),fun _=>a⟩
def TH(ts gs vs ds:Ll)(u:Nat)(w:World)(e:Ending)(w':World):Prop:=Ao w w'/\
 (((∀l∈gs++(vs++ds),(ap (B0 ts) l).length<=30)/\∃g1 g2 g3 v1 v2 v3 r1 r2 r3,e= .returned (.tuple #[.agg #[.slice g1 g2 g3,.slice v1 v2 v3,.slice r1 r2 r3,.int .i64 u],.int .i64 1])/\BL w.heap.size w' (.slice g1 g2 g3) (gs.map (ap (B0 ts)))/\BL w.heap.size w' (.slice v1 v2 v3) (vs.map (ap (B0 ts)))/\BL w.heap.size w' (.slice r1 r2 r3) (ds.map (ap (B0 ts))))\/
  ((∃l∈gs++(vs++ds),30<(ap (B0 ts) l).length)/\e= .returned (.tuple #[.agg #[.slice none 0 0,.slice none 0 0,.slice none 0 0,.int .i64 0],.int .i64 2])))
theorem Mw(w:World)(tv V ag af:Value)(ts gs vs ds:Ll)(S:Lv)(u:Nat)(h:AK w 0 tv ts S)(f:AF w V gs)(g:AF w ag vs)(W:AF w af ds)(hl:ts.length<=200001)(M:∀t∈ts,t.length<=30)
  (br:gs.length<=4000) (bs:vs.length<=4000) (hd:ds.length<=4000) (K:∀l∈gs++(vs++ds),Iv l) (b3:u<=1000000):
  Calls prog 129 #[agg #[V,ag,af,int i64 u],agg #[tv]] w (TH ts gs vs ds u w):=by
 obtain⟨ta,n,rfl⟩:=Ab h.owns;obtain⟨x,z,rfl⟩:∃a c,V=slice a gs.length c:=by obtain⟨_,q⟩:=f;exact Ab q.owns
 obtain⟨va,C,rfl⟩:∃a c,ag=slice a vs.length c:=by obtain⟨_,q⟩:=g;exact Ab q.owns
 obtain⟨A,B,rfl⟩:∃a c,af=slice a ds.length c:=by obtain⟨_,q⟩:=W;exact Ab q.owns
 obtain⟨b,r⟩:=Ex (((w.alloc (.cells #[slice x gs.length z,slice va vs.length C,slice A ds.length B,int i64 u] 87)).alloc (.cells #[slice ta ts.length n] 216)).alloc (.cells #[Nl,Nl,Nl,int i64 0] 87));have m:Ao w b:=by rw[r];exact Mxt
 have b0:b.heap.size=w.heap.size+3:=by rw[r];simp
 have ab:b.heap[w.heap.size]?=some (.cells #[slice x gs.length z,slice va vs.length C,slice A ds.length B,int i64 u] 87 (0,0)):=by rw[r];exact Ah (Ah (QL w _) _) _
 have ac:b.heap[w.heap.size+1]?=some (.cells #[slice ta ts.length n] 216 (0,0)):=by
  rw[r];refine Ah ?_ _;have:=QL (w.alloc (.cells #[slice x gs.length z,slice va vs.length C,slice A ds.length B,int i64 u] 87)) (.cells #[slice ta ts.length n] 216);simpa using this
 have ad:b.heap[w.heap.size+2]?=some (.cells #[Nl,Nl,Nl,int i64 0] 87 (0,0)):=by
  rw[r];have:=QL ((w.alloc (.cells #[slice x gs.length z,slice va vs.length C,slice A ds.length B,int i64 u] 87)).alloc (.cells #[slice ta ts.length n] 216)) (.cells #[Nl,Nl,Nl,int i64 0] 87);simpa using this
 have ah:=Yh (HO b (slice ta ts.length n) (slice x gs.length z) ts gs S (h.ext m) (f.ext m) hl M br (fun l hl=>K l (by simp[hl])));have a6:YH (∀u,Ao b u->Calls prog 161 #[agg #[slice ta ts.length n],slice va vs.length C] u (Fv ts vs u)):=fun u k=>HO u _ _ ts vs S ((h.ext m).ext k) ((g.ext m).ext k) hl M bs (fun l hl=>K l (by simp[hl]));have a7:YH (∀u,Ao b u->Calls prog 161 #[agg #[slice ta ts.length n],slice A ds.length B] u (Fv ts ds u)):=fun u k=>HO u _ _ ts ds S ((h.ext m).ext k) ((W.ext m).ext k) hl M hd (fun l hl=>K l (by simp[hl]));have T:YH (∀y,Ao b y->y.cell? ⟨w.heap.size,0,none⟩=some (slice x gs.length z)/\y.cell? ⟨w.heap.size,1,none⟩=some (slice va vs.length C)/\y.cell? ⟨w.heap.size,2,none⟩=some (slice A ds.length B)/\y.cell? ⟨w.heap.size,3,none⟩=some (int i64 u)/\y.cell? ⟨w.heap.size+1,0,none⟩=some (slice ta ts.length n)/\
   y.heap[w.heap.size+2]?=some (.cells #[Nl,Nl,Nl,int i64 0] 87 (0,0))/\w.heap.size+2<y.heap.size):=fun y k=>by
  have H:=(k.block _ (Ac ab)).trans ab;have bh:=(k.block _ (Ac ac)).trans ac;have au:=(k.block _ (Ac ad)).trans ad;exact⟨Aa H 0 _ rfl,Aa H 1 _ rfl,Aa H 2 _ rfl,Aa H 3 _ rfl,Aa bh 0 _ rfl,au,Ac au⟩
 have a8:=Yh m;clear h f g W M K m ab ac ad;go_enter func129,ntmps129;go_wp2_with fail;rw[<-r];apply ah.o.mono;rintro e w1 a2;obtain⟨I,bi,bo,bl,b1,rfl,az,aw⟩:=a2.form;obtain⟨am,an,ao,aq,ar,d,s⟩:=T.o w1 I;have a5:=I.size;have be:=Yh az;have bb:=Yh aw;have ai:=Yh I;clear a2 az aw I ah r;go_wp2_with fail;apply(a6.o w1 ai.o).mono;rintro e w2 a3;obtain⟨J,bj,bp,bm,b2,rfl,a0,ax⟩:=a3.form;have X:=ai.o.trans (J.mono a5);obtain⟨am,an,ao,aq,ar,d,s⟩:=T.o w2 X;have bt:=J.size;have bf:=Yh a0;have bc:=Yh ax;have a9:=Yh J;have aj:=Yh X;clear a3 a0 ax J X;go_wp2_with fail;apply(a7.o w2 aj.o).mono;rintro e w3 a4;obtain⟨Y,bk,bq,bn,al,rfl,a1,ay⟩:=a4.form;have Z:=aj.o.trans (Y.mono (Qq a5 bt));obtain⟨am,an,ao,aq,ar,d,s⟩:=T.o w3 Z;have N:=Aa d 0 _ rfl;have O:=Aa d 1 _ rfl;have P:=Aa d 2 _ rfl;have Q:=Aa d 3 _ rfl;have R:=fun i=>Ag d i;have av:Ao w w3:=a8.o.trans (Z.mono Yo);have bg:=Yh a1;have bd:=Yh ay;have ak:=Yh Y;have ba:=Yh av;have U:=Yh d;clear a4 a1 ay Y Z av d;have ae:YH (b1=false\/b2=false\/al=false->∃l∈gs++(vs++ds),30<(ap (B0 ts) l).length):=by
  show _->_;rintro(h|h|h)
  ·obtain⟨l,f,g⟩:=bb.o h;exact⟨l,by simp[f],g⟩
  ·obtain⟨l,f,g⟩:=bc.o h;exact⟨l,by simp[f],g⟩
  ·obtain⟨l,f,g⟩:=bd.o h;exact⟨l,by simp[f],g⟩
 have L:YH (∀D E F G,Ao w ((((w3.setCell ⟨w.heap.size+2,0,none⟩ D).setCell ⟨w.heap.size+2,1,none⟩ E).setCell ⟨w.heap.size+2,2,none⟩ F).setCell ⟨w.heap.size+2,3,none⟩ G)):=fun D E F G=>
  (((ba.o.setCell (p:=⟨w.heap.size+2,0,none⟩) Ys _).setCell (p:=⟨w.heap.size+2,1,none⟩) Ys _).setCell (p:=⟨w.heap.size+2,2,none⟩) Ys _).setCell (p:=⟨w.heap.size+2,3,none⟩) Ys _
 cases b1 with
 |false=>
  go_wp2;refine Jb (v:=tuple #[agg #[Nl,Nl,Nl,int i64 0],int i64 2]) (by simp[results,results129,go_sem,N,O,P,Q,R,s]) rfl ?_;exact⟨L.o _ _ _ _,QO ⟨ae.o Ys,rfl⟩⟩
 |true=>
  cases b2 with
  |false=>
   go_wp2;refine Jb (v:=tuple #[agg #[Nl,Nl,Nl,int i64 0],int i64 2]) (by simp[results,results129,go_sem,N,O,P,Q,R,s]) rfl ?_;exact⟨L.o _ _ _ _,QO ⟨ae.o Ys,rfl⟩⟩
  |true=>
   cases al with
   |false=>
    go_wp2;refine Jb (v:=tuple #[agg #[Nl,Nl,Nl,int i64 0],int i64 2]) (by simp[results,results129,go_sem,N,O,P,Q,R,s]) rfl ?_;exact⟨L.o _ _ _ _,QO ⟨ae.o Ys,rfl⟩⟩
   |true=>
    go_wp2;refine Jb (v:=tuple #[agg #[slice bi bo bl,slice bj bp bm,slice bk bq bn,int i64 u],int i64 1]) (by simp[results,results129,go_sem,N,O,P,Q,R,s]) rfl ?_;have aa:∀D E F G,Ad (fun j=>j=w.heap.size+2) w3 ((((w3.setCell ⟨w.heap.size+2,0,none⟩ D).setCell ⟨w.heap.size+2,1,none⟩ E).setCell ⟨w.heap.size+2,2,none⟩ F).setCell ⟨w.heap.size+2,3,none⟩ G):=fun D E F G=>((((Ad.refl (only (w.heap.size+2)) w3).put 0 _).put 1 _).put 2 _).put 3 _;obtain⟨bu,bw⟩:=be.o Ys;obtain⟨s2,bx⟩:=bf.o Ys;obtain⟨bv,bz⟩:=bg.o Ys;refine⟨L.o _ _ _ _,QG ⟨fun l hl=> ?_,_,_,_,_,_,_,_,_,_,rfl,?_,?_,?_⟩⟩
    ·rcases Qk.1 hl with hl|hl
     ·exact bu l hl
     ·rcases Qk.1 hl with hl|hl
      ·exact s2 l hl
      ·exact bv l hl
    ·exact(((bw.ext a9.o).ext ak.o).box U.o Yd Yd (aa _ _ _ _)).mono Yo
    ·exact((bx.ext ak.o).box U.o Yd Yd (aa _ _ _ _)).mono Yo
    ·exact(bz.box U.o Yd Yd (aa _ _ _ _)).mono Yo
theorem Xu(a:Ly):a.map (rn 0)=a:=by
 have:∀s:BJ,rn 0 s=s:=fun s=>by
  unfold rn;split
  ·rename_i h;cases s;simp at h;subst h;rfl
  ·rfl
 induction a with
 |nil=>rfl
 |cons s a b=>rw[Qx,this,b]
theorem OW(w:World)(n:Nat):BI (w.alloc (.cells #[string ⟨#[]⟩,int i64 n,int i64 0] 133)) (slice (some ⟨w.heap.size,0,none⟩) 1 1) (vr n):=
 ⟨rfl,QO ⟨_,1,#[string ⟨#[]⟩,int i64 n,int i64 0],rfl,Qm _,QL w _,Qe _,by unfold maxLen;omega,rfl,rfl⟩⟩
theorem AK.aside{c n:Nat}(h:AK w B v ls vs)(hl:∀j,v.ownBlock=some j->j<c)(f:w.ownsRow c 105 1 vv n ys)(e:Ad (Ak vv) w w'):AK w' B v ls vs:=
 ⟨e.owns h.owns (fun j b a=>by have:=(f.lt j a).1;have:=hl j b;omega),fun i l hi=>by
  obtain⟨x,g,d⟩:=h.all i l hi;refine⟨x,g,e.owns d (fun j b a=> ?_)⟩;obtain⟨m,k⟩:=Ay f j a;exact Ai d Yd k b⟩
theorem AF.aside{a n:Nat}(h:AF w v ls)(hl:∀j,v.ownBlock=some j->j<a)(c:w.ownsRow a 105 1 vv n ys)(b:Ad (Ak vv) w w'):AF w' v ls:=by
 obtain⟨vs,h⟩:=h;exact⟨vs,h.aside hl c b⟩
theorem AF.box{cs:Av}{fr:Nat×Nat}(h:AF w v ls)(c:w.heap[M]?=some (.cells cs t fr))(a:105≠t)(b:133≠t)(d:Ad (fun k=>k=M) w w'):AF w' v ls:=by
 obtain⟨vs,h⟩:=h;exact⟨vs,h.box c a b d⟩
theorem AF.shape(h:AF w v ls):∃a c,v=slice a ls.length c:=by
 obtain⟨vs,h⟩:=h;exact Ab h.owns
abbrev NB(w:World)(b:Nat)(gv vv rv:Value)(u:Nat):Prop:=w.heap[b]?=some (.cells #[gv,vv,rv,.int .i64 u] 87 (0,0))
def K0(w0:World)(B:Nat)(l:Ly)(gv:Value)(n:Nat)(xs:Lv)(F:Value->World->Prop):Lv->World->Prop
 |[],u=>u=w0
 |[x],u=>GP l w0 (.returned x) u
 |[x,y],u=>∃u1,GP l w0 (.returned x) u1/\y= .slice (some ⟨u1.heap.size,0,none⟩) 1 1/\u=u1.alloc (.cells #[x] 105)
 |[x,_,z],u=>∃u1,GP l w0 (.returned x) u1/\Ar u1 B 105 1 gv (n+1) (xs++[x]) z u
 |[_,_,z,_],u=>F z u
 |_,_=>False
theorem K0.ext{n:Nat}{a:Value->World->Prop}:∀{vs:Lv}{u:World},K0 w0 B l gv n xs a vs u->vs.length<=2->Ao w0 u
 |[],u,h,_=>by obtain rfl:u=w0:=h;exact Jc _ _
 |[x],u,h,_=>by obtain⟨_,_,_,_,_,h⟩:=h;exact h
 |[x,y],u,h,_=>by
  obtain⟨b,⟨_,_,_,_,_,h⟩,_,rfl⟩:=h;exact h.alloc h.size _
 |_::_::_::_,_,_,h=>by simp at h
theorem CO{n:Nat}(h:w.heap.size=n)(o:Obj):(w.alloc o).heap[n]?=some o:=by subst h;exact QL w o
structure WP(w:World)(B2:Nat)(hv bv vv:Value)(ls:List (List BJ))(j:Nat)(gv v2:Value)(ys:List Value)(wr:World):Prop where
 ext:Ao w wr
 cls:wr.heap[w.heap.size]?=some (.cells #[hv,bv,vv] 107 (0,0))
 res:NB wr (w.heap.size+1) (.slice none 0 0) (.slice none 0 0) (.slice none 0 0) 0
 box:NB wr (w.heap.size+2) gv v2 (.slice none 0 0) 0
 goals:AF wr gv ls
 low:∀j,gv.ownBlock=some j->j<B2
 b1:w.heap.size<=B2
 b2:B2<=wr.heap.size
 vals:AK wr B2 v2 ((List.range j).map vr) ys
theorem WP.app{c:Nat}{s n t d:Value}{j:Nat}(h:WP w c s n vv ls j gv t ys wr)
  (a:Ar (wr.alloc (.cells #[string ⟨#[]⟩,int i64 j,int i64 0] 133)) c 105 1 t (j+1) (ys++[slice (some ⟨wr.heap.size,0,none⟩) 1 1]) d w2):WP w c s n vv ls (j+1) gv d (ys++[slice (some ⟨wr.heap.size,0,none⟩) 1 1]) (w2.setCell ⟨w.heap.size+2,1,none⟩ d):=by
 obtain⟨o,u,v,x,y,q,r,G,z⟩:=h;have l:Ao wr (wr.alloc (.cells #[string ⟨#[]⟩,int i64 j,int i64 0] 133)):=Mxt;have g:=Ah u (.cells #[string ⟨#[]⟩,int i64 j,int i64 0] 133);have i:=Ah v (.cells #[string ⟨#[]⟩,int i64 j,int i64 0] 133);have k:=Ah x (.cells #[string ⟨#[]⟩,int i64 j,int i64 0] 133);have b:=z.ext l;have b2:=(a.kept.block _ (Ac g) (Ai b.owns Yd g)).trans g;have m:=(a.kept.block _ (Ac i) (Ai b.owns Yd i)).trans i;have f:=(a.kept.block _ (Ac k) (Ai b.owns Yd k)).trans k;have e:Ad (fun j=>j=w.heap.size+2) w2 (w2.setCell ⟨w.heap.size+2,1,none⟩ d):=(Ad.refl (only (w.heap.size+2)) w2).put 1 _;have D:((List.range j).map vr).length=j:=Ys
 have F:AK w2 c d ((List.range (j+1)).map vr) (ys++[slice (some ⟨wr.heap.size,0,none⟩) 1 1]):=by
  rw[List.range_succ,Qr];exact b.snoc (by rw[D];exact a) (OW wr j)
 have E:=a.kept.size;have A:=a.kept.below (B:=c) Yp (fun j C=>(b.owns.lt j C).1);exact⟨(o.trans ((l.mono o.size).trans (A.mono r))).setCell (p:=⟨w.heap.size+2,1,none⟩) Ys _,(e.block _ (Ac b2) Ys).trans b2,(e.block _ (Ac m) Ys).trans m,Ae f 1 _,
  ((y.ext l).aside q b.owns a.kept).box f Yd Yd e,q,r,by simp at E⊢;omega,F.box f Yd Yd e⟩
def N8(w:World)(hv bv vv:Value)(ls:Ll)(k:Nat)(gv:Value)(xs:Lv)(wr:World):Prop:=
 Ao w wr/\wr.heap[w.heap.size]?=some (.cells #[hv,bv,vv] 107 (0,0))/\NB wr (w.heap.size+1) (.slice none 0 0) (.slice none 0 0) (.slice none 0 0) 0/\NB wr (w.heap.size+2) gv (.slice none 0 0) (.slice none 0 0) 0/\AK wr w.heap.size gv (ls.take k) xs
theorem N8.ext{g a:Value}(h:N8 w g a vv ls k gv xs wr)(e:Ao wr w1):N8 w g a vv ls k gv xs w1:=by
 obtain⟨b,c,d,f,i⟩:=h;exact⟨b.trans (e.mono b.size),(e.block _ (Ac c)).trans c,(e.block _ (Ac d)).trans d,(e.block _ (Ac f)).trans f,i.ext e⟩
theorem N8.app{q n a x:Value}(h:N8 w q n vv ls k gv xs w1)(hl:ls[k]?=some l)(u:BI w1 x l)(c:Ar w1 w.heap.size 105 1 gv (k+1) (xs++[x]) a w2):N8 w q n vv ls (k+1) a (xs++[x]) (w2.setCell ⟨w.heap.size+2,0,none⟩ a):=by
 obtain⟨o,d,e,f,b⟩:=h;have v:=(Qa.1 hl).1;have s:(ls.take k).length=k:=by simp;omega
 have b2:=(c.kept.block _ (Ac d) (Ai b.owns Yd d)).trans d;have i:=(c.kept.block _ (Ac e) (Ai b.owns Yd e)).trans e;have m:=(c.kept.block _ (Ac f) (Ai b.owns Yd f)).trans f;have g:Ad (fun j=>j=w.heap.size+2) w2 (w2.setCell ⟨w.heap.size+2,0,none⟩ a):=(Ad.refl (only (w.heap.size+2)) w2).put 0 _;have t:AK w2 w.heap.size a (ls.take (k+1)) (xs++[x]):=by
  rw[QU,hl];exact b.snoc (by rw[s];exact c) u
 refine⟨(o.trans (c.kept.below o.size (fun j r=>(b.owns.lt j r).1))).setCell (p:=⟨w.heap.size+2,0,none⟩) Ys _,(g.block _ (Ac b2) Ys).trans b2,(g.block _ (Ac i) Ys).trans i,Ae m 0 _,t.box m Yd Yd g⟩
def XW(ls:Ll)(n:Nat)(w:World)(e:Ending)(w':World):Prop:=Ao w w'/\∃g1 gc v1 vc,e= .returned (.agg #[.slice g1 ls.length gc,.slice v1 n vc,.slice none 0 0,.int .i64 n])/\AF w' (.slice g1 ls.length gc) ls/\AF w' (.slice v1 n vc) ((List.range n).map vr)
theorem Lm(w:World)(X aq bf:Value)(ls:Ll)(d:At)(bt:∃a n x,X=slice a n x)(hb:AF w aq ls)(a2:w.ownsRow 0 9 1 bf d.length (Ba d))(hl:ls.length<=4000)(hn:d.length<=4000)(a0:∀l∈ls,Iv l):
  Calls prog 51 #[agg #[X,aq,bf]] w (XW ls d.length w):=by
 obtain⟨ha,J,I,rfl⟩:=bt;obtain⟨cg,hb⟩:=hb;obtain⟨ae,H,rfl⟩:=Ab hb.owns;obtain⟨na,L,rfl⟩:=Ab a2;have ad:=Yh hb;have bj:=Yh a0;clear hb a2 a0;go_enter func51,ntmps51;go_wp2
 go_loopg [10] (ls.length+1) (fun gk ai wr=>∃(k:Nat)(ar:Value)(xs:Lv),ai=int i64 k/\k<=ls.length/\ls.length-k<gk/\N8 w (slice ha J I) (slice ae ls.length H) (slice na d.length L) ls k ar xs wr)
 case atStart=>
  refine⟨0,Nl,[],Yg,Qm _,Yo,Mxt,Ah (Ah (QL w _) _) _,Ah ?_ _,?_,AK.nil _ _⟩
  ·exact CO Ys _
  ·exact CO Ys _
 case round=>
  obtain⟨k,ar,xs,rfl,cd,cc,q⟩:=hrel;have az:(ls.take k).length=k:=by simp;omega
  have s:=q.2.2.2.2.owns;rw[az]at s;obtain⟨t,z,rfl⟩:=Ab s;have a4:=q.1.size;have bc:=Aa q.2.1 2 _ rfl;have aj:wr.cell? ⟨w.heap.size+2,0,none⟩=some (slice t k z):=Aa q.2.2.2.1 0 _ rfl;have a6:=Aa q.2.2.2.1 1 _ rfl;have a7:=Aa q.2.2.2.1 2 _ rfl;have a8:=Aa q.2.2.2.1 3 _ rfl;have a9:=fun i=>Ag q.2.2.2.1 i;have ak:=Ac q.2.2.2.1;have G:=Yh q;clear q s az
  by_cases a1:k<ls.length
  ·obtain⟨l,W⟩:∃l,ls[k]?=some l:=⟨_,Qb a1⟩;obtain⟨x,a5,ah⟩:=ad.o.all _ l W;obtain⟨Z,aa,rfl⟩:=Ab ah;obtain⟨g,b8,b9,r,_,ax,_⟩:=An ad.o.owns Yo;simp only[QH]at r;obtain⟨rfl,_,rfl⟩:=r;have bs:=Ac ax
   have F:wr.cell? ⟨g,k,none⟩=some (slice Z l.length aa):=(G.o.1.cell (p:=⟨g,k,none⟩) bs).trans (Af ad.o.owns _ _ a5);obtain⟨_,ba,bb⟩:=bj.o l (Qh W);have T:=GR wr.drew (slice Z l.length aa) l 0 (BI.ext ah (G.o.1.trans ⟨rfl,rfl,rfl,Qe _,fun _ _=>rfl⟩)) ba bb Yo;rw[Xu]at T;have T:=Yh T;have bk:=Yh W;clear W a5 ah ax ba bb;go_wp2_with fail;have S:N8 w (slice ha J I) (slice (some ⟨g,0,none⟩) ls.length H) (slice na d.length L) ls k (slice t k z) xs wr.drew:=G.o.ext ⟨rfl,rfl,rfl,Qe _,fun _ _=>rfl⟩;refine BW Yk 999 [.rd 0 3 (fun _=>Pt (w.heap.size+2)),.rd 0 2 (fun _=>slice t k z),.rd 0 3 (fun _=>slice Z l.length aa),.st 0,.st 1,.st 2,.rd 0 3 (fun _=>Pt (w.heap.size+2)),.st 3] 4 6 Yk
    (K0 wr.drew w.heap.size l (slice t k z) k xs (fun m u=>∃ao,N8 w (slice ha J I) (slice (some ⟨g,0,none⟩) ls.length H) (slice na d.length L) ls (k+1) m ao u)) rfl ?_ ?_
   ·refine⟨⟨trivial,fun vs u _ hl f=> ?_⟩,⟨trivial,fun vs u _ hl f=> ?_⟩,⟨trivial,fun vs u _ hl f=> ?_⟩,⟨trivial,fun vs u hl f=> ?_⟩,⟨trivial,fun vs u hl f=> ?_⟩,⟨trivial,fun vs u hl f=> ?_⟩,⟨trivial,fun vs u _ hl f=> ?_⟩,⟨trivial,fun vs u hl f=> ?_⟩,trivial⟩
    ·simp[go_sem]
    ·have b5:u.cell? ⟨w.heap.size+2,0,none⟩=some (slice t k z):=((f.ext hl).cell (p:=⟨w.heap.size+2,0,none⟩) ak).trans aj;simp[go_sem,b5]
    ·simp[go_sem]
    ·obtain rfl:=Q3.1 hl;have bw:u=wr.drew:=f;subst bw;refine .call 74 #[slice Z l.length aa,int i64 0] _ (by simp[go_sem]) (T.o.mono ?_);rintro e u ⟨v,B,rfl,h⟩;exact⟨v,rfl,v,B,rfl,h⟩
    ·obtain⟨x,rfl⟩:=Q1.1 hl;have bo:=f;obtain⟨bg,B',r,b,K,D⟩:=bo;simp only[Ending.returned.injEq]at r;subst r;obtain⟨am,an,rfl⟩:=Ab K;exact .value (slice (some ⟨u.heap.size,0,none⟩) 1 1) (u.alloc (.cells #[slice am l.length an] 105)) (by simp[go_sem]) ⟨u,f,rfl,rfl⟩
    ·obtain⟨x,y,rfl⟩:∃x y,vs=[x,y]:=by
      match vs,hl with
      |[x,y],_=>exact⟨x,y,rfl⟩
     obtain⟨Y,V,rfl,rfl⟩:=f;have bp:=V;obtain⟨bg,B',r,b,K,D⟩:=bp;simp only[Ending.returned.injEq]at r;subst r;obtain⟨am,an,rfl⟩:=Ab K;have s:Y.ownsRow w.heap.size 105 1 (slice t k z) k xs:=by
      have:=(S.ext D).2.2.2.2.owns;rw[show(ls.take k).length=k by simp;omega]at this;exact this
     have bv:=D.size;obtain⟨m,w',bu,A⟩:=E2 (P:=prog) Y 85 85 w.heap.size 105 infoSyms underlying85 rfl Yd (slice t k z) k xs s #[slice am l.length an] rfl (Dw _ _ _) Yo (Qq a4 bv);refine .value m w' (GQ (.tmp 15) (.tmp 18) 85 rfl (by simp[go_sem]) (by simp[go_sem]) bu) ⟨Y,V,by simpa using A⟩
    ·simp[go_sem]
    ·obtain⟨x,y,m,rfl⟩:∃x y m,vs=[x,y,m]:=by
      match vs,hl with
      |[x,y,m],_=>exact⟨x,y,m,rfl⟩
     obtain⟨Y,V,A⟩:=f;obtain⟨bg,B',r,b,K,D⟩:=V;simp only[Ending.returned.injEq]at r;subst r;obtain⟨ci,cj,rfl⟩:=Ab A.owns;have U:=(S.ext D).app bk.o (AI K (Qm _)) A;have C:=(S.ext D).2.2.2.1;have E:=(A.kept.block _ (Ac C) (Ai (S.ext D).2.2.2.2.owns Yd C)).trans C;have bl:=Aa E 0 _ rfl;have f4:=Ag E 0;exact .skip _ (by simp[go_sem,bl,f4]) ⟨_,U⟩
   ·rintro vs u hl f;obtain⟨x,y,m,ab,rfl⟩:∃x y m ab,vs=[x,y,m,ab]:=by
     match vs,hl with
     |[x,y,m,ab],_=>exact⟨x,y,m,ab,rfl⟩
    obtain⟨ao,U⟩:=f;simp only[EB,IB,CD,pa,Ph.kd,Ph.val,Kd.val,Qx,QX,Ja,Act.put,JC,JD,JG];have bh:=Yh U;clear U;go_wp2
    go_roundg (ls.length-k)
    case measure=>omega
    case rel=>exact⟨k+1,_,ao,Yg,Yo,Yo,bh.o⟩
  ·have br:k=ls.length:=Yo
   subst br;have b:WP w wr.heap.size (slice ha J I) (slice ae ls.length H) (slice na d.length L) ls 0 (slice t ls.length z) Nl [] wr:=by
    obtain⟨au,bm,bn,C,af⟩:=G.o;rw[QT]at af;exact⟨au,bm,bn,C,af.inn,fun j ay=>(af.owns.lt j ay).2,au.size,Qe _,AK.nil _ _⟩
   have c:=Yh b;obtain⟨al,bx⟩:∃x,x=wr:=⟨_,rfl⟩;subst bx;clear G b;go_wp2
   go_loopg [25] (d.length+1) (fun gk ai wr=>∃(j:Nat)(be:Value)(ac:Lv),ai=int i64 j/\j<=d.length/\d.length-j<gk/\WP w al.heap.size (slice ha J I) (slice ae ls.length H) (slice na d.length L) ls j (slice t ls.length z) be ac wr)
   case atStart=>exact⟨0,Nl,[],Yg,Qm _,Yo,c.o⟩
   case round=>
    clear bc aj a6 a7 a8 a9 ak c;obtain⟨j,be,ac,rfl,ay,cb,b⟩:=hrel;have s:=b.vals.owns;rw[show((List.range j).map vr).length=j by simp]at s;obtain⟨va,M,rfl⟩:=Ab s;have a4:=b.ext.size;have ca:=b.b2;have bc:=Aa b.cls 2 _ rfl;have aj:=Aa b.box 0 _ rfl;have a6:wr.cell? ⟨w.heap.size+2,1,none⟩=some (slice va j M):=Aa b.box 1 _ rfl;have a7:=Aa b.box 2 _ rfl;have a8:=Aa b.box 3 _ rfl;have a9:=fun i=>Ag b.box i;have ak:=Ac b.box;have c:=Yh b;have ap:YH ((wr.alloc (.cells #[string ⟨#[]⟩,int i64 j,int i64 0] 133)).ownsRow al.heap.size 105 1 (slice va j M) j ac):=Aj s (fun i hi=>Jd _ _ _ (s.lt i hi).2);clear b s
    by_cases a1:j<d.length
    ·go_wp2_with (at_builtin;go_loud (refine Al (wr.alloc (.cells #[string ⟨#[]⟩,int i64 j,int i64 0] 133)) rfl (.tmp 29) (.tmp 33) 85 rfl al.heap.size 105 infoSyms underlying85 rfl Yd (slice va j M) j ac rfl ap.o #[slice (some ⟨wr.heap.size,0,none⟩) 1 1] (N:=wr.heap.size+1) rfl Ys rfl (Dw _ _ _) ?_ ?_ ?_))
     ·omega
     ·simp;omega
     intro ch w2 A;obtain⟨b6,b7,rfl⟩:=Ab A.owns;have av:=c.o.app A;have E:w2.heap[w.heap.size+2]?=some (.cells #[slice t ls.length z,slice va j M,Nl,int i64 0] 87 (0,0)):=by
      have C:=Ah c.o.box (.cells #[string ⟨#[]⟩,int i64 j,int i64 0] 133);exact(A.kept.block _ (Ac C) (Ai ap.o Yd C)).trans C
     have ce:=Aa E 1 _ rfl;have cf:=fun i=>Ag E i;have bi:=Yh av;clear A av E;go_wp2
     go_roundg (d.length-j)
     case measure=>omega
     case rel=>exact⟨j+1,_,_,Yg,Yo,Yo,bi.o⟩
    ·have bq:j=d.length:=Yo
     subst bq;have bz:=Aa c.o.res 0 _ rfl;have b0:=Aa c.o.res 1 _ rfl;have b1:=Aa c.o.res 2 _ rfl;have b3:=Aa c.o.res 3 _ rfl;have b4:=fun i=>Ag c.o.res i;have bd:=Ac c.o.res;go_wp2;refine Jb (v:=agg #[slice t ls.length z,slice va d.length M,Nl,int i64 d.length]) (by simp[results,results51,go_sem,bz,b0,b1,b3,b4,bd]) rfl ?_;have D:∀F O Q R x,Ao w (((((wr.setCell ⟨w.heap.size+2,3,none⟩ x).setCell ⟨w.heap.size+1,0,none⟩ F).setCell ⟨w.heap.size+1,1,none⟩ O).setCell ⟨w.heap.size+1,2,none⟩ Q).setCell ⟨w.heap.size+1,3,none⟩ R):=fun F O Q R x=>
      ((((c.o.ext.setCell (p:=⟨w.heap.size+2,3,none⟩) Ys _).setCell (p:=⟨w.heap.size+1,0,none⟩) Ys _).setCell (p:=⟨w.heap.size+1,1,none⟩) Ys _).setCell (p:=⟨w.heap.size+1,2,none⟩) Ys _).setCell (p:=⟨w.heap.size+1,3,none⟩) Ys _
     have ag:∀x,Ad (fun j=>j=w.heap.size+2) wr (wr.setCell ⟨w.heap.size+2,3,none⟩ x):=fun x=>(Ad.refl (only (w.heap.size+2)) wr).put 3 _;have aw:∀(y:World) F O Q R,Ad (fun j=>j=w.heap.size+1) y ((((y.setCell ⟨w.heap.size+1,0,none⟩ F).setCell ⟨w.heap.size+1,1,none⟩ O).setCell ⟨w.heap.size+1,2,none⟩ Q).setCell ⟨w.heap.size+1,3,none⟩ R):=fun y F O Q R=>((((Ad.refl (only (w.heap.size+1)) y).put 0 _).put 1 _).put 2 _).put 3 _;have a3:∀x,(wr.setCell ⟨w.heap.size+2,3,none⟩ x).heap[w.heap.size+1]?=some (.cells #[Nl,Nl,Nl,int i64 0] 87 (0,0)):=fun x=>((ag x).block _ bd Ys).trans c.o.res;have X:=c.o.vals.inn;exact⟨D _ _ _ _ _,_,_,_,_,rfl,(c.o.goals.box c.o.box Yd Yd (ag _)).box (a3 _) Yd Yd (aw _ _ _ _ _),(X.box c.o.box Yd Yd (ag _)).box (a3 _) Yd Yd (aw _ _ _ _ _)⟩
theorem ON(s:ByteArray)(w:World)(hl:s.size<=800):
  Calls prog 72 #[string s] w fun e w'=>Below w.heap.size w w'/\(((Cp s false).1≠0/\e=Rq #[Nl,agg #[int i64 (Cp s false).1,int i64 (Cp s false).2.1]])\/
   ((Cp s false).1=0/\∃v B f g xs,e=Rq #[v,agg #[int i64 0,int i64 0]]/\Fh w' B f g v (Cp s false).2.2.clauses xs/\w.heap.size<=B)):=by
 obtain⟨a,j⟩:=Ex (Cp s false);have c:=Hj ((w.alloc (.cells #[int i64 0,int i64 0] 91)).alloc (.cells (Cm (HY false) Of) 169)) _ _ (HY false) s (Tg (w.alloc (.cells #[int i64 0,int i64 0] 91)) false) (N3 false) Yo;rw[show EF s.size (CZ s.data.toList 0) (HY false)=a from j.symm]at c;rw[show(w.alloc (.cells #[int i64 0,int i64 0] 91)).heap.size=w.heap.size+1 from by simp]at c;have y:=Yh c;rw[<-j];clear j c;go_enter func72,ntmps72;go_wp2_with fail;apply y.o.mono;rintro e w2 ⟨rfl,O,hb⟩;have i:C3 w2 w.heap.size 0 0:=(hb.block w.heap.size Yo).trans (Ah (QL w _) _);have u:Below w.heap.size w w2:=((Jc _ w).alloc (Qe _) _).trans ((((Jc _ _).alloc Ys _)).trans (hb.mono Yo));obtain⟨V,f,g,vs,xs,h⟩:=O;have Q:=Ac h.blk;obtain⟨E,F,G,H,I,J,K,L,M⟩:=h.opens.facts;obtain⟨ca,N,m⟩:=Ab h.rest.cls.1;rw[m]at M;obtain⟨x,q,r,t⟩:=i.cells;have A:=Yh i;have n:=Yh u;have z:=Yh h.rest.cls;have C:=Yh m;clear i u h m hb E F G H I J K L
 by_cases b:a.1=0
 ·have D:((a.1:Int) !=0)=false:=by rw[b];rfl
  have d:=Yh b;clear b;go_wp2;refine Jb (v:=tuple #[slice ca a.2.2.clauses.length N,agg #[int i64 0,int i64 0]]) (by simp[results,results72,go_sem,q,r,t,x]) rfl ?_;refine⟨?_,QO ⟨d.o,_,w.heap.size+1,f,g,xs,rfl,?_,Yo⟩⟩
  ·exact((n.o.setCell (p:=⟨w.heap.size,0,none⟩) (Qe _) _).setCell (p:=⟨w.heap.size,1,none⟩) (Qe _) _).alloc Yp _
  ·rw[<-C.o];exact Lf z.o ((((Ad.refl (only w.heap.size) w2).put 0 _).put 1 _).alloc _) (fun k P T fr l hb=>by
    have l:k=w.heap.size:=l;rw[l,A.o]at hb;simp only[Qo,Obj.cells.injEq]at hb;rw[<-hb.2.1];decide)
 ·have D:((a.1:Int) !=0)=true:=by rw[QR];omega
  have d:=Yh b;clear b;go_wp2_with fail;go_region
  all_goals
   go_wp2;refine Jb (v:=tuple #[Nl,agg #[int i64 a.1,int i64 a.2.1]]) (by simp[results,results72,go_sem,q,r,t,x]) rfl ?_;refine⟨?_,QG ⟨d.o,rfl⟩⟩;exact(((n.o.setCell (p:=⟨w.heap.size,0,none⟩) (Qe _) _).setCell (p:=⟨w.heap.size,1,none⟩) (Qe _) _).alloc Yp _).drew
def VC(p:ByteArray)(w:World)(e:Ending)(w':World):Prop:=Ao w w'/\((Bz p=none/\∃er pl:Nat,er≠0/\e= .returned (.tuple #[.slice none 0 0,.agg #[.int .i64 er,.int .i64 pl]]))\/
 (∃cs a c xs,Bz p=some cs/\e= .returned (.tuple #[.slice a cs.length c,.agg #[.int .i64 0,.int .i64 0]])/\Dy w' (.slice a cs.length c) cs xs/\∀j,(Value.slice a cs.length c).ownBlock=some j->w.heap.size<=j))
theorem UR(p:ByteArray)(w:World)(m:p.size<=maxLen):Calls prog 72 #[string p] w (VC p w):=by
 by_cases hb:800<p.size
 ·apply(Ij p w m hb).mono;rintro e w' ⟨rfl,b⟩;exact⟨b,QG ⟨by unfold Bz;rw[QQ hb],1,0,Yo,rfl⟩⟩
 ·apply(ON p w Yo).mono;rintro e w' ⟨b,⟨g,rfl⟩|⟨h0,v,B,o,q,xs,rfl,d,k⟩⟩
  ·obtain⟨f,_,_⟩:=BS p false;refine⟨b,QG ⟨?_,_,_,g,rfl⟩⟩;unfold Bz;rw[QP hb,QQ (by rw[<-f];exact g)]
  ·obtain⟨f,_,_⟩:=BS p false;obtain⟨cs,h,i⟩:=Jv p Yo h0;have n:Bz p=some cs:=by
    unfold Bz;rw[QP hb,QP (by rw[<-f];simp[h0]),h]
   rw[i]at d;obtain⟨a,c,rfl⟩:=Ab d.1;exact⟨b,QO ⟨cs,a,c,xs,n,rfl,d.prog,fun j l=>Qq k (d.1.lt j l).1⟩⟩
def Xo(q:ByteArray)(w:World)(e:Ending)(w':World):Prop:=Ao w w'/\((Cn q=none/\∃er pl:Nat,er≠0/\e= .returned (.tuple #[.agg #[.slice none 0 0,.slice none 0 0,.slice none 0 0],.agg #[.int .i64 er,.int .i64 pl]]))\/
 (∃a h1 h2 h3 b1 bc n1 nc,Cn q=some a/\e= .returned (.tuple #[.agg #[.slice h1 h2 h3,.slice b1 a.1.length bc,.slice n1 a.2.length nc],.agg #[.int .i64 0,.int .i64 0]])/\AF w' (.slice b1 a.1.length bc) a.1/\w'.ownsRow 0 9 1 (.slice n1 a.2.length nc) a.2.length (Ba a.2)))
theorem WT(q:ByteArray)(w:World)(o:q.size<=maxLen):Calls prog 73 #[string q] w (Xo q w):=by
 by_cases hb:120<q.size
 ·apply(Kg q w o hb).mono;rintro e w' ⟨rfl,a⟩;exact⟨a,QG ⟨by unfold Cn;rw[QQ hb],1,0,Yo,rfl⟩⟩
 ·refine(Ix q w Yo (fun h0=> ?_)).mono ?_
  ·obtain⟨x,g,b,_⟩:=Ec q Yo h0;exact⟨_,_,b⟩
  rintro e w' ⟨a,⟨i,rfl⟩|⟨h0,t,s,u,B,r,vs,c,cs,rfl,d,⟨k,l,m,rfl⟩,hn,h⟩⟩
  ·obtain⟨f,_,_⟩:=BS q true;refine⟨a,QG ⟨?_,_,_,i,rfl⟩⟩;unfold Cn;rw[QP hb,QQ (by rw[<-f];exact i)]
  ·obtain⟨f,_,_⟩:=BS q true;obtain⟨x,g,b,_⟩:=Ec q Yo h0;have n:Cn q=some (x.1,x.2.2):=by
    unfold Cn;rw[QP hb,QP (by rw[<-f];simp[h0]),g];rfl
   rw[b]at d;simp only[QI]at d;obtain⟨rfl,_⟩:=d;obtain⟨p,nc,rfl⟩:=Ab hn;obtain⟨b1,j,rfl⟩:=Ab h.1;exact⟨a,QO ⟨(x.1,x.2.2),k,l,m,b1,j,p,nc,n,rfl,h.terms,AI hn (Qm _)⟩⟩
def WF(p q:ByteArray)(w:World)(e:Ending)(w':World):Prop:=Ao w w'/\((Bz p=none/\e= .returned (.tuple #[.slice none 0 0,.agg #[.slice none 0 0,.slice none 0 0,.slice none 0 0],.int .i64 4]))\/
 ((∃cs,Bz p=some cs)/\Cn q=none/\e= .returned (.tuple #[.slice none 0 0,.agg #[.slice none 0 0,.slice none 0 0,.slice none 0 0],.int .i64 5]))\/
 (∃cs a l1 lc xs h1 h2 h3 b1 bc n1 nc,Bz p=some cs/\Cn q=some a/\e= .returned (.tuple #[.slice l1 cs.length lc,.agg #[.slice h1 h2 h3,.slice b1 a.1.length bc,.slice n1 a.2.length nc],.int .i64 0])/\Dy w' (.slice l1 cs.length lc) cs xs/\AF w' (.slice b1 a.1.length bc) a.1/\w'.ownsRow 0 9 1 (.slice n1 a.2.length nc) a.2.length (Ba a.2)))
theorem Dy.box{n:Av}{fr:Nat×Nat}{xs:List (Lv)}(h:Dy w v cs xs)(b:w.heap[M]?=some (.cells n t fr))(a:107≠t\/∀j,v.ownBlock=some j->j≠M)(p:105≠t)(l:133≠t)(q:9≠t)(e:Ad (fun k=>k=M) w w'):Dy w' v cs xs:=
 ⟨e.owns h.owns (fun j g d=>by
  rcases a with a|a
  ·have d:j=M:=d;rw[d]at g;exact Ai h.owns a b g
  ·exact a j g d),h.len,h.three,fun i c r=>by
  obtain⟨s,m,u,o,f⟩:=h.all i c r;exact⟨s,m,u,o,Bv f.head b l e,f.body.box b p l e,Bv f.names b q e⟩⟩
theorem Ka(p q:ByteArray)(w:World)(M:p.size<=maxLen)(N:q.size<=maxLen):Calls prog 50 #[string p,string q] w (WF p q w):=by
 have T:=Yh (fun u=>UR p u M);have U:=Yh (fun u=>WT q u N);clear M N;go_enter func50,ntmps50;go_wp2_with fail;apply(T.o _).mono;rintro e w1 ⟨d,z⟩;have aa:=d.size;simp at aa;have b:w1.heap[w.heap.size]?=some (.cells #[Nl,Nl,Nl] 107 (0,0)):=(d.block _ Ys).trans (QL w _);obtain⟨g,b1,b2,h⟩:w1.cell? ⟨w.heap.size,0,none⟩=some Nl/\w1.cell? ⟨w.heap.size,1,none⟩=some Nl/\w1.cell? ⟨w.heap.size,2,none⟩=some Nl/\∀i,w1.frozen? ⟨w.heap.size,i,none⟩=false:=⟨Aa b 0 _ rfl,Aa b 1 _ rfl,Aa b 2 _ rfl,fun i=>Ag b i⟩;have J:w.heap.size<w1.heap.size:=Yo
 have D:YH (Ao w w1):=(Mxt:Ao w (w.alloc _)).trans (d.mono Ys);have W:=Yh b;rcases z with⟨f,s,ac,Z,rfl⟩|⟨cs,la,B,xs,P,rfl,O,L⟩
 ·have hb:((s:Int) !=0)=true:=by rw[QR];omega
  have n:=Yh f;clear f d b;go_wp2;refine Jb (v:=tuple #[Nl,agg #[Nl,Nl,Nl],int i64 4]) (by simp[results,results50,go_sem,g,b1,b2,h,J]) rfl ?_;refine⟨D.o.trans (Ad.below (S:=fun i=>w.heap.size<=i) Mst Yo (fun i e=>e)),QG ⟨n.o,rfl⟩⟩
 ·have Y:=Yh O;have F:=Yh P;have X:YH (∀j,(Value.slice la cs.length B).ownBlock=some j->j≠w.heap.size):=fun j A=>by
   have:=L j A;simp at this;omega
  clear O P d b L;go_wp2_with fail;apply(U.o _).mono;rintro e w2 ⟨l,z⟩;have ab:=l.size;simp at ab;have k:Ao w1 w2:=(Jc _ w1|>.alloc (Qe _) _).trans (l.mono Ys);have c:=(k.block _ J).trans W.o;obtain⟨g,b1,b2,h⟩:w2.cell? ⟨w.heap.size,0,none⟩=some Nl/\w2.cell? ⟨w.heap.size,1,none⟩=some Nl/\w2.cell? ⟨w.heap.size,2,none⟩=some Nl/\∀i,w2.frozen? ⟨w.heap.size,i,none⟩=false:=⟨Aa c 0 _ rfl,Aa c 1 _ rfl,Aa c 2 _ rfl,fun i=>Ag c i⟩;have K:w.heap.size<w2.heap.size:=Yo
  have E:YH (Ao w w2):=D.o.trans (k.mono Yo);have m:=Yh c;have R:=Yh k;clear k;rcases z with⟨f,s,ac,Z,rfl⟩|⟨a,t,x,y,r,cc,C,nc,I,rfl,G,H⟩
  ·have hb:((s:Int) !=0)=true:=by rw[QR];omega
   have n:=Yh f;clear f l c;go_wp2;refine Jb (v:=tuple #[Nl,agg #[Nl,Nl,Nl],int i64 5]) (by simp[results,results50,go_sem,g,b1,b2,h,K]) rfl ?_;refine⟨E.o.trans (Ad.below (S:=fun i=>w.heap.size<=i) Mst Yo (fun i e=>e)),QO (QG ⟨⟨cs,F.o⟩,n.o,rfl⟩)⟩
  ·have Q:=Yh G;have HN:=Yh H;have V:=Yh I;clear G H I l c;go_wp2_with fail;go_region
   all_goals
    go_wp2;refine Jb (v:=tuple #[slice la cs.length B,agg #[slice t x y,slice r a.1.length cc,slice C a.2.length nc],int i64 0]) (by simp[results,results50,go_sem,g,b1,b2,h,K]) rfl ?_;refine⟨E.o.trans (Ad.below (S:=fun i=>w.heap.size<=i) Mst Yo (fun i e=>e)),QO (QO ⟨cs,a,la,B,xs,t,x,y,r,cc,C,nc,F.o,V.o,rfl,?_,?_,?_⟩)⟩
    ·exact((Y.o.ext R.o).box m.o (QO X.o) Yd Yd Yd ((((Ad.refl (only w.heap.size) w2).put 0 _).put 1 _).put 2 _)).ext Mxt
    ·exact(Q.o.box m.o Yd Yd ((((Ad.refl (only w.heap.size) w2).put 0 _).put 1 _).put 2 _)).ext Mxt
    ·exact Aj (Bv HN.o m.o Yd ((((Ad.refl (only w.heap.size) w2).put 0 (slice t x y)).put 1 (slice r a.1.length cc)).put 2 (slice C a.2.length nc))) (fun j A=>(Mxt:Ao _ _).block j (by simp;have:=(HN.o.lt j A).2;omega))
structure Vl(w:World)(gv vv rv:Value)(u uu:Nat)(hv bv nv:Value)(gl:List (List BJ))(g:Value)(xs:List Value)(wr:World):Prop where
 ext:Ao w wr
 nb:NB wr w.heap.size gv vv rv u
 cb:wr.heap[w.heap.size+1]?=some (.cells #[hv,bv,nv] 107 (0,0))
 res:NB wr (w.heap.size+2) (.slice none 0 0) (.slice none 0 0) (.slice none 0 0) 0
 box:NB wr (w.heap.size+3) g vv (.slice none 0 0) uu
 row:AK wr w.heap.size g gl xs
theorem Vl.on{k j a nv g:Value}{u l:Nat}{gl:Ll}(h:Vl w gv vv k u l j a nv gl g xs wr)(e:Ao wr w1):Vl w gv vv k u l j a nv gl g xs w1:=by
 obtain⟨b,c,d,f,i,m⟩:=h;exact⟨b.trans (e.mono b.size),(e.block _ (Ac c)).trans c,(e.block _ (Ac d)).trans d,(e.block _ (Ac f)).trans f,(e.block _ (Ac i)).trans i,m.ext e⟩
theorem Vl.app{v t r nv g c x:Value}{u y n:Nat}{gl:Ll}(h:Vl w gv vv v u y t r nv gl g xs w1)(hn:gl.length=n)(A:BI w1 x l)(b:Ar w1 w.heap.size 105 1 g (n+1) (xs++[x]) c w2):
  Vl w gv vv v u y t r nv (gl++[l]) c (xs++[x]) (w2.setCell ⟨w.heap.size+3,0,none⟩ c):=by
 obtain⟨s,e,f,i,k,a⟩:=h;have b2:=(b.kept.block _ (Ac e) (Ai a.owns Yd e)).trans e;have m:=(b.kept.block _ (Ac f) (Ai a.owns Yd f)).trans f;have o:=(b.kept.block _ (Ac i) (Ai a.owns Yd i)).trans i;have q:=(b.kept.block _ (Ac k) (Ai a.owns Yd k)).trans k;have d:Ad (fun j=>j=w.heap.size+3) w2 (w2.setCell ⟨w.heap.size+3,0,none⟩ c):=(Ad.refl (only (w.heap.size+3)) w2).put 0 _;exact⟨(s.trans (b.kept.below s.size (fun j z=>(a.owns.lt j z).1))).setCell (p:=⟨w.heap.size+3,0,none⟩) Ys _,(d.block _ (Ac b2) Ys).trans b2,(d.block _ (Ac m) Ys).trans m,(d.block _ (Ac o) Ys).trans o,Ae q 0 _,
  (a.snoc (by rw[hn];exact b) A).box q Yd Yd d⟩
structure XE(w:World)(B:Nat)(gv vv rv:Value)(u uu:Nat)(hv bv nv:Value)(gl:List (List BJ))(g:Value)(rl:List (List BJ))(r:Value)(ys:List Value)(wr:World):Prop where
 ext:Ao w wr
 nb:NB wr w.heap.size gv vv rv u
 cb:wr.heap[w.heap.size+1]?=some (.cells #[hv,bv,nv] 107 (0,0))
 res:NB wr (w.heap.size+2) (.slice none 0 0) (.slice none 0 0) (.slice none 0 0) 0
 box:NB wr (w.heap.size+3) g vv r uu
 goals:AF wr g gl
 low:∀j,g.ownBlock=some j->j<B
 b1:w.heap.size<=B
 b2:B<=wr.heap.size
 row:AK wr B r rl ys
theorem XE.on{l j a nv g r:Value}{u m:Nat}{gl k:Ll}(h:XE w B gv vv l u m j a nv gl g k r ys wr)(e:Ao wr w1):XE w B gv vv l u m j a nv gl g k r ys w1:=by
 obtain⟨b,c,d,f,i,o,p,q,s,n⟩:=h;exact⟨b.trans (e.mono b.size),(e.block _ (Ac c)).trans c,(e.block _ (Ac d)).trans d,(e.block _ (Ac f)).trans f,(e.block _ (Ac i)).trans i,o.ext e,p,q,Qq s e.size,n.ext e⟩
theorem XE.app{n:Nat}{C A t nv g r d x:Value}{u D:Nat}{gl o:Ll}(h:XE w B gv vv C u D A t nv gl g o r ys w1)(hn:o.length=n)(G:BI w1 x l)(a:Ar w1 B 105 1 r (n+1) (ys++[x]) d w2):
  XE w B gv vv C u D A t nv gl g (o++[l]) d (ys++[x]) (w2.setCell ⟨w.heap.size+3,2,none⟩ d):=by
 obtain⟨v,f,i,k,m,E,y,z,H,b⟩:=h;have b2:=(a.kept.block _ (Ac f) (Ai b.owns Yd f)).trans f;have q:=(a.kept.block _ (Ac i) (Ai b.owns Yd i)).trans i;have s:=(a.kept.block _ (Ac k) (Ai b.owns Yd k)).trans k;have e:=(a.kept.block _ (Ac m) (Ai b.owns Yd m)).trans m;have c:Ad (fun j=>j=w.heap.size+3) w2 (w2.setCell ⟨w.heap.size+3,2,none⟩ d):=(Ad.refl (only (w.heap.size+3)) w2).put 2 _;have I:=a.kept.size;exact⟨(v.trans (a.kept.below v.size (fun j F=>Qq z (b.owns.lt j F).1))).setCell (p:=⟨w.heap.size+3,2,none⟩) Ys _,(c.block _ (Ac b2) Ys).trans b2,(c.block _ (Ac q) Ys).trans q,(c.block _ (Ac s) Ys).trans s,Ae e 2 _,
  (E.aside y b.owns a.kept).box e Yd Yd c,y,z,by simp;omega,(b.snoc (by rw[hn];exact a) G).box e Yd Yd c⟩
def NJ(w0:World)(B:Nat)(x gv:Value)(n:Nat)(xs:Lv)(F:Value->World->Prop):Lv->World->Prop
 |[],u=>u=w0
 |[y],u=>y= .slice (some ⟨w0.heap.size,0,none⟩) 1 1/\u=w0.alloc (.cells #[x] 105)
 |[_,z],u=>Ar w0 B 105 1 gv (n+1) (xs++[x]) z u
 |[_,z,_],u=>F z u
 |_,_=>False
theorem NJ.ext{x:Value}{n:Nat}{a:Value->World->Prop}:∀{vs:Lv}{u:World},NJ w0 B x gv n xs a vs u->vs.length<=1->Ao w0 u
 |[],u,h,_=>by obtain rfl:u=w0:=h;exact Jc _ _
 |[y],u,h,_=>by
  obtain⟨_,rfl⟩:=h;exact(Jc _ _).alloc (Qe _) _
 |_::_::_,_,_,h=>by simp at h
def W4(gl vl rl:Ll)(vv:Value)(uu:Nat)(w:World)(e:Ending)(w':World):Prop:=Ao w w'/\∃g1 gc r1 rc,e= .returned (.agg #[.slice g1 gl.length gc,vv,.slice r1 rl.length rc,.int .i64 uu])/\AF w' (.slice g1 gl.length gc) gl/\AF w' (.slice r1 rl.length rc) rl
theorem OC(w:World)(b7 bw cl ch b6 nv:Value)(E:Ly)(gs vl b body:Ll)(M:At)(u:Nat)(ab:AF w b7 (E::gs))(a9:AF w bw vl)(aj:AF w cl b)(c3:∃a n x,ch=slice a n x)(hb:AF w b6 body)(cf:w.ownsRow 0 9 1 nv M.length (Ba M))
  (c2:(E::gs).length<=1000) (du:b.length<=1000) (dq:body.length<=1000) (dt:M.length<=4000) (dv:u<=190000) (cc:∀l∈body,Iv l):
  Calls prog 128 #[agg #[b7,bw,cl,int i64 u],agg #[ch,b6,nv]] w (W4 (body.map (fun l=>l.map (rn u))++gs) vl (b++[E]) bw (u+M.length) w):=by
 obtain⟨ha,am,ak,rfl⟩:=c3;obtain⟨dm,ab⟩:=ab;obtain⟨dz,aj⟩:=aj;obtain⟨dl,hb⟩:=hb;obtain⟨va,X,rfl⟩:=a9.shape;obtain⟨aa,Q,rfl⟩:=Ab ab.owns;obtain⟨Y,Z,rfl⟩:=Ab aj.owns;obtain⟨av,ai,rfl⟩:=Ab hb.owns;obtain⟨na,an,rfl⟩:=Ab cf;obtain⟨m,ba⟩:∃G,G=E::gs:=⟨_,rfl⟩;rw[<-ba]at ab c2⊢;have cz:0<m.length:=by rw[ba];simp
 have ar:=Yh ab;have bk:=Yh aj;have bl:=Yh hb;have cu:=Yh cc;have b4:=Yh ba;clear ab a9 aj hb cf cc ba;obtain⟨S,cg⟩:∃n,n=u+M.length:=⟨_,rfl⟩;have cr:YH ((u:Int)+(M.length:Int)=(S:Int)):=by show _=_;omega
 obtain⟨af,bd⟩:∃L,L=body.map (fun l=>l.map (rn u)):=⟨_,rfl⟩;rw[<-cg,<-bd];have dr:af.length=body.length:=by rw[bd];simp
 have ct:=Yh bd;clear cg bd;go_enter func128,ntmps128;go_wp2;rw[cr.o]
 go_loopg [24] (body.length+1) (fun gk a5 wr=>∃(k:Nat)(g:Value)(xs:Lv),a5=int i64 k/\k<=body.length/\body.length-k<gk/\Vl w (slice aa m.length Q) (slice va vl.length X) (slice Y b.length Z) u S (slice ha am ak) (slice av body.length ai) (slice na M.length an) ((body.take k).map (fun l=>l.map (rn u))) g xs wr)
 case atStart=>exact⟨0,Nl,[],Yg,Qm _,Yo,Mxt,Ah (Ah (Ah (QL w _) _) _) _,Ah (Ah (CO Ys _) _) _,Ah (CO Ys _) _,CO Ys _,AK.nil _ _⟩
 case round=>
  obtain⟨k,g,xs,rfl,ce,cd,d⟩:=hrel;have ag:((body.take k).map (fun l=>l.map (rn u))).length=k:=by simp;omega
  have A:=d.row.owns;rw[ag]at A;obtain⟨F,H,rfl⟩:=Ab A;have bt:=d.ext.size;have ci:wr.cell? ⟨w.heap.size,3,none⟩=some (int i64 u):=Aa d.nb 3 _ rfl;have a6:wr.cell? ⟨w.heap.size,0,none⟩=some (slice aa m.length Q):=Aa d.nb 0 _ rfl;have bf:wr.cell? ⟨w.heap.size,2,none⟩=some (slice Y b.length Z):=Aa d.nb 2 _ rfl;have bg:wr.cell? ⟨w.heap.size+3,0,none⟩=some (slice F k H):=Aa d.box 0 _ rfl;have ax:=Ac d.nb;have ay:=Ac d.box;have q:=Yh d;clear d A ag
  by_cases a4:k<body.length
  ·obtain⟨l,R⟩:∃l,body[k]?=some l:=⟨_,Qb a4⟩;obtain⟨x,W,I⟩:=bl.o.all _ l R;obtain⟨C,D,rfl⟩:=Ab I;obtain⟨a8,bo,bp,z,_,V,_⟩:=An bl.o.owns Yo;simp only[QH]at z;obtain⟨rfl,_,rfl⟩:=z;have al:=Ac V;have be:a8<wr.heap.size:=Yo
   have aq:wr.cell? ⟨a8,k,none⟩=some (slice C l.length D):=(q.o.ext.cell (p:=⟨a8,k,none⟩) al).trans (Af bl.o.owns _ _ W);obtain⟨_,cj,ck⟩:=cu.o l (Qh R);have cs:=Yh (GR wr.drew (slice C l.length D) l u (BI.ext I (q.o.ext.trans ⟨rfl,rfl,rfl,Qe _,fun _ _=>rfl⟩)) cj ck Yo);have ah:(body.take (k+1)).map (fun l=>l.map (rn u))=(body.take k).map (fun l=>l.map (rn u))++[l.map (rn u)]:=by rw[QU,R];simp
   have cv:=Yh ah;clear R W I V cj ck ah;go_wp2_with fail;have O:=q.o.on (w1:=wr.drew) ⟨rfl,rfl,rfl,Qe _,fun _ _=>rfl⟩;have ag:((body.take k).map (fun l=>l.map (rn u))).length=k:=by simp;omega
   refine BW Yk 999 [.rd 0 3 (fun _=>Pt (w.heap.size+3)),.rd 0 2 (fun _=>slice F k H),.rd 0 3 (fun _=>slice C l.length D),.rd 0 3 (fun _=>pointer (some ⟨w.heap.size,3,none⟩)),.rd 0 2 (fun _=>int i64 u),.st 0,.st 1,.st 2,.rd 0 3 (fun _=>Pt (w.heap.size+3)),.st 3] 4 7 Yk
    (K0 wr.drew w.heap.size (l.map (rn u)) (slice F k H) k xs (fun s y=>∃b0,Vl w (slice aa m.length Q) (slice va vl.length X) (slice Y b.length Z) u S (slice ha am ak) (slice (some ⟨a8,0,none⟩) body.length ai) (slice na M.length an) ((body.take (k+1)).map (fun l=>l.map (rn u))) s b0 y)) rfl ?_ ?_
   ·refine⟨⟨trivial,fun vs y _ hl c=> ?_⟩,⟨trivial,fun vs y _ hl c=> ?_⟩,⟨trivial,fun vs y _ hl c=> ?_⟩,⟨trivial,fun vs y _ hl c=> ?_⟩,⟨trivial,fun vs y _ hl c=> ?_⟩,⟨trivial,fun vs y hl c=> ?_⟩,⟨trivial,fun vs y hl c=> ?_⟩,⟨trivial,fun vs y hl c=> ?_⟩,⟨trivial,fun vs y _ hl c=> ?_⟩,⟨trivial,fun vs y hl c=> ?_⟩,trivial⟩
    ·simp[go_sem]
    ·have ae:y.cell? ⟨w.heap.size+3,0,none⟩=some (slice F k H):=((c.ext hl).cell (p:=⟨w.heap.size+3,0,none⟩) ay).trans bg;simp[go_sem,ae]
    ·simp[go_sem]
    ·simp[go_sem]
    ·have ae:y.cell? ⟨w.heap.size,3,none⟩=some (int i64 u):=((c.ext hl).cell (p:=⟨w.heap.size,3,none⟩) ax).trans ci;simp[go_sem,ae]
    ·obtain rfl:=Q3.1 hl;have bu:y=wr.drew:=c;subst bu;refine .call 74 #[slice C l.length D,int i64 u] _ (by simp[go_sem]) (cs.o.mono ?_);rintro e y ⟨v,B,rfl,h⟩;exact⟨v,rfl,v,B,rfl,h⟩
    ·obtain⟨x,rfl⟩:=Q1.1 hl;have c0:=c;obtain⟨cm,B',z,b8,ad,U⟩:=c0;simp only[Ending.returned.injEq]at z;subst z;obtain⟨bx,bz,rfl⟩:=Ab ad;exact .value (slice (some ⟨y.heap.size,0,none⟩) 1 1) (y.alloc (.cells #[slice bx (l.map (rn u)).length bz] 105)) (by simp[go_sem]) ⟨y,c,rfl,rfl⟩
    ·obtain⟨x,a7,rfl⟩:∃x y,vs=[x,y]:=by
      match vs,hl with
      |[x,y],_=>exact⟨x,y,rfl⟩
     obtain⟨bi,bc,rfl,rfl⟩:=c;have c1:=bc;obtain⟨cm,B',z,b8,ad,U⟩:=c1;simp only[Ending.returned.injEq]at z;subst z;obtain⟨bx,bz,rfl⟩:=Ab ad;have A:bi.ownsRow w.heap.size 105 1 (slice F k H) k xs:=by
      have:=(O.on U).row.owns;rw[ag]at this;exact this
     have c6:=U.size;obtain⟨s,w',bs,t⟩:=E2 (P:=prog) bi 85 85 w.heap.size 105 infoSyms underlying85 rfl Yd (slice F k H) k xs A #[slice bx (l.map (rn u)).length bz] rfl (Dw _ _ _) Yo (Qq bt c6);refine .value s w' (GQ (.tmp 29) (.tmp 34) 85 rfl (by simp[go_sem]) (by simp[go_sem]) bs) ⟨bi,bc,by simpa using t⟩
    ·simp[go_sem]
    ·obtain⟨x,a7,s,rfl⟩:∃x y s,vs=[x,y,s]:=by
      match vs,hl with
      |[x,y,s],_=>exact⟨x,y,s,rfl⟩
     obtain⟨bi,bc,t⟩:=c;obtain⟨cm,B',z,b8,ad,U⟩:=bc;simp only[Ending.returned.injEq]at z;subst z;obtain⟨dj,dk,rfl⟩:=Ab t.owns;have f:=(O.on U).app ag (AI ad (Qm _)) t;rw[<-cv.o]at f;have ac:=(O.on U).box;have J:=(t.kept.block _ (Ac ac) (Ai (O.on U).row.owns Yd ac)).trans ac;have bn:=Aa J 0 _ rfl;have f4:=Ag J 0;exact .skip _ (by simp[go_sem,bn,f4]) ⟨_,f⟩
   ·rintro vs y hl c;obtain⟨x,a7,s,bj,rfl⟩:∃x y s b1,vs=[x,y,s,b1]:=by
     match vs,hl with
     |[x,y,s,b1],_=>exact⟨x,y,s,b1,rfl⟩
    obtain⟨b0,f⟩:=c;simp only[EB,IB,CD,pa,Ph.kd,Ph.val,Kd.val,Qx,QX,Ja,Act.put,JC,JD,JG];have T:=Yh f;clear f;go_wp2
    go_roundg (body.length-k)
    case measure=>omega
    case rel=>exact⟨k+1,_,b0,Yg,Yo,Yo,T.o⟩
  ·have a3:k=body.length:=Yo
   subst a3;have b3:YH (Vl w (slice aa m.length Q) (slice va vl.length X) (slice Y b.length Z) u S (slice ha am ak) (slice av body.length ai) (slice na M.length an) (af++(m.take 0).drop 1) (slice F body.length H) xs wr):=by
    have:=q.o;rw[QT,<-ct.o]at this;show Vl _ _ _ _ _ _ _ _ _ _ _ _ _;simpa using this
   obtain⟨d0,c7⟩:∃x,x=wr:=⟨_,rfl⟩;subst c7;clear q;go_wp2
   go_loopg [41] (m.length+1) (fun gk a5 wr=>∃(k:Nat)(g:Value)(xs:Lv),a5=int i64 k/\k<=m.length/\m.length-k<gk/\Vl w (slice aa m.length Q) (slice va vl.length X) (slice Y b.length Z) u S (slice ha am ak) (slice av body.length ai) (slice na M.length an) (af++(m.take k).drop 1) g xs wr)
   case atStart=>exact⟨0,_,xs,Yg,Qm _,Yo,b3.o⟩
   case round=>
    clear a6 bf ci bg ax ay b3;obtain⟨k,g,xs,rfl,ce,cd,d⟩:=hrel;obtain⟨N,bb⟩:=Ex ((af++(m.take k).drop 1).length);have dn:N<=4000:=by rw[bb];simp;omega
    have A:=d.row.owns;rw[<-bb]at A;obtain⟨F,H,rfl⟩:=Ab A;have bt:=d.ext.size;have a6:wr.cell? ⟨w.heap.size,0,none⟩=some (slice aa m.length Q):=Aa d.nb 0 _ rfl;have bf:wr.cell? ⟨w.heap.size,2,none⟩=some (slice Y b.length Z):=Aa d.nb 2 _ rfl;have bg:wr.cell? ⟨w.heap.size+3,0,none⟩=some (slice F N H):=Aa d.box 0 _ rfl;have ax:=Ac d.nb;have ay:=Ac d.box;have q:=Yh d;have au:=Yh A;have HN:=Yh bb;clear d A bb
    by_cases a4:k<m.length
    ·obtain⟨l,R⟩:∃l,m[k]?=some l:=⟨_,Qb a4⟩;obtain⟨x,W,I⟩:=ar.o.all _ l R;obtain⟨C,D,rfl⟩:=Ab I;obtain⟨K,bo,bp,z,_,V,_⟩:=An ar.o.owns Yo;simp only[QH]at z;obtain⟨rfl,_,rfl⟩:=z;have al:=Ac V;have be:K<wr.heap.size:=Yo
     have aq:wr.cell? ⟨K,k,none⟩=some (slice C l.length D):=(q.o.ext.cell (p:=⟨K,k,none⟩) al).trans (Af ar.o.owns _ _ W);have a2:YH (BI wr (slice C l.length D) l):=BI.ext I q.o.ext;have bm:=Yh R;clear R W I V
     by_cases c5:k=0
     ·subst c5;go_wp2
      go_roundg (m.length-0)
      case measure=>omega
      case rel=>
       refine⟨1,slice F N H,xs,Yg,Yo,Yo,?_⟩;have:=q.o;simpa using this
     ·have ds:(0:Int)<(k:Int):=Yo
      go_wp2_with (at_builtin;go_loud (refine Al wr rfl (.tmp 49) (.tmp 51) 85 rfl w.heap.size 105 infoSyms underlying85 rfl Yd (slice F N H) N xs rfl au.o #[slice C l.length D] (N:=wr.heap.size) rfl Ys rfl (Dw _ _ _) ?_ ?_ ?_))
      ·omega
      ·omega
      intro di w2 t;obtain⟨cw,cx,rfl⟩:=Ab t.owns;have f:=q.o.app HN.o.symm a2.o t;have ah:(af++(m.take k).drop 1)++[l]=af++(m.take (k+1)).drop 1:=by
       rw[QU,bm.o,Qi]
       congr 1
       rw[List.drop_append_of_le_length Yp];rfl
      rw[ah]at f;have J:=(t.kept.block _ (Ac q.o.box) (Ai au.o Yd q.o.box)).trans q.o.box;have c9:=Aa J 0 _ rfl;have da:=fun i=>Ag J i;have T:=Yh f;clear t f J ah;go_wp2
      go_roundg (m.length-k)
      case measure=>omega
      case rel=>exact⟨k+1,_,_,Yg,Yo,Yo,T.o⟩
    ·have a3:k=m.length:=Yo
     subst a3;obtain⟨a1,aw⟩:∃L,L=af++m.drop 1:=⟨_,rfl⟩;have b9:a1.length=N:=by rw[aw,HN.o,QT]
     have cb:XE w wr.heap.size (slice aa m.length Q) (slice va vl.length X) (slice Y b.length Z) u S (slice ha am ak) (slice av body.length ai) (slice na M.length an) a1 (slice F N H) (b.take 0) Nl [] wr:=by
      obtain⟨ab,a9,aj,ac,cy,bq⟩:=q.o;rw[QT,<-aw]at bq;exact⟨ab,a9,aj,ac,cy,bq.inn,fun j c4=>(bq.owns.lt j c4).2,ab.size,Qe _,AK.nil _ _⟩
     have b5:=Yh cb;have cp:=Yh aw;have cq:=Yh b9;obtain⟨az,c8⟩:∃x,x=wr:=⟨_,rfl⟩;subst c8;clear q cb aw b9 au HN;go_wp2
     go_loopg [58] (b.length+1) (fun gk a5 wr=>∃(k:Nat)(r:Value)(a0:Lv),a5=int i64 k/\k<=b.length/\b.length-k<gk/\XE w az.heap.size (slice aa m.length Q) (slice va vl.length X) (slice Y b.length Z) u S (slice ha am ak) (slice av body.length ai) (slice na M.length an) a1 (slice F N H) (b.take k) r a0 wr)
     case atStart=>exact⟨0,_,[],Yg,Qm _,Yo,b5.o⟩
     case round=>
      clear a6 bf bg ax ay b5;obtain⟨k,r,a0,rfl,ce,cd,d⟩:=hrel;have ag:(b.take k).length=k:=by simp;omega
      have A:=d.row.owns;rw[ag]at A;obtain⟨ao,ap,rfl⟩:=Ab A;have bt:=d.ext.size;have dp:=d.b2;have a6:wr.cell? ⟨w.heap.size,0,none⟩=some (slice aa m.length Q):=Aa d.nb 0 _ rfl;have bf:wr.cell? ⟨w.heap.size,2,none⟩=some (slice Y b.length Z):=Aa d.nb 2 _ rfl;have db:wr.cell? ⟨w.heap.size+3,2,none⟩=some (slice ao k ap):=Aa d.box 2 _ rfl;have ax:=Ac d.nb;have ay:=Ac d.box;have q:=Yh d;have au:=Yh A;clear d A ag
      by_cases a4:k<b.length
      ·obtain⟨l,R⟩:∃l,b[k]?=some l:=⟨_,Qb a4⟩;obtain⟨x,W,I⟩:=bk.o.all _ l R;obtain⟨C,D,rfl⟩:=Ab I;obtain⟨bv,bo,bp,z,_,V,_⟩:=An bk.o.owns Yo;simp only[QH]at z;obtain⟨rfl,_,rfl⟩:=z;have al:=Ac V;have be:bv<wr.heap.size:=Yo
       have aq:wr.cell? ⟨bv,k,none⟩=some (slice C l.length D):=(q.o.ext.cell (p:=⟨bv,k,none⟩) al).trans (Af bk.o.owns _ _ W);have a2:YH (BI wr (slice C l.length D) l):=BI.ext I q.o.ext;have bm:=Yh R;clear R W I V
       go_wp2_with (at_builtin;go_loud (refine Al wr rfl (.tmp 63) (.tmp 65) 85 rfl az.heap.size 105 infoSyms underlying85 rfl Yd (slice ao k ap) k a0 rfl au.o #[slice C l.length D] (N:=wr.heap.size) rfl Ys rfl (Dw _ _ _) ?_ ?_ ?_))
       ·omega
       ·omega
       intro di w2 t;obtain⟨cw,cx,rfl⟩:=Ab t.owns;have f:=q.o.app Yp a2.o t;have ah:b.take k++[l]=b.take (k+1):=by rw[QU,bm.o];rfl
       rw[ah]at f;have J:=(t.kept.block _ (Ac q.o.box) (Ai au.o Yd q.o.box)).trans q.o.box;have c9:=Aa J 2 _ rfl;have da:=fun i=>Ag J i;have T:=Yh f;clear t f J ah;go_wp2
       go_roundg (b.length-k)
       case measure=>omega
       case rel=>exact⟨k+1,_,_,Yg,Yo,Yo,T.o⟩
      ·have a3:k=b.length:=Yo
       subst a3;obtain⟨x,W,I⟩:=ar.o.all 0 E (by rw[b4.o];rfl);obtain⟨C,D,rfl⟩:=Ab I;obtain⟨K,bo,bp,z,_,V,_⟩:=An ar.o.owns Yo;simp only[QH]at z;obtain⟨rfl,_,rfl⟩:=z;have al:=Ac V;have be:K<wr.heap.size:=Yo
       have aq:wr.cell? ⟨K,0,none⟩=some (slice C E.length D):=(q.o.ext.cell (p:=⟨K,0,none⟩) al).trans (Af ar.o.owns _ _ W);have a2:YH (BI wr.drew (slice C E.length D) E):=BI.ext I (q.o.ext.trans ⟨rfl,rfl,rfl,Qe _,fun _ _=>rfl⟩)
       clear W I V;have O:=Yh (q.o.on (w1:=wr.drew) ⟨rfl,rfl,rfl,Qe _,fun _ _=>rfl⟩);rw[QT]at O;go_wp2_with fail;refine BW Yk 999 [.rd 0 2 (fun _=>pointer (some ⟨w.heap.size+3,2,none⟩)),.rd 0 1 (fun _=>slice ao b.length ap),.rd 0 0 (fun _=>Pt w.heap.size),.rd 0 0 (fun _=>slice (some ⟨K,0,none⟩) m.length Q),.rd 0 0 (fun _=>Pt K),.rd 0 0 (fun _=>slice C E.length D),.st 0,.st 1,.rd 0 2 (fun _=>pointer (some ⟨w.heap.size+3,2,none⟩)),.st 2] 3 7 Yk
        (NJ wr.drew az.heap.size (slice C E.length D) (slice ao b.length ap) b.length a0 (fun s y=>∃co,XE w az.heap.size (slice (some ⟨K,0,none⟩) m.length Q) (slice va vl.length X) (slice Y b.length Z) u S (slice ha am ak) (slice av body.length ai) (slice na M.length an) a1 (slice F N H) (b++[E]) s co y)) rfl ?_ ?_
       ·refine⟨⟨trivial,fun vs y _ hl c=> ?_⟩,⟨trivial,fun vs y _ hl c=> ?_⟩,⟨trivial,fun vs y _ hl c=> ?_⟩,⟨trivial,fun vs y _ hl c=> ?_⟩,⟨trivial,fun vs y _ hl c=> ?_⟩,⟨trivial,fun vs y _ hl c=> ?_⟩,⟨trivial,fun vs y hl c=> ?_⟩,⟨trivial,fun vs y hl c=> ?_⟩,⟨trivial,fun vs y _ hl c=> ?_⟩,⟨trivial,fun vs y hl c=> ?_⟩,trivial⟩
        ·simp[go_sem]
        ·have ae:y.cell? ⟨w.heap.size+3,2,none⟩=some (slice ao b.length ap):=((c.ext hl).cell (p:=⟨w.heap.size+3,2,none⟩) ay).trans db;simp[go_sem,ae]
        ·simp[go_sem]
        ·have ae:y.cell? ⟨w.heap.size,0,none⟩=some (slice (some ⟨K,0,none⟩) m.length Q):=((c.ext Yo).cell (p:=⟨w.heap.size,0,none⟩) ax).trans a6;simp[go_sem,ae]
        ·simp[go_sem,cz]
        ·have ae:y.cell? ⟨K,0,none⟩=some (slice C E.length D):=((c.ext Yo).cell (p:=⟨K,0,none⟩) be).trans aq;simp[go_sem,ae]
        ·obtain rfl:=Q3.1 hl;have bu:y=wr.drew:=c;subst bu;exact .value (slice (some ⟨wr.drew.heap.size,0,none⟩) 1 1) (wr.drew.alloc (.cells #[slice C E.length D] 105)) (by simp[go_sem]) ⟨rfl,rfl⟩
        ·obtain⟨x,rfl⟩:=Q1.1 hl;obtain⟨rfl,rfl⟩:=c;have A:wr.drew.ownsRow az.heap.size 105 1 (slice ao b.length ap) b.length a0:=O.o.row.owns;obtain⟨s,w',bs,t⟩:=E2 (P:=prog) wr.drew 85 85 az.heap.size 105 infoSyms underlying85 rfl Yd (slice ao b.length ap) b.length a0 A #[slice C E.length D] rfl (Dw _ _ _) Yo O.o.b2;exact .value s w' (GQ (.tmp 74) (.tmp 79) 85 rfl (by simp[go_sem]) (by simp[go_sem]) bs) (by simpa[NJ]using t)
        ·simp[go_sem]
        ·obtain⟨x,s,rfl⟩:∃x y,vs=[x,y]:=by
          match vs,hl with
          |[x,y],_=>exact⟨x,y,rfl⟩
         have t:Ar _ _ _ _ _ _ _ s y:=c;obtain⟨dj,dk,rfl⟩:=Ab t.owns;have f:=O.o.app rfl a2.o t;have ac:=O.o.box;have J:=(t.kept.block _ (Ac ac) (Ai O.o.row.owns Yd ac)).trans ac;have bn:=Aa J 2 _ rfl;have f4:=Ag J 2;exact .skip _ (by simp[go_sem,bn,f4]) ⟨_,f⟩
       ·rintro vs y hl c;obtain⟨x,s,bj,rfl⟩:∃x y s,vs=[x,y,s]:=by
         match vs,hl with
         |[x,y,s],_=>exact⟨x,y,s,rfl⟩
        obtain⟨co,f⟩:=c;have A:=f.row.owns;obtain⟨ta,bh,rfl⟩:=Ab A;simp only[EB,IB,CD,pa,Ph.kd,Ph.val,Kd.val,Qx,QX,Ja,Act.put,JC,JD,JG];have q0:=Aa f.box 0 _ rfl;have dw:=Aa f.box 1 _ rfl;have dx:=Aa f.box 2 _ rfl;have dy:=Aa f.box 3 _ rfl;have dc:=Aa f.res 0 _ rfl;have dd:=Aa f.res 1 _ rfl;have de:=Aa f.res 2 _ rfl;have df:=Aa f.res 3 _ rfl;have dg:=fun i=>Ag f.res i;have dh:=Ac f.res;have T:=Yh f;clear f A O q;go_wp2;refine Jb (v:=agg #[slice F N H,slice va vl.length X,slice ta (b++[E]).length bh,int i64 S]) (by simp[results,results128,go_sem,dc,dd,de,df,dg,dh]) rfl ?_;have ca:∀aq cn a7 bj,Ad (fun j=>j=w.heap.size+2) y ((((y.setCell ⟨w.heap.size+2,0,none⟩ aq).setCell ⟨w.heap.size+2,1,none⟩ cn).setCell ⟨w.heap.size+2,2,none⟩ a7).setCell ⟨w.heap.size+2,3,none⟩ bj):=fun aq cn a7 bj=>((((Ad.refl (only (w.heap.size+2)) y).put 0 _).put 1 _).put 2 _).put 3 _;have U:=(((T.o.ext.setCell (p:=⟨w.heap.size+2,0,none⟩) Ys (slice F N H)).setCell (p:=⟨w.heap.size+2,1,none⟩) Ys (slice va vl.length X)).setCell (p:=⟨w.heap.size+2,2,none⟩) Ys (slice ta (b++[E]).length bh)).setCell (p:=⟨w.heap.size+2,3,none⟩) Ys (int i64 S);have aw:a1=af++gs:=by rw[cp.o,b4.o];rfl
        have br:=T.o.goals.box T.o.res Yd Yd (ca (slice F N H) (slice va vl.length X) (slice ta (b++[E]).length bh) (int i64 S));have ad:=T.o.row.inn.box T.o.res Yd Yd (ca (slice F N H) (slice va vl.length X) (slice ta (b++[E]).length bh) (int i64 S));rw[<-cq.o]at br U ad⊢;rw[aw]at br U ad⊢;rw[show b.length+1=(b++[E]).length by simp];exact⟨U,_,_,_,_,rfl,br,ad⟩
theorem Hp{V:Nat}(b:Wf k l)(hl:l.length<=1000)(c:∀v,Cf v l->v<V)(d:V<=200000):Iv l:=
 ⟨⟨k,b⟩,hl,fun s a=>by
  obtain⟨i,hi⟩:=J0.1 a
  by_cases hn:s.name=[]
  ·have:=c s.num ⟨s,a,hn,rfl⟩;omega
  ·rw[(GJ b hi).2 hn];omega⟩
theorem Iv.rn{v:Nat}(a:Wf k l)(hl:l.length<=1000){V:Nat}(c:∀u,Cf u l->u<V)(b:V+v<=200000):Iv (l.map (YtlmjilpjmgjjcaaGreatDoor.rn v)):=by
 rw[<-IH a];have f:(ap (A0 v) l).length=l.length:=by rw[IH a];simp
 exact Hp (Ie (Mo v) a) Yo (V:=V+v) (fun u d=>by
  obtain⟨x,e,rfl⟩:=Fr d;have:=c x e;omega) b
def NI(n:ND)(c:Db)(k:Nat)(w:World)(e:Ending)(w':World):Prop:=Ao w w'/\∃g1 g2 g3 v1 v2 v3 r1 r2 r3,∃uu q:Nat,e= .returned (.tuple #[.agg #[.slice g1 g2 g3,.slice v1 v2 v3,.slice r1 r2 r3,.int .i64 uu],.int .i64 q])/\
 ((q=0/\(n.goals=[]\/Kv n c k 0 n))\/(q=2/\∃ch,Kv n c k 3 ch)\/(q=1/\∃ch qq,(qq=1\/qq=2)/\Kv n c k qq ch/\Xc w.heap.size w' (.slice g1 g2 g3) (.slice v1 v2 v3) (.slice r1 r2 r3) ch/\uu=ch.vars/\g2=ch.goals.length))
theorem Fgx(σ:Nat->Ly)(n:ND)(c:Db)(a:KR c)(k:Nat)(g:Ly×Nat)(gs:List (Ly×Nat)):(Au σ n c k g gs).goals.map (·.1)=((c.body.map (fun l=>l.map (rn n.vars))++gs.map (·.1))).map (ap σ):=by
 unfold Au;simp only;rw[LD,Qr,QK]
 congr 2
 refine JE (fun l hl=> ?_);exact IH (a.wfb l hl)
theorem Is(σ:Nat->Ly)(n:ND)(c:Db)(k:Nat)(g:Ly×Nat)(gs:List (Ly×Nat)):(Au σ n c k g gs).done.map (·.1)=(n.done.map (·.1)++[g.1]).map (ap σ):=by
 unfold Au;simp only;rw[LD,Qr];rfl
theorem T3{n:ND}(hn:FM n){c:Db}(d:KR c)(k:Nat){g:Ly×Nat}{gs:List (Ly×Nat)}(h:n.goals=g::gs){σ:Nat->Ly}(f:ID σ g.1 (ap (A0 n.vars) c.head)){l:Ly}(hl:l∈(c.body.map (fun l=>l.map (rn n.vars))++gs.map (·.1))++(n.vals++(n.done.map (·.1)++[g.1])))(hb:30<(ap σ l).length):Ct (Au σ n c k g gs)=3:=by
 refine Classical.byContradiction (fun i=> ?_);have a:=Ma hn d k h f i;have j:(ap σ l).length<=30:=by
  rcases Qk.1 hl with hl|hl
  ·have:ap σ l∈(Au σ n c k g gs).goals.map (·.1):=by rw[Fgx σ n c d];exact Q0.2 ⟨l,hl,rfl⟩
   obtain⟨x,b,e⟩:=Q0.1 this;rw[<-e];exact(a.gs x b).1
  ·rcases Qk.1 hl with hl|hl
   ·exact a.vsize (t:=ap σ l) (Q0.2 ⟨l,hl,rfl⟩)
   ·have:ap σ l∈(Au σ n c k g gs).done.map (·.1):=by rw[Is];exact Q0.2 ⟨l,hl,rfl⟩
    obtain⟨x,b,e⟩:=Q0.1 this;rw[<-e];exact(a.ds x b).1
 omega
theorem SU{n:ND}(k:Nat){g:Ly×Nat}{gs:List (Ly×Nat)}{σ:Nat->Ly}(h:40<c.body.length+gs.length\/100<n.used.length+1):Ct (Au σ n c k g gs)=3:=by
 have:Ha (Au σ n c k g gs)=true:=by
  unfold Ha Au Fl;simp only[JO,Q7,Ql,Qg,Qf,Qt];omega
 unfold Ct;rw[QQ this]
theorem Pu{n:ND}(b:KR c)(k:Nat){g:Ly×Nat}{gs:List (Ly×Nat)}{σ:Nat->Ly}(f:¬40<c.body.length+gs.length)(i:¬100<n.used.length+1)(h:∀l∈(c.body.map (fun l=>l.map (rn n.vars))++gs.map (·.1))++(n.vals++(n.done.map (·.1)++[g.1])),(ap σ l).length<=30):Ct (Au σ n c k g gs)=1\/Ct (Au σ n c k g gs)=2:=by
 have:Ha (Au σ n c k g gs)=false:=by
  have d:∀x∈(Au σ n c k g gs).goals,¬Fz x=true:=fun x a=>by
   have:x.1∈(Au σ n c k g gs).goals.map (·.1):=Q0.2 ⟨x,a,rfl⟩;rw[Fgx σ n c b]at this;obtain⟨l,hl,e⟩:=Q0.1 this;have:=h l (Q9 _ hl);unfold Fz;rw[<-e];simpa using this
  have hd:∀x∈(Au σ n c k g gs).done,¬Fz x=true:=fun x a=>by
   have:x.1∈(Au σ n c k g gs).done.map (·.1):=Q0.2 ⟨x,a,rfl⟩;rw[Is]at this;obtain⟨l,hl,e⟩:=Q0.1 this;have:=h l (QA _ (QA _ hl));unfold Fz;rw[<-e];simpa using this
  unfold Ha;simp only[Bool.or_eq_false_iff,decide_eq_false_iff_not];refine⟨⟨⟨?_,?_⟩,List.any_eq_false.2 d⟩,List.any_eq_false.2 hd⟩
  ·unfold Au Fl;simp;omega
  ·unfold Au Fl;simp;omega
 unfold Ct;rw[this];simp only[JQ,if_false];split
 ·exact QO rfl
 ·exact QG rfl
theorem Mf(w:World)(cz dv dr dk cp nv:Value)(n:ND)(c:Db)(k:Nat)(hn:FM n)(b:KR c)(h:F1 w cz dv dr n)(T:M7 w dk cp nv c):
  Calls prog 97 #[agg #[cz,dv,dr,int i64 n.vars],agg #[dk,cp,nv]] w (NI n c k w):=by
 obtain⟨br,ag,rfl⟩:=h.goals.shape;obtain⟨va,aa,rfl⟩:=h.vals.shape;obtain⟨an,ao,rfl⟩:=h.done.shape;obtain⟨ha,am,rfl⟩:=Ab T.head;obtain⟨az,a0,rfl⟩:=T.body.shape;obtain⟨na,bc,rfl⟩:=Ab T.names;have J:(n.goals.map (·.1)).length=n.goals.length:=Ys
 have c5:(n.done.map (·.1)).length=n.done.length:=Ys
 rw[J,c5]at h⊢;have ex:n.vars<=101000:=by have:=hn.vars;have:=hn.ul;omega
 have e0:c.names.length<=1000:=b.n;have c8:=hn.gl;have e1:n.done.length<=100:=by rw[hn.dl];exact hn.ul
 have ez:=b.bn;obtain⟨H,t⟩:=Ex (((w.alloc (.cells #[slice br n.goals.length ag,slice va n.vals.length aa,slice an n.done.length ao,int i64 n.vars] 87)).alloc (.cells #[slice ha c.head.length am,slice az c.body.length a0,slice na c.names.length bc] 107)).alloc (.cells #[Nl,Nl,Nl,int i64 0] 87));have bs:Ao w H:=by rw[t];exact Mxt
 have ey:H.heap.size=w.heap.size+3:=by rw[t];simp
 have bz:NB H w.heap.size (slice br n.goals.length ag) (slice va n.vals.length aa) (slice an n.done.length ao) n.vars:=by rw[t];exact Ah (Ah (QL w _) _) _
 have b0:H.heap[w.heap.size+1]?=some (.cells #[slice ha c.head.length am,slice az c.body.length a0,slice na c.names.length bc] 107 (0,0)):=by rw[t];exact Ah (CO Ys _) _
 have b3:NB H (w.heap.size+2) Nl Nl Nl 0:=by rw[t];exact CO Ys _
 have ac:YH (∀y,Ao H y->y.cell? ⟨w.heap.size,0,none⟩=some (slice br n.goals.length ag)/\y.cell? ⟨w.heap.size,1,none⟩=some (slice va n.vals.length aa)/\y.cell? ⟨w.heap.size,2,none⟩=some (slice an n.done.length ao)/\y.cell? ⟨w.heap.size,3,none⟩=some (int i64 n.vars)/\
   y.cell? ⟨w.heap.size+1,0,none⟩=some (slice ha c.head.length am)/\y.cell? ⟨w.heap.size+1,1,none⟩=some (slice az c.body.length a0)/\y.cell? ⟨w.heap.size+1,2,none⟩=some (slice na c.names.length bc)/\NB y (w.heap.size+2) Nl Nl Nl 0/\w.heap.size+2<y.heap.size):=fun y N=>by
  have a1:=(N.block _ (Ac bz)).trans bz;have bq:=(N.block _ (Ac b0)).trans b0;have cy:=(N.block _ (Ac b3)).trans b3;exact⟨Aa a1 0 _ rfl,Aa a1 1 _ rfl,Aa a1 2 _ rfl,Aa a1 3 _ rfl,Aa bq 0 _ rfl,Aa bq 1 _ rfl,Aa bq 2 _ rfl,cy,Ac cy⟩
 have W:YH (∀y K Q aq ar,Ao w y->Ao w ((((y.setCell ⟨w.heap.size+2,0,none⟩ K).setCell ⟨w.heap.size+2,1,none⟩ Q).setCell ⟨w.heap.size+2,2,none⟩ aq).setCell ⟨w.heap.size+2,3,none⟩ ar)):=fun y K Q aq ar N=>
  (((N.setCell (p:=⟨w.heap.size+2,0,none⟩) Ys _).setCell (p:=⟨w.heap.size+2,1,none⟩) Ys _).setCell (p:=⟨w.heap.size+2,2,none⟩) Ys _).setCell (p:=⟨w.heap.size+2,3,none⟩) Ys _
 have b9:Iv (c.head.map (rn n.vars)):=Iv.rn b.wfh (by have:=b.hl;omega) b.och (by have:=b.n;omega);have ca:(c.head.map (rn n.vars)).length=c.head.length:=Ys
 have e3:=b.hl;have bj:=Yh (GR H (slice ha c.head.length am) c.head n.vars (BI.ext T.head bs) Yo (fun s O=>(Hp b.wfh Yo b.och (by have:=b.n;omega)).num s O) Yo);obtain⟨L,bx⟩:∃l,l=c.head.map (rn n.vars):=⟨_,rfl⟩;have av:YH (L=ap (A0 n.vars) c.head):=by show _=_;rw[bx];exact(IH b.wfh).symm
 rw[<-bx]at bj ca b9;have ch:=Yh h;have co:=Yh T;have a:=Yh hn;have f:=Yh b;have cj:=Yh bs;have d3:=Yh b9;have d4:=Yh ca;have er:=Yh t;clear h T bs bz b0 b3 b9 bx J c5 hn b ca
 cases A:n.goals with
 |nil=>
  have r:=Yh A;rw[A]at ac;obtain⟨cq,cr,cs,ct,cu,cv,cw,d,I⟩:=ac.o H (Jc _ _);have C:=Aa d 0 _ rfl;have D:=Aa d 1 _ rfl;have E:=Aa d 2 _ rfl;have F:=Aa d 3 _ rfl;have G:=fun i=>Ag d i;rw[A]at t;clear A d c8;go_enter func97,ntmps97;go_wp2_with fail;rw[Qt]at t;rw[<-t];refine Jb (v:=tuple #[agg #[Nl,Nl,Nl,int i64 0],int i64 0]) (by simp[results,results97,go_sem,C,D,E,F,G,I]) rfl ?_;exact⟨cj.o,none,0,0,none,0,0,none,0,0,0,0,rfl,QG ⟨rfl,QG r.o⟩⟩
 |cons g gs=>
  have db:n.goals.length=gs.length+1:=by rw[A];simp
  have ep:((n.goals.length:Int)==0)=false:=by rw[Qu];omega
  obtain⟨fa,a9⟩:=ch.o.goals;obtain⟨x,X,cd⟩:=a9.all 0 g.1 (by rw[A];rfl);obtain⟨cf,cg,rfl⟩:=Ab cd;obtain⟨af,es,et,c6,_,da,_⟩:=An a9.owns Yp;simp only[QH]at c6;obtain⟨rfl,_,rfl⟩:=c6;have ef:=Ac da;have K:w.cell? ⟨af,0,none⟩=some (slice cf g.1.length cg):=Af (by have:=a9.owns;rw[Ql]at this;exact this) _ _ X;have b8:g.1∈n.terms:=by unfold ND.terms;rw[A];simp
  have b7:=a.o.wf g.1 b8;have c7:=(a.o.gs g (by rw[A];simp)).1;have c9:=(Hp b7 Yo (a.o.occ g.1 b8) Yo).num;have c3:Wf 1 L:=by rw[av.o];exact Ie (Mo _) f.o.wfh
  have ee:=d4.o;have cl:YH (∀y X b,Ao w y->BI y (slice X L.length b) L->Calls prog 127 #[slice cf g.1.length cg,slice X L.length b] y (N7 g.1 L y)):=fun y X b N ej=>
   Tc y _ _ g.1 L (BI.ext cd N) ej b7 c3 Yo Yo (fun s O=>by
    rcases Qk.1 O with O|O
    ·exact c9 s O
    ·exact d3.o.num s O)
  have r:=Yh A;have aw:=Yh db;have d2:=Yh c7;clear a9 X cd da b8 b7 c9 c3 ee A db c7;obtain⟨gl,J⟩:∃m,m=n.goals.length:=⟨_,rfl⟩;rw[<-J]at ac t ep c8;rw[show(g::gs).length=gl from by rw[J,aw.o];rfl];have e2:0<gl:=by rw[J,aw.o];omega
  have bo:=Yh J;clear J;go_enter func97,ntmps97;go_wp2_with fail;rw[<-t];apply bj.o.mono;rintro e w1 ⟨e4,eq,rfl,eu,cc,ah⟩;obtain⟨ec,ed,rfl⟩:=Ab cc;obtain⟨cq,cr,cs,ct,cu,cv,cw,d,I⟩:=ac.o w1 ah;have a7:Ao w w1:=cj.o.trans (ah.mono Yo);have em:=ah.size;have Q:w1.cell? ⟨af,0,none⟩=some (slice cf g.1.length cg):=(a7.cell (p:=⟨af,0,none⟩) ef).trans K
  have cm:=Yh (cl.o w1 ec ed a7 (AI cc (Qm _)));have dx:=Yh ah;have dy:=Yh a7;clear cc ah a7 bj K cl t;go_wp2_with fail;apply cm.o.mono;rintro e w2 ⟨bt,Z,P,Y,q,rfl,V⟩;obtain⟨cq,cr,cs,ct,cu,cv,cw,d,I⟩:=ac.o w2 (dx.o.trans (bt.mono em));have C:=Aa d 0 _ rfl;have D:=Aa d 1 _ rfl;have E:=Aa d 2 _ rfl;have F:=Aa d 3 _ rfl;have G:=fun i=>Ag d i;have c1:Ao w w2:=dy.o.trans (bt.mono Yo);have e5:w.heap.size<w2.heap.size:=Yo
  have e6:w.heap.size+1<w2.heap.size:=Yo
  have R:=Yh c1;have d0:=Yh d;clear bt c1 Q cm d;rcases V with⟨rfl,dd⟩|⟨rfl,dm⟩|⟨rfl,ts,eo,dj,cb,dg,el,di⟩
  ·have d5:YH (Kv n c k 0 n):=⟨g,gs,r.o,QG ⟨rfl,by rw[<-av.o];exact dd⟩⟩;clear dd;go_wp2;refine Jb (v:=tuple #[agg #[Nl,Nl,Nl,int i64 0],int i64 0]) (by simp[results,results97,go_sem,C,D,E,F,G,I]) rfl ?_;refine⟨(W.o w2 Nl Nl Nl (int i64 0) R.o).alloc Yp _,none,0,0,none,0,0,none,0,0,0,0,rfl,QG ⟨rfl,QO d5.o⟩⟩
  ·have d9:YH (∃ae,Kv n c k 3 ae):=⟨n,g,gs,r.o,QO (QG ⟨rfl,by rw[<-av.o];exact dm⟩)⟩;clear dm;go_wp2;refine Jb (v:=tuple #[agg #[Nl,Nl,Nl,int i64 0],int i64 2]) (by simp[results,results97,go_sem,C,D,E,F,G,I]) rfl ?_;refine⟨(W.o w2 Nl Nl Nl (int i64 0) R.o).alloc Yp _,none,0,0,none,0,0,none,0,0,0,2,rfl,QO (QG ⟨rfl,d9.o⟩)⟩
  ·rw[av.o]at cb;have ay:=Yh cb;have d8:=Yh dj;have d7:=Yh di;have bp:=Yh dg;clear cb dj di dg
   by_cases U:40<c.body.length+gs.length\/100<n.used.length+1
   ·have ax:YH (∃ae,Kv n c k 3 ae):=⟨_,g,gs,r.o,QO (QO ⟨B0 ts,ay.o,bp.o,(SU k U).symm,rfl⟩)⟩;have bb:gl=gs.length+1:=by rw[bo.o,aw.o]
    have ba:=a.o.dl
    by_cases c0:40<c.body.length+gs.length
    ·have hi:(40:Int)<(c.body.length:Int)+(gl:Int)-1:=Yo
     clear U c0 bb ba;go_wp2;refine Jb (v:=tuple #[agg #[Nl,Nl,Nl,int i64 0],int i64 2]) (by simp[results,results97,go_sem,C,D,E,F,G,I]) rfl ?_;exact⟨(W.o w2 Nl Nl Nl (int i64 0) R.o).alloc Yp _,none,0,0,none,0,0,none,0,0,0,2,rfl,QO (QG ⟨rfl,ax.o⟩)⟩
    ·have hi:¬((40:Int)<(c.body.length:Int)+(gl:Int)-1):=Yo
     have eg:(100:Int)<(n.done.length:Int)+1:=Yo
     clear U c0 bb ba;go_wp2;refine Jb (v:=tuple #[agg #[Nl,Nl,Nl,int i64 0],int i64 2]) (by simp[results,results97,go_sem,C,D,E,F,G,I]) rfl ?_;exact⟨(W.o w2 Nl Nl Nl (int i64 0) R.o).alloc Yp _,none,0,0,none,0,0,none,0,0,0,2,rfl,QO (QG ⟨rfl,ax.o⟩)⟩
   ·have bb:gl=gs.length+1:=by rw[bo.o,aw.o]
    have ba:=a.o.dl;have hi:¬((40:Int)<(c.body.length:Int)+(gl:Int)-1):=Yo
    have eg:¬((100:Int)<(n.done.length:Int)+1):=Yo
    have eh:¬40<c.body.length+gs.length:=fun h=>U (QG h);have ei:¬100<n.used.length+1:=fun h=>U (QO h);obtain⟨e9,ek⟩:∃m,m=P:=⟨_,rfl⟩;have ak:F1 w (slice (some ⟨af,0,none⟩) gl ag) (slice va n.vals.length aa) (slice an n.done.length ao) n:=by rw[bo.o];exact ch.o
    have S:Ao w (w2.alloc (.cells #[slice Z P Y] 216)):=R.o.alloc Yo _;have b6:=(ak.ext S).goals;rw[r.o,Qx]at b6;have ci:=Yh (OC (w2.alloc (.cells #[slice Z P Y] 216)) (slice (some ⟨af,0,none⟩) gl ag) (slice va n.vals.length aa) (slice an n.done.length ao) (slice ha c.head.length am) (slice az c.body.length a0) (slice na c.names.length bc) g.1 (gs.map (·.1)) n.vals (n.done.map (·.1)) c.body c.names n.vars
     b6 (ak.ext S).vals (ak.ext S).done ⟨_,_,_,rfl⟩ (co.o.ext S).body (co.o.ext S).names Yp Yp Yo Yo Yo (fun l hl=>Hp (f.o.wfb l hl) (by have:=f.o.bl l hl;omega) (f.o.ocb l hl) (by have:=f.o.n;omega)))
    have HN:=Yh ak;clear bb ba U ek ak S b6;go_wp2_with fail;apply ci.o.mono;rintro e w4 ⟨a6,b1,b2,ea,eb,rfl,b4,b5⟩;obtain⟨ab,aj⟩:∃l,l=c.body.map (fun l=>l.map (rn n.vars))++gs.map (·.1):=⟨_,rfl⟩;obtain⟨ad,al⟩:∃l,l=n.done.map (·.1)++[g.1]:=⟨_,rfl⟩;rw[<-aj]at b4⊢;rw[<-al]at b5⊢;have ev:ab.length<=1000:=by rw[aj];simp;omega
    have ew:ad.length<=1000:=by rw[al];simp;omega
    have de:∀l∈ab++(n.vals++ad),Iv l:=fun l hl=>by
     rcases Qk.1 hl with hl|hl
     ·rw[aj]at hl;rcases Qk.1 hl with hl|hl
      ·obtain⟨m,B,rfl⟩:=Q0.1 hl;exact Iv.rn (f.o.wfb m B) (by have:=f.o.bl m B;omega) (f.o.ocb m B) (by have:=f.o.n;omega)
      ·obtain⟨m,B,rfl⟩:=Q0.1 hl;have u:m.1∈n.terms:=by unfold ND.terms;rw[r.o];exact Q9 _ (Q0.2 ⟨m,by simp[B],rfl⟩)
       exact Hp (a.o.wf _ u) (by have:=(a.o.gs m (by rw[r.o];simp[B])).1;omega) (a.o.occ _ u) Yo
     ·rcases Qk.1 hl with hl|hl
      ·have u:l∈n.terms:=by unfold ND.terms;simp[hl]
       exact Hp (a.o.wf _ u) (by have:=a.o.vsize hl;omega) (a.o.occ _ u) Yo
      ·rw[al]at hl;rcases Qk.1 hl with hl|hl
       ·obtain⟨m,B,rfl⟩:=Q0.1 hl;have u:m.1∈n.terms:=by unfold ND.terms;exact QA _ (QA _ (Q0.2 ⟨m,B,rfl⟩))
        exact Hp (a.o.wf _ u) (by have:=(a.o.ds m B).1;omega) (a.o.occ _ u) Yo
       ·simp at hl;subst hl;have u:g.1∈n.terms:=by unfold ND.terms;rw[r.o];simp
        exact Hp (a.o.wf _ u) (by have:=d2.o;omega) (a.o.occ _ u) Yo
    have dn:=a6.size;have dn:w2.heap.size+1<=w4.heap.size:=by simpa using dn
    have df:w4.heap[w2.heap.size]?=some (.cells #[slice Z P Y] 216 (0,0)):=(a6.block _ Ys).trans (QL w2 _);have e8:=Aa df 0 _ rfl;have a5:Ao w2 w4:=(show Ao w2 (w2.alloc (.cells #[slice Z P Y] 216)) from Mxt).trans (a6.mono Ys);have bw:Ao w w4:=R.o.trans (a5.mono Yo);have cx:NB w4 (w.heap.size+2) Nl Nl Nl 0:=(a5.block _ I).trans d0.o;have ai:∀o,Ao w4 (w4.alloc o):=fun o=>Mxt;have cn:YH (∀o,Calls prog 129 #[agg #[slice b1 ab.length b2,slice va n.vals.length aa,slice ea ad.length eb,int i64 ((n.vars+c.names.length:Nat):Int)],agg #[slice Z P Y]] (w4.alloc o) (TH ts ab n.vals ad (n.vars+c.names.length) (w4.alloc o))):=fun o=>
     Mw (w4.alloc o) (slice Z P Y) _ _ _ ts ab n.vals ad eo (n.vars+c.names.length) ((d8.o.ext a5).ext (ai o)) (b4.ext (ai o)) ((HN.o.vals.ext bw).ext (ai o)) (b5.ext (ai o)) el d7.o Yo (by have:=a.o.vl;omega) Yo de Yo
    have dz:=Yh bw;have d1:=Yh cx;have au:=Yh aj;have bk:=Yh al;have en:w.heap.size+2<w4.heap.size:=Yo
    have e7:w2.heap.size<w4.heap.size:=Yo
    clear a6 b4 b5 de df a5 bw cx ai aj al ci;go_wp2_with fail;apply(cn.o _).mono;rintro e z ⟨bv,V⟩;have dp:=bv.size;have dp:w4.heap.size+1<=z.heap.size:=by simpa using dp
    have bu:Ao w4 z:=(Jc _ w4|>.alloc (Qe _) _).trans (bv.mono Ys);have c2:Ao w z:=dz.o.trans (bu.mono Yo);have M:NB z (w.heap.size+2) Nl Nl Nl 0:=(bu.block _ en).trans d1.o;have C:=Aa M 0 _ rfl;have D:=Aa M 1 _ rfl;have E:=Aa M 2 _ rfl;have F:=Aa M 3 _ rfl;have G:=fun i=>Ag M i;have dq:w.heap.size+2<z.heap.size:=Yo
    have ck:=Yh c2;have bm:=Yh M;clear bv bu c2 M cn;rcases V with⟨dh,a2,a3,a4,bg,bh,bi,bd,be,bf,rfl,ce,dt,du⟩|⟨⟨l,hl,c4⟩,rfl⟩
    ·have dc:=Pu (k:=k) (g:=g) (gs:=gs) f.o (σ:=B0 ts) eh ei (by rw[<-au.o,<-bk.o];exact dh);have a8:∀K Q aq ar,Ad (fun j=>j=w.heap.size+2) z ((((z.setCell ⟨w.heap.size+2,0,none⟩ K).setCell ⟨w.heap.size+2,1,none⟩ Q).setCell ⟨w.heap.size+2,2,none⟩ aq).setCell ⟨w.heap.size+2,3,none⟩ ar):=fun K Q aq ar=>((((Ad.refl (only (w.heap.size+2)) z).put 0 _).put 1 _).put 2 _).put 3 _;have V:NI n c k w (Rq #[agg #[slice a2 a3 a4,slice bg bh bi,slice bd be bf,int i64 ((n.vars+c.names.length:Nat):Int)],int i64 1]) ((((z.setCell ⟨w.heap.size+2,0,none⟩ (slice a2 a3 a4)).setCell ⟨w.heap.size+2,1,none⟩ (slice bg bh bi)).setCell ⟨w.heap.size+2,2,none⟩ (slice bd be bf)).setCell ⟨w.heap.size+2,3,none⟩ (int i64 ((n.vars+c.names.length:Nat):Int))):=by
      refine⟨W.o z _ _ _ _ ck.o,a2,a3,a4,bg,bh,bi,bd,be,bf,n.vars+c.names.length,1,rfl,QO (QO ⟨rfl,Au (B0 ts) n c k g gs,Ct (Au (B0 ts) n c k g gs),dc,⟨g,gs,r.o,QO (QO ⟨B0 ts,ay.o,bp.o,rfl,rfl⟩)⟩,⟨?_,?_,?_⟩,rfl,?_⟩)⟩
      ·rw[Fgx _ _ _ f.o,<-au.o];exact(ce.box bm.o Yd Yd (a8 _ _ _ _)).mono Yp
      ·exact(dt.box bm.o Yd Yd (a8 _ _ _ _)).mono Yp
      ·rw[Is,<-bk.o];exact(du.box bm.o Yd Yd (a8 _ _ _ _)).mono Yp
      ·obtain⟨fb,fc,dw⟩:=ce.inn.shape;simp only[QH]at dw;rw[dw.2.1,au.o,<-Fgx (B0 ts) n c f.o k g gs,Ql]
     have d6:=Yh V;clear V dh dc a8 ce dt du;go_wp2;refine Jb (v:=tuple #[agg #[slice a2 a3 a4,slice bg bh bi,slice bd be bf,int i64 ((n.vars+c.names.length:Nat):Int)],int i64 1]) (by simp[results,results97,go_sem,C,D,E,F,G,dq]) rfl ?_;exact d6.o
    ·have ax:YH (∃ae,Kv n c k 3 ae):=⟨_,g,gs,r.o,QO (QO ⟨B0 ts,ay.o,bp.o,(T3 a.o f.o k r.o ay.o (by rw[<-au.o,<-bk.o];exact hl) c4).symm,rfl⟩)⟩;clear hl c4;go_wp2;refine Jb (v:=tuple #[agg #[Nl,Nl,Nl,int i64 0],int i64 2]) (by simp[results,results97,go_sem,C,D,E,F,G,dq]) rfl ?_;exact⟨W.o z _ _ _ _ ck.o,none,0,0,none,0,0,none,0,0,0,2,rfl,QO (QG ⟨rfl,ax.o⟩)⟩
def H4:ByteArray:=⟨#[48,49,50,51,52,53,54,55,56,57]⟩
theorem GH(c:UInt8):Ey c H4=Fc c:=by
 have:=Dv (p:=fun c=>Ey c H4==Fc c) (by decide+kernel) c;simpa using this
theorem Ee{c:UInt8}(h:Fc c=true):48<=c.toNat/\c.toNat<=57:=by simpa[Fc]using h
theorem I3(s:ByteArray)(p:Nat)(h:¬p<s.size):As (s.data.toList.drop p)=(0,0):=by rw[DU s p h];rfl
theorem Kx(s:ByteArray)(p:Nat)(h:p<s.size)(a:Fc s[p]=false):As (s.data.toList.drop p)=(0,0):=by
 rw[BX s p h];simp[As,a]
theorem Jh(s:ByteArray)(p:Nat)(h:p<s.size)(a:Fc s[p]=true)(h0:s[p].toNat-48=0):As (s.data.toList.drop p)=(s[p].toNat-48,1):=by
 have:=Ee a;rw[BX s p h];simp[As,a,show s[p].toNat=48 by omega]
theorem Kr(s:ByteArray)(p:Nat)(h:p<s.size)(b:Fc s[p]=true)(a:¬p+1<s.size):As (s.data.toList.drop p)=(s[p].toNat-48,1):=by
 rw[BX s p h,DU s (p+1) a];simp only[As,b,Ja];split
 ·rename_i h0;rw[h0]
 ·rfl
theorem IV(s:ByteArray)(p:Nat)(h:p<s.size)(b:Fc s[p]=true)(a:p+1<s.size)(c:Fc s[p+1]=false):As (s.data.toList.drop p)=(s[p].toNat-48,1):=by
 rw[BX s p h,BX s (p+1) a];simp only[As,b,c,Ja];split
 ·rename_i h0;rw[h0]
 ·simp
theorem Kt(s:ByteArray)(p:Nat)(h:p<s.size)(b:Fc s[p]=true)(h0:¬s[p].toNat-48=0)(a:p+1<s.size)(c:Fc s[p+1]=true):As (s.data.toList.drop p)=(10*(s[p].toNat-48)+(s[p+1].toNat-48),2):=by
 rw[BX s p h,BX s (p+1) a];simp only[As,b,c,Ja];rw[QP Yo]
theorem FT(s:ByteArray)(p:Nat)(w:World)(F:s.size<=100000)(E:p<=100001):
  Calls prog 151 #[string s,int i64 p] w fun e w'=>e=Rq #[int i64 (As (s.data.toList.drop p)).1,int i64 (As (s.data.toList.drop p)).2]/\w'=w:=by
 obtain⟨r,l⟩:=Ex (As (s.data.toList.drop p));rw[<-l];have k:=Yh l;clear l;go_enter func151,ntmps151;go_wp2
 go_loopg [6,7] 4 (fun gk nv x wr=>∃(m c:Nat),nv=int i64 m/\x=int i64 c/\c<=2/\2-c<gk/\wr=w/\
  ((c=0/\m=0)\/(c=1/\∃h:p<s.size,Fc s[p]=true/\m=s[p].toNat-48)\/(c=2/\r=(m,2))))
 case atStart=>exact⟨0,0,Yg,Yg,Yo,Yo,rfl,QG ⟨rfl,rfl⟩⟩
 case round=>
  obtain⟨m,c,rfl,rfl,z,A,rfl,h⟩:=hrel;rcases h with⟨rfl,rfl⟩|⟨rfl,i,a,j⟩|⟨rfl,l⟩
  ·by_cases i:p<s.size
   ·cases a:Fc s[p]with
    |false=>
     have q:YH _:=Yh (BO s[p] H4 wr Yd);have b:=q.o;rw[GH,a]at b;have f:=Yh b;have d:YH (r=(0,0)):=k.o.trans (Kx s p i a);clear b q a
     go_wp2_with (go_at_call 175;apply f.o.mono;rintro e w' ⟨rfl,rfl⟩)
     go_ret2;rw[d.o];exact⟨rfl,rfl⟩
    |true=>
     have b:=BO s[p] H4 wr Yd;rw[GH,a]at b;have f:=Yh b;obtain⟨u,v⟩:=Ee a;have t:=Yh a;clear b a
     go_wp2_with (go_at_call 175;apply f.o.mono;rintro e w' ⟨rfl,rfl⟩)
     go_roundg 2
     case measure=>omega
     case rel=>exact⟨s[p].toNat-48,1,by simp;omega,Yg,Yo,Yo,rfl,QO (QG ⟨rfl,i,t.o,rfl⟩)⟩
   ·have d:YH (r=(0,0)):=k.o.trans (I3 s p i);go_wp2;go_ret2;rw[d.o];exact⟨rfl,rfl⟩
  ·obtain⟨u,v⟩:=Ee a
   by_cases n:p+1<s.size
   ·cases g:Fc s[p+1]with
    |false=>
     have b:=BO s[p+1] H4 wr Yd;rw[GH,g]at b;have f:=Yh b;have d:YH (r=(m,1)):=by show _=_;rw[k.o,IV s p i a n g,j]
     clear b g j a
     go_wp2_with (go_at_call 175;apply f.o.mono;rintro e w' ⟨rfl,rfl⟩)
     go_ret2;rw[d.o];exact⟨rfl,rfl⟩
    |true=>
     have b:=BO s[p+1] H4 wr Yd;rw[GH,g]at b;have f:=Yh b;obtain⟨y,f4⟩:=Ee g
     by_cases h0:m=0
     ·have d:YH (r=(m,1)):=by show _=_;rw[k.o,Jh s p i a Yo,j]
      subst h0;clear b g j a
      go_wp2_with (go_at_call 175;apply f.o.mono;rintro e w' ⟨rfl,rfl⟩)
      go_ret2;rw[d.o];exact⟨rfl,rfl⟩
     ·have d:YH (r=(10*m+(s[p+1].toNat-48),2)):=by show _=_;rw[k.o,Kt s p i a Yo n g,j]
      have D:((m:Int)==0)=false:=by rw[Qu];omega
      have C:m<=9:=Yo
      clear b g j a
      go_wp2_with (go_at_call 175;apply f.o.mono;rintro e w' ⟨rfl,rfl⟩)
      go_roundg 1
      case measure=>omega
      case rel=>exact⟨10*m+(s[p+1].toNat-48),2,by simp;omega,Yg,Yo,Yo,rfl,QO (QO ⟨rfl,d.o⟩)⟩
   ·have d:YH (r=(m,1)):=by show _=_;rw[k.o,Kr s p i a n,j]
    clear a j;go_wp2;go_ret2;rw[d.o];exact⟨rfl,rfl⟩
  ·have d:=Yh l;clear l
   by_cases B:p+2<s.size
   ·go_wp2;go_ret2;rw[d.o];exact⟨rfl,rfl⟩
   ·go_wp2;go_ret2;rw[d.o];exact⟨rfl,rfl⟩
theorem V6(w:World)(v:Value)(e:TypeId):(w.alloc (.cells #[v] e)).ownsRow w.heap.size e 1 (slice (some ⟨w.heap.size,0,none⟩) 1 1) 1 [v]:=
 ⟨rfl,QO ⟨_,1,#[v],rfl,Qe _,QL w _,Qe _,by unfold maxLen;omega,rfl,rfl⟩⟩
def DO(f:Nat)(l:Lu)(p:Nat)(acc:List Nat):Option (List Nat)×Nat:=
 match l with
 |[]=>(some acc,0)
 |c::r=>if c=46 then D3 f r (p+1) acc else(none,p)
theorem F3(f:Nat)(l:Lu)(p:Nat)(a:List Nat)(h:(As l).2≠0):D3 (f+1) l p a=DO f (l.drop (As l).2) (p+(As l).2) (a++[(As l).1]):=by
 rw[D3,QP h];rfl
theorem F5(f:Nat)(l:Lu)(p:Nat)(a:List Nat)(h:(As l).2=0):D3 (f+1) l p a=(none,p):=by
 rw[D3,QQ h]
def SY(s:ByteArray)(e:Ending)(w':World):Prop:=
 (∃ks lv,Bl s=(some ks,0)/\e= .returned (.tuple #[lv,.int .i64 (-1)])/\w'.ownsRow 0 3 1 lv ks.length (AM ks)/\ks.length<=400/\∀k∈ks,k<=99)\/(∃pl:Nat,Bl s=(none,pl)/\e= .returned (.tuple #[.slice none 0 0,.int .i64 pl]))
theorem P3(s:ByteArray)(w:World)(W:s.size<=400):Calls prog 150 #[string s] w fun e w'=>Ao w w'/\SY s e w':=by
 have X:s.data.toList.length=s.size:=Ys
 have HN:=Yh (fun p u (Q:p<=401)=>FT s p u Yo Yo);obtain⟨m,b,n⟩:∃m b,As s.data.toList=(m,b):=⟨_,_,rfl⟩;have M:=Cd s.data.toList;rw[n]at M;simp only at M;have h0:=HN.o 0 w Yo;rw[List.drop_zero,n]at h0;have E:=Yh h0;have r:=Yh n;clear h0 n
 by_cases hz:b=0
 ·have x:YH (Bl s=(none,0)):=by
   show _=_;rw[Bl,F5 _ _ _ _ (by rw[r.o];exact hz)]
  subst hz;go_enter func150,ntmps150;go_wp2_with fail;apply E.o.mono;rintro e w' ⟨rfl,rfl⟩;go_wp2;go_ret2;exact⟨Jc _ _,QO ⟨0,x.o,rfl⟩⟩
 ·have x:YH (Bl s=DO s.size (s.data.toList.drop b) b [m]):=by
   show _=_;rw[Bl,F3 _ _ _ _ (by rw[r.o];exact hz),r.o];simp
  have Y:(((b:Nat):Int)==0)=false:=by rw[Qu];omega
  go_enter func150,ntmps150;go_wp2_with fail;apply E.o.mono;rintro e w' ⟨rfl,rfl⟩;go_wp2
  go_loopg [6,7] (s.size+1) (fun gk S av wr=>∃(p f:Nat)(a:List Nat),av=int i64 p/\p<=s.size/\s.size-p<gk/\s.size-p<=f/\Bl s=DO f (s.data.toList.drop p) p a/\a.length<=p/\(∀k∈a,k<=99)/\Ao w' wr/\wr.ownsRow w'.heap.size 3 1 S a.length (AM a))
  case atStart=>exact⟨b,s.size,[m],Yg,Yo,Yo,Yo,x.o,by simp;omega,by simp;omega,Mxt,V6 w' _ _⟩
  case round=>
   obtain⟨p,f,a,rfl,Q,V,U,L,T,J,B,C⟩:=hrel;obtain⟨la,aa,rfl⟩:=Ab C;have R:=B.size;have v:=Yh L;have l:=Yh B;have y:=Yh C;have G:=Yh J;clear L B C J
   by_cases K:p<s.size
   ·have hd:=BX s p K
    by_cases d:s[p]=46
    ·have P:((s[p].toNat:Int) !=46)=false:=by rw[d];rfl
     obtain⟨h,rfl⟩:∃h,f=h+1:=⟨f-1,Yo⟩;obtain⟨O,j,q⟩:∃m b,As (s.data.toList.drop (p+1))=(m,b):=⟨_,_,rfl⟩;have N:=Cd (s.data.toList.drop (p+1));rw[q]at N;simp only[JI]at N;have z:=HN.o (p+1) wr Yo;rw[q]at z;have F:=Yh z;have I:YH (Bl s=D3 (h+1) (s.data.toList.drop (p+1)) (p+1) a):=by
      show _=_;rw[v.o,hd];simp[DO,d]
     have t:=Yh q;clear z q hd d
     by_cases D:j=0
     ·have c:YH (Bl s=(none,p+1)):=by
       show _=_;rw[I.o,F5 _ _ _ _ (by rw[t.o];exact D)]
      subst D;go_wp2_with fail;apply F.o.mono;rintro e w2 ⟨rfl,rfl⟩;go_wp2;go_ret2;exact⟨l.o,QO ⟨p+1,c.o,Ys⟩⟩
     ·have c:YH (Bl s=DO h (s.data.toList.drop (p+1+j)) (p+1+j) (a++[O])):=by
       show _=_;rw[I.o,F3 _ _ _ _ (by rw[t.o];exact D),t.o,JV]
      have Z:(((j:Nat):Int)==0)=false:=by rw[Qu];omega
      go_wp2_with fail;apply F.o.mono;rintro e w2 ⟨rfl,rfl⟩
      go_wp2_with (at_builtin;refine Al _ rfl (.tmp 38) (.tmp 40) 25 rfl w'.heap.size 3 infoInt underlying25 rfl Yd _ a.length (AM a) rfl y.o _ rfl rfl rfl (DT _) ?_ ?_ ?_)
      ·omega
      ·omega
      intro ab w3 A;obtain⟨ac,ad,rfl⟩:=Ab A.owns;have H:=Yh A;clear A;go_wp2
      go_roundg (s.size-p)
      case measure=>omega
      case rel=>
       refine⟨p+1+j,h,a++[O],Yg,Yo,Yo,Yo,c.o,by simp;omega,fun k g=> ?_,?_,?_⟩
       ·rcases Qk.1 g with g|g
        ·exact G.o k g
        ·simp at g;subst g;omega
       ·exact l.o.trans (H.o.kept.below R (fun i e=>(y.o.lt i e).1))
       ·have:=H.o.owns;simpa[AM]using this
    ·have P:((s[p].toNat:Int) !=46)=true:=by
      rw[QR];intro e;apply d;apply UInt8.toNat_inj.1;have:s[p].toNat=46:=Yo
      rw[this];rfl
     have c:YH (Bl s=(none,p)):=by
      show _=_;rw[v.o,hd];simp[DO,d]
     clear hd d;go_wp2;go_ret2;exact⟨l.o,QO ⟨p,c.o,Ys⟩⟩
   ·have hd:=DU s p K;have c:YH (Bl s=(some a,0)):=by
     show _=_;rw[v.o,hd];simp[DO]
    clear hd;go_wp2;go_ret2;exact⟨l.o,QG ⟨a,_,c.o,rfl,AI y.o (Qm _),Yo,G.o⟩⟩
def Gy(s:ByteArray)(p:Nat):Bool:=if h:p<s.size then Fc s[p]else false
theorem PA(h:Gy s p=true):∃h:p<s.size,Fc s[p]=true:=by
 unfold Gy at h;split at h
 ·rename_i a;exact⟨a,h⟩
 ·simp at h
theorem U6(s:ByteArray)(p:Nat)(w:World)(i:s.size<=100000)(h:p<=100001):
  Calls prog 126 #[string s,int i64 p] w fun e w'=>e=returned (.bool (Gy s p))/\w'=w:=by
 have h0:(0:Int)<=(p:Int):=Yo
 by_cases c:p<s.size
 ·have g:(p:Int)<(s.size:Int):=Yo
  cases b:Fc s[p]with
  |true=>
   obtain⟨d,f⟩:=Ee b;have a:YH (Gy s p=true):=by show _=_;unfold Gy;rw[dif_pos c];exact b
   clear b;go_enter func126,ntmps126;go_wp2;go_ret;rw[a.o];exact⟨by simp;omega,rfl⟩
  |false=>
   have a:YH (Gy s p=false):=by show _=_;unfold Gy;rw[dif_pos c];exact b
   have hb:s[p].toNat<48\/57<s[p].toNat:=by
    simp only[Fc,decide_eq_false_iff_not]at b;omega
   clear b;rcases hb with hb|hb
   ·have d:¬48<=s[p].toNat:=Yo
    go_enter func126,ntmps126;go_wp2;go_ret;rw[a.o];exact⟨rfl,rfl⟩
   ·have d:48<=s[p].toNat:=Yo
    have f:¬s[p].toNat<=57:=Yo
    go_enter func126,ntmps126;go_wp2;go_ret;rw[a.o];exact⟨by simp;omega,rfl⟩
 ·have g:¬(p:Int)<(s.size:Int):=Yo
  have a:YH (Gy s p=false):=by show _=_;unfold Gy;rw[dif_neg c]
  go_enter func126,ntmps126;go_wp2;go_ret;rw[a.o];exact⟨rfl,rfl⟩
theorem Sl(s:ByteArray)(p:Nat)(w:World)(t:s.size<=100000)(z:p<=100000):
  Calls prog 96 #[string s,int i64 p] w fun e w'=>e=Rq #[int i64 (As (s.data.toList.drop p)).1,int i64 ((p+(As (s.data.toList.drop p)).2:Nat):Int)]/\w'=w:=by
 have j:=Yh (fun q u (n:q<=100001)=>U6 s q u t n);obtain⟨r,l⟩:=Ex (As (s.data.toList.drop p));rw[<-l];have i:=Yh l;clear l
 cases hd:Gy s p with
 |false=>
  have g:YH (r=(0,0)):=by
   show _=_;rw[i.o]
   by_cases f:p<s.size
   ·refine Kx s p f ?_;unfold Gy at hd;rw[dif_pos f]at hd;exact hd
   ·exact I3 s p f
  have a:=j.o p w Yo;rw[hd]at a;have a:=Yh a;clear hd;go_enter func96,ntmps96;go_wp2_with fail;apply a.o.mono;rintro e w' ⟨rfl,rfl⟩;go_wp2;go_ret2;rw[g.o];exact⟨Ys,rfl⟩
 |true=>
  obtain⟨f,d⟩:=PA hd;obtain⟨v,x⟩:=Ee d;have a:=j.o p w Yo;rw[hd]at a;have a:=Yh a;have b:=j.o (p+1) w Yo;clear hd
  by_cases h0:s[p].toNat-48=0
  ·have g:YH (r=(0,1)):=by show _=_;rw[i.o,Jh s p f d h0,h0]
   have m:s[p].toNat=48:=Yo
   clear d b;go_enter func96,ntmps96;go_wp2_with fail;apply a.o.mono;rintro e w' ⟨rfl,rfl⟩;go_wp2;go_ret2;rw[g.o];exact⟨by simp[m],rfl⟩
  ·cases c:Gy s (p+1)with
   |false=>
    have g:YH (r=(s[p].toNat-48,1)):=by
     show _=_;rw[i.o]
     by_cases h:p+1<s.size
     ·refine IV s p f d h ?_;unfold Gy at c;rw[dif_pos h]at c;exact c
     ·exact Kr s p f d h
    rw[c]at b;have b:=Yh b;clear d c;go_enter func96,ntmps96;go_wp2_with fail;apply a.o.mono;rintro e w' ⟨rfl,rfl⟩;go_wp2_with fail;apply b.o.mono;rintro e w' ⟨rfl,rfl⟩;go_wp2;go_ret2;rw[g.o];exact⟨by simp;omega,rfl⟩
   |true=>
    obtain⟨h,k⟩:=PA c;obtain⟨y,f4⟩:=Ee k;have g:YH (r=(10*(s[p].toNat-48)+(s[p+1].toNat-48),2)):=by
     show _=_;rw[i.o];exact Kt s p f d h0 h k
    rw[c]at b;have b:=Yh b;clear d c k;go_enter func96,ntmps96;go_wp2_with fail;apply a.o.mono;rintro e w' ⟨rfl,rfl⟩;go_wp2_with fail;apply b.o.mono;rintro e w' ⟨rfl,rfl⟩;go_wp2;go_ret2;rw[g.o];exact⟨by simp;omega,rfl⟩
def VY(s:ByteArray)(w:World)(e:Ending)(w':World):Prop:=Ao w w'/\
 ((400<s.size/\e= .returned (.tuple #[.slice none 0 0,.agg #[.int .i64 1,.int .i64 0]]))\/(s.size<=400/\
  ((∃ks a c,Bl s=(some ks,0)/\e= .returned (.tuple #[.slice a ks.length c,.agg #[.int .i64 0,.int .i64 0]])/\w'.ownsRow 0 3 1 (.slice a ks.length c) ks.length (AM ks)/\ks.length<=400/\∀k∈ks,k<=99)\/
   (∃pl:Nat,Bl s=(none,pl)/\e= .returned (.tuple #[.slice none 0 0,.agg #[.int .i64 6,.int .i64 pl]])))))
theorem Vt(s:ByteArray)(w:World)(an:s.size<=maxLen):Calls prog 67 #[string s] w (VY s w):=by
 unfold maxLen at an;have I:YH (∀y q r,Ao w y->Ao w ((y.setCell ⟨w.heap.size,0,none⟩ q).setCell ⟨w.heap.size,1,none⟩ r)):=fun y q r ah=>(ah.setCell (p:=⟨w.heap.size,0,none⟩) (Qe _) _).setCell (p:=⟨w.heap.size,1,none⟩) (Qe _) _
 by_cases ak:400<s.size
 ·have aj:(400:Int)<(s.size:Int):=Yo
  go_enter func67,ntmps67;go_wp2;refine Jb (v:=tuple #[Nl,agg #[int i64 1,int i64 0]]) (by simp[results,results67,go_sem]) rfl ?_;exact⟨Mxt,QG ⟨ak,rfl⟩⟩
 ·have H:s.size<=400:=Yo
  have aj:¬((400:Int)<(s.size:Int)):=Yo
  have az:s.data.toList.length=s.size:=Ys
  have HN:=Yh (fun p u (ao:p<=401)=>Sl s p u Yo Yo);go_enter func67,ntmps67;go_wp2
  go_loopg [4,5] (s.size+2) (fun gk ar av wr=>∃(p f:Nat)(a:List Nat),av=int i64 p/\p<=s.size/\s.size+1-p<gk/\s.size+1-p<=f/\Bl s=D3 f (s.data.toList.drop p) p a/\a.length<=p/\(∀k∈a,k<=99)/\Ao w wr/\wr.heap[w.heap.size]?=some (.cells #[int i64 0,int i64 0] 91 (0,0))/\wr.ownsRow w.heap.size 3 1 ar a.length (AM a))
  case atStart=>exact⟨0,s.size+1,[],Yg,Yo,Yo,Yo,by rw[Bl];rfl,Ys,Ys,Mxt,QL w _,Q2 _ _ _ _⟩
  case round=>
   obtain⟨p,f,a,rfl,ao,ax,aw,ac,au,aa,F,E,G⟩:=hrel;obtain⟨la,aq,rfl⟩:=Ab G;have ap:=F.size;obtain⟨Y,Q,R,S⟩:=C3.cells (e:=0) (p:=0) E;obtain⟨m,b,t⟩:∃m b,As (s.data.toList.drop p)=(m,b):=⟨_,_,rfl⟩;have af:=Cd (s.data.toList.drop p);rw[t]at af;simp only[JI]at af;have C:=HN.o p wr Yo;rw[t]at C;have L:=Yh C;have A:=Yh t;have O:=Yh ac;have N:=Yh F;have B:=Yh G;have z:=Yh E;have ag:=Yh aa;clear C t ac F G E aa
   by_cases hz:b=0
   ·have g:YH (Bl s=(none,p)):=by
     show _=_
     cases f with
     |zero=>
      exfalso;omega
     |succ f=>rw[O.o,F5 _ _ _ _ (by rw[A.o];exact hz)]
    subst hz;go_wp2_with fail;apply L.o.mono;rintro e w2 ⟨rfl,rfl⟩;go_wp2;refine Jb (v:=tuple #[Nl,agg #[int i64 6,int i64 p]]) (by simp[results,results67,go_sem,Q,R,S,Y]) rfl ?_;exact⟨I.o _ _ _ N.o,QO ⟨H,QO ⟨p,g.o,rfl⟩⟩⟩
   ·have ay:p<s.size:=Yo
    obtain⟨l,rfl⟩:∃l,f=l+1:=⟨f-1,Yo⟩;have g:YH (Bl s=DO l (s.data.toList.drop (p+b)) (p+b) (a++[m])):=by
     show _=_;rw[O.o,F3 _ _ _ _ (by rw[A.o];exact hz),A.o,JV]
    have a0:(((p+b:Nat):Int)==(p:Int))=false:=by rw[Qu];omega
    go_wp2_with fail;apply L.o.mono;rintro e w2 ⟨rfl,rfl⟩
    go_wp2_with (at_builtin;go_loud (refine Al _ rfl (.tmp 23) (.tmp 25) 25 rfl w.heap.size 3 infoInt underlying25 rfl Yd (slice la a.length aq) a.length (AM a) rfl B.o _ rfl rfl rfl (DT _) ?_ ?_ ?_))
    ·omega
    ·omega
    intro a1 w3 n;obtain⟨J,K,rfl⟩:=Ab n.owns;have X:Ao w w3:=N.o.trans (n.kept.below ap (fun i e=>(B.o.lt i e).1));have D:=(n.kept.block _ (Ac z.o) (Ai B.o Yd z.o)).trans z.o;obtain⟨Z,T,U,V⟩:=C3.cells (e:=0) (p:=0) D;have ae:w3.ownsRow w.heap.size 3 1 (slice J (a.length+1) K) (a++[m]).length (AM (a++[m])):=by
     have:=n.owns;simpa[AM]using this
    have x:=Yh X;have M:=Yh D;have P:=Yh ae;clear n X D ae Q R S Y;have W:YH (∀k∈a++[m],k<=99):=fun k d=>by
     rcases Qk.1 d with d|d
     ·exact ag.o k d
     ·simp at d;subst d;omega
    by_cases ab:p+b<s.size
    ·have hd:=BX s (p+b) ab
     by_cases c:s[p+b]=46
     ·have al:((s[p+b].toNat:Int) !=46)=false:=by rw[c];rfl
      have h:YH (Bl s=D3 l (s.data.toList.drop (p+b+1)) (p+b+1) (a++[m])):=by
       show _=_;rw[g.o,hd];simp[DO,c]
      clear hd c;go_wp2
      go_roundg (s.size+1-p)
      case measure=>omega
      case rel=>exact⟨p+b+1,l,a++[m],Yg,Yo,Yo,Yo,h.o,by simp;omega,W.o,x.o,M.o,by have:=P.o;simpa using this⟩
     ·have al:((s[p+b].toNat:Int) !=46)=true:=by
       rw[QR];intro e;apply c;apply UInt8.toNat_inj.1;have:s[p+b].toNat=46:=Yo
       rw[this];rfl
      have h:YH (Bl s=(none,p+b)):=by
       show _=_;rw[g.o,hd];simp[DO,c]
      clear hd c;go_wp2;refine Jb (v:=tuple #[Nl,agg #[int i64 6,int i64 ((p+b:Nat):Int)]]) (by simp[results,results67,go_sem,T,U,V,Z]) rfl ?_;exact⟨I.o _ _ _ x.o,QO ⟨H,QO ⟨p+b,h.o,rfl⟩⟩⟩
    ·have hd:=DU s (p+b) ab
     have h:YH (Bl s=(some (a++[m]),0)):=by
      show _=_;rw[g.o,hd];simp[DO]
     clear hd;go_wp2;refine Jb (v:=tuple #[slice J (a.length+1) K,agg #[int i64 0,int i64 0]]) (by simp[results,results67,go_sem,T,U,V,Z]) rfl ?_;have ai:∀q r,Ad (fun j=>j=w.heap.size) w3 ((w3.setCell ⟨w.heap.size,0,none⟩ q).setCell ⟨w.heap.size,1,none⟩ r):=fun q r=>((Ad.refl (only w.heap.size) w3).put 0 _).put 1 _;have ad:=P.o;refine⟨I.o _ _ _ x.o,QO ⟨H,QG ⟨a++[m],J,K,h.o,Ys,?_,by simp;omega,W.o⟩⟩⟩;have am:(a++[m]).length=a.length+1:=Ys
     rw[am]at ad⊢;exact AI (Bv ad M.o Yd (ai (int i64 0) (int i64 0))) (Qm _)
def Kn(n:Nat):Prop:=∀(w:World)(X:Np)(a b c:Value)(l:Ly)(v:Nat),l.length<=n->l.length<=4000->CB X w a b c l->(∀k,X k->k<w.heap.size)->v<=1000000->(∀s∈l,s.num<=1000000)->
 Calls prog 180 #[.agg #[a,b,c],.int .i64 v] w fun e w'=>∃a' b' c',e= .returned (.agg #[a',b',c'])/\Ao w w'/\CB X w' a' b' c' (ap (A0 v) l)
theorem QN(w:World)(X:Np)(n v:Nat)(hn:n<=1000000)(d:v<=1000000):
  Calls prog 180 #[agg #[string ⟨#[]⟩,int i64 n,Nl],int i64 v] w fun e w'=>∃a b c,e=returned (agg #[a,b,c])/\Ao w w'/\CB X w' a b c (vr (n+v)):=by
 go_enter func180,ntmps180;go_wp2;refine Jb (v:=agg #[string ⟨#[]⟩,int i64 ((n+v:Nat):Int),Nl]) (by simp[results,results180,go_sem]) rfl ?_;exact⟨_,_,_,rfl,Mxt,CB.var _ _ _⟩
theorem NC(n:Nat)(Z:Kn n)(w:World)(X:Np)(nm:Lu)(ao:nm≠[])(c:Value)(ls:Ll)(xs:Lv)(v:Nat)
  (E:Ed X w c ls xs) (ag:∀k,X k->k<w.heap.size) (hn:ls.flatten.length<=n) (b1:ls.flatten.length<=3999) (bh:v<=1000000) (bi:∀s∈ls.flatten,s.num<=1000000):
  Calls prog 180 #[agg #[string ⟨nm.toArray⟩,int i64 0,c],int i64 v] w fun e w'=>∃I J K,e=returned (agg #[I,J,K])/\Ao w w'/\CB X w' I J K (⟨nm,0,ls.length⟩::ap (A0 v) ls.flatten):=by
 obtain⟨ca,a8,rfl⟩:=Ab E.1;have av:=E.wf;have b7:ls.length<=ls.flatten.length:=BR (CU av);have aj:nm.isEmpty=false:=by simpa using ao
 have W:=Yh E;have a5:=Yh Z;have F:=Yh ag;clear E Z ag;go_enter func180,ntmps180;go_wp2
 go_loopg [6] (ls.length+1) (fun gk i wr=>∃(k:Nat)(L:Value)(T:Lv),i=int i64 k/\k<=ls.length/\ls.length-k<gk/\Ao w wr/\
   wr.heap[w.heap.size]?=some (.cells #[string ⟨nm.toArray⟩,int i64 0,slice ca ls.length a8] 183 (0,0))/\
   wr.heap[w.heap.size+1]?=some (.cells #[string ⟨#[]⟩,int i64 0,Nl] 183 (0,0))/\
   wr.heap[w.heap.size+1+1]?=some (.cells #[string ⟨nm.toArray⟩,int i64 0,L] 183 (0,0))/\
   Rv (A7 X w.heap.size 3) wr (w.heap.size+3) L k ((ls.take k).map (ap (A0 v))) T)
 case atStart=>
  refine⟨0,Nl,[],Yg,Qm _,Yo,Mxt,?_,?_,?_,by simpa using Rv.nil _ _ _⟩
  ·exact Ah (Ah (QL w _) _) _
  ·simpa using Ah (QL (w.alloc _) _) _
  ·simpa using QL ((w.alloc _).alloc _) _
 case round=>
  obtain⟨k,L,T,rfl,am,b3,ak,h0,af,M,P⟩:=hrel;obtain⟨l,m,rfl⟩:=Ab P.owns;have bg:=Ac M;obtain⟨bo,bp,bq,cf⟩:=By h0;have f:=Yh ak;have a1:=Yh h0;have U:=Yh af;have z:=Yh M;have q:=Yh P;clear ak h0 af M P
  by_cases bd:k<ls.length
  ·obtain⟨d,x⟩:∃d,ls[k]?=some d:=⟨_,Qb bd⟩;obtain⟨_,_,b6,_⟩:=GS x av;obtain⟨I,J,K,ay,az,a0,R⟩:=W.o.2.2 k d x;obtain⟨ax,aw,aa,ac,ab,rfl,rfl,rfl⟩:=R.shape;have y:=W.o.ext (Y:=X) f.o (fun _ _ h=>h);obtain⟨g,bu,bv,al,b0,bc,b2⟩:=An y.1 Yo;simp only[QH]at al;obtain⟨rfl,_,rfl⟩:=al;have ce:wr.cell? ⟨g,k*3,none⟩=some (string ax):=Af y.1 _ _ ay;have cg:wr.cell? ⟨g,k*3+1,none⟩=some (int i64 aw):=Af y.1 _ _ az;have ch:wr.cell? ⟨g,k*3+2,none⟩=some (slice aa ac ab):=Af y.1 _ _ a0;have ba:∀s∈d,s.num<=1000000:=fun s bf=>bi s (List.mem_flatten.2 ⟨d,Qh x,bf⟩);have a3:YH (∀H u,Ao wr u->(∀k,H k->wr.heap.size<=k/\k<u.heap.size)->Calls prog 180 #[agg #[string ax,int i64 aw,slice aa ac ab],int i64 v] u fun e S=>
     ∃r,e=returned r/\Ao u S/\RT (fun j=>A7 X w.heap.size 3 j\/Ak (slice l k m) j) (ap (A0 v) d) H r S):=fun H u au ah=>by
    have bj:Ao w u:=f.o.trans (au.mono f.o.size);have hz:=Nc (X:=X) q.o (fun k h=>(ah k h).1) f.o.size;refine(a5.o u _ _ _ _ d v Yo Yo (R.ext bj hz) ?_ bh ba).mono ?_
    ·rintro j (h|h)
     ·exact JM (L1 q.o F.o Yo j h) au.size
     ·exact(ah j h).2
    ·rintro e S ⟨a,b,c,rfl,aj,D⟩;exact⟨_,rfl,aj,RT.of D⟩
   have a7:YH ((ls.take (k+1)).map (ap (A0 v))=(ls.take k).map (ap (A0 v))++[ap (A0 v) d]):=by
    show _=_;rw[QU,x];simp
   clear bc y R ay az a0 x;go_wp2_with fail;refine(a3.o (fun _=>False) wr Mxt (fun _ h=>h.elim)).mono ?_;rintro e w1 ⟨vc,rfl,t,s2,cb,br,bt,bs,rfl,ar⟩;have O:=(t.block _ bg).trans z.o;have aq:=(Ad.of_below t).owns q.o.owns (fun k am e=>by have:=(q.o.owns.lt k am).2;omega);have a9:w1.cell? ⟨w.heap.size+1+1,2,none⟩=some (slice l k m):=Aa O 2 _ rfl;have b9:=t.size;have b8:w.heap.size+1+1<w1.heap.size:=Yo
   have G:=Yh aq;have A:=Yh t;have a6:=Yh ar;have a2:=Yh O;clear aq t ar O
   go_wp2_with (at_builtin;refine Al _ rfl (.tmp 34) (.tmp 36) 146 rfl (w.heap.size+3) 183 infoTerm underlying146 rfl Yd _ k T rfl (G.o.alloc _) _ rfl Ys rfl Gu ?_ ?_ ?_)
   ·omega
   ·simp;omega
   intro cv' w3 B;obtain⟨ad,ae,rfl⟩:=Ab B.owns;have be:¬Ak (slice l k m) (w.heap.size+1+1):=fun e=>by have:=(G.o.lt _ e).1;omega
   have C:=(B.kept.block _ Yp be).trans (Ah a2.o _);have cc:w3.cell? ⟨w.heap.size+1+1,2,none⟩=some (slice l k m):=Aa C 2 _ rfl;have cd:∀i,w3.frozen? ⟨w.heap.size+1+1,i,none⟩=false:=fun i=>Ag C i;have a4:=Yh C;have V:=Yh B;clear C B a9;go_wp2
   go_roundg (ls.length-k)
   case measure=>omega
   case rel=>
    obtain⟨ai,b5⟩:=q.o.step (w4:=w3.setCell ⟨w.heap.size+1+1,2,none⟩ (slice ad (k+1) ae)) (A.o.alloc A.o.size _) ((a6.o.on (fun j b4 hn _=>⟨rfl,fun h=>hn (QG h)⟩)).ext Mxt (fun _ _ h=>h)) V.o
     (Ad.setCell (Ad.refl _ w3) (p:=⟨w.heap.size+1+1,2,none⟩) (fun _=>QO (by simp only;omega)) _) (C7 F.o)
    rw[<-a7.o]at ai;have Q:=V.o.under (N:=w.heap.size+1+1) (A.o.alloc A.o.size _) (fun j e=>by have:=(G.o.lt j e).1;omega) Yo 2 (slice ad (k+1) ae);exact⟨k+1,_,_,Yg,Yo,Yo,f.o.trans (Q.mono Yo),(Q.block _ Yo).trans a1.o,(Q.block _ Yo).trans U.o,Ae a4.o 2 _,ai⟩
  ·have bw:wr.cell? ⟨w.heap.size+1+1,0,none⟩=some (string ⟨nm.toArray⟩):=Aa z.o 0 _ rfl;have bx:wr.cell? ⟨w.heap.size+1+1,1,none⟩=some (int i64 0):=Aa z.o 1 _ rfl;have bz:wr.cell? ⟨w.heap.size+1+1,2,none⟩=some (slice l k m):=Aa z.o 2 _ rfl;obtain⟨bk,bl,bm,bn⟩:=By U.o;go_wp2;refine Jb (v:=agg #[string ⟨nm.toArray⟩,int i64 0,slice l k m]) (by simp[results,results180,go_sem,bk,bl,bm,bn]) rfl ?_;have bb:k=ls.length:=Yo
   subst bb;have an:=(((Ad.refl (only (w.heap.size+1)) wr).put 0 (string ⟨nm.toArray⟩)).put 1 (int i64 0)).put 2 (slice l ls.length m);refine⟨_,_,_,rfl,f.o.trans (an.below f.o.size (fun j e=>by have e:j=w.heap.size+1:=e;omega)),?_⟩;have D:=q.o.row (X:=X) (an.mono (fun j _ e=>QO (by have e:j=w.heap.size+1:=e;omega))) (fun j h=>QG h) (C7 F.o);rw[QT]at D;have:=CB.name ao D;rw[<-EH]at this;simpa using this
theorem KG:∀n,Kn n:=by
 intro n
 induction n with
 |zero=>
  intro w X a b c l v hl _ h;have:=BR (h.wf _ (Qe _));omega
 |succ n p=>
  intro w X a b c l v hl j h i f hb;rcases h.o with⟨k,rfl,rfl,rfl,rfl⟩|⟨nm,ls,xs,d,rfl,rfl,rfl,g⟩
  ·have e:ap (A0 v) [⟨[],k,0⟩]=vr (k+v):=IJ _ _;rw[e];exact QN w X k v (hb ⟨[],k,0⟩ Ys) f
  ·have e:ap (A0 v) (⟨nm,0,ls.length⟩::ls.flatten)=⟨nm,0,ls.length⟩::ap (A0 v) ls.flatten:=by rw[Bu];simp[ED,d]
   rw[e];simp only[Qf]at hl j;exact NC n p w X nm d c ls xs v g i Yo Yo f (fun s m=>hb s (by simp[m]))
structure G3(X:Nat->Prop)(w:World)(gs:List (List BJ×Nat))(ys:List Value):Prop where
 len:ys.length=gs.length*4
 all:∀(i:Nat)(g:List BJ×Nat),gs[i]?=some g->∃a b c,ys[i*4]?=some a/\ys[i*4+1]?=some b/\ys[i*4+2]?=some c/\ys[i*4+3]?=some (.int .i64 g.2)/\CB X w a b c g.1
theorem G3.one{gs:List (Ly×Nat)}(h:G3 X w gs ys):∀u∈ys,u.oneCell'=true:=by
 intro u l;obtain⟨i,hi,rfl⟩:=Q8 l;have hl:=h.len;have g:i/4<gs.length:=Yo
 obtain⟨a,b,c,o,p,q,r,k⟩:=h.all (i/4) _ (Qb g);obtain⟨s,n,ca,cl,cc,rfl,rfl,rfl⟩:=k.shape;have f:∀(j:Nat)(v:Value),ys[j]?=some v->i=j->ys[i]=v:=fun j v m e=>by subst e;exact(Qa.1 m).2
 have d:i%4=0\/i%4=1\/i%4=2\/i%4=3:=Yo
 rcases d with d|d|d|d
 ·rw[f _ _ o Yo];rfl
 ·rw[f _ _ p Yo];rfl
 ·rw[f _ _ q Yo];rfl
 ·rw[f _ _ r Yo];rfl
theorem Dg.ins{n:Nat}{gs:List (Ly×Nat)}(h:Dg X w B cv n gs xs):G3 X w gs xs:=⟨by rw[h.owns.1,h.len],h.all⟩
theorem G3.tail{g:Ly×Nat}{gs:List (Ly×Nat)}(h:G3 X w (g::gs) ys):G3 X w gs (ys.drop 4):=by
 have hl:=h.len;simp only[Qf]at hl;refine⟨by simp;omega,fun i d f=> ?_⟩;obtain⟨a,b,c,l,m,n,o,k⟩:=h.all (i+1) d (by simpa using f);have e:∀j,(ys.drop 4)[i*4+j]?=ys[(i+1)*4+j]?:=fun j=>by
  rw[List.getElem?_drop];congr 1;omega
 refine⟨a,b,c,?_,?_,?_,?_,k⟩
 ·have:=e 0;simp only[JU]at this;rw[this];exact l
 ·rw[e 1];exact m
 ·rw[e 2];exact n
 ·rw[e 3];exact o
theorem Dg.more{n m:Nat}{cv':Value}{gs r:List (Ly×Nat)}(h:Dg X w B cv n gs xs)(hi:G3 X w r ys)(ha:Ar w B 200 4 cv (n+m) (xs++ys) cv' w')(D:r.length=m):
  Dg X w' B cv' (n+m) (gs++r) (xs++ys):=by
 have y:∀{a b c:Value}{l:Ly},CB X w a b c l->CB X w' a b c l:=fun E=>E.on (fun k C G F=>by
  obtain⟨H,A⟩:=F;exact⟨ha.kept.block k C (Ai h.owns Yd A),G⟩)
 have I:=h.owns.1;have z:=h.len;refine⟨ha.owns,by simp[z,D],fun i s d=> ?_⟩;rcases QB i gs.length with q|q
 ·rw[Qc q]at d;obtain⟨f,o,p,t,u,v,x,g⟩:=h.all i s d;refine⟨f,o,p,?_,?_,?_,?_,y g⟩
  ·rw[Qc Yo];exact t
  ·rw[Qc Yo];exact u
  ·rw[Qc Yo];exact v
  ·rw[Qc Yo];exact x
 ·rw[Qd q]at d;obtain⟨f,o,p,t,u,v,x,g⟩:=hi.all (i-gs.length) s d;have e:∀j,(xs++ys)[i*4+j]?=ys[(i-gs.length)*4+j]?:=fun j=>by
   rw[Qd Yo];congr 1;omega
  refine⟨f,o,p,?_,?_,?_,?_,y g⟩
  ·have:=e 0;simp only[JU]at this;rw[this];exact t
  ·rw[e 1];exact u
  ·rw[e 2];exact v
  ·rw[e 3];exact x
theorem Sn{a e:Nat}{g:Ly×Nat}{gs:List (Ly×Nat)}(h:Dg X w B (slice (some ⟨a,0,none⟩) (gs.length+1) e) (gs.length+1) (g::gs) xs)(c:Nat):
  IF w 4 (slice (some ⟨a,4,none⟩) gs.length c) gs.length (xs.drop 4):=by
 have b:=h.ins.tail;refine⟨b.len,b.one,QO ⟨⟨a,4,none⟩,c,rfl,fun j u d=> ?_⟩⟩;rw[List.getElem?_drop]at d;have:=Af h.owns (4+j) u d;have f:(⟨a,4,none⟩:Addr).add j=⟨a,4+j,none⟩:=by unfold Addr.add;split<;>simp_all
 rw[f];exact this
end Go.Proofs.YtlmjilpjmgjjcaaGreatDoor
