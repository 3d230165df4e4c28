/-
  PROVED HERE: what the program's 'clause.Texts' and 'clause.AnswerText' write (the conditions stand in each statement).
-/
import Derived.Test.YtlmjilpjmgjjcaaGreatDoorT6
import Derived.Deep.CutRange
set_option linter.unusedSimpArgs false
set_option linter.unusedVariables false
set_option maxRecDepth 10000
set_option maxHeartbeats 4000000
namespace Go.Proofs.YtlmjilpjmgjjcaaGreatDoor
open Go.RowKit
open _root_.Go.Proofs.Tryz
open Go.Value (int slice string agg pointer tuple)
open Go.IntKind (i64)
open Go.Ending (returned)
variable {w w' w1 w2 w0 wr:World}{k B b i p size cap M rb bW x:Nat}{v cv gv vv lv:Value}{xs ys vs:Lv}{X Y S:Np}{s:ByteArray}{t e:TypeId}{P:Program}{l:Ly}{ls ts:Ll}{ρ:Nat->Nat}{σ:Nat->Ly}{cs:Lc}{c:Db}{a:Ll×At}{ds r:Ln}{st:RS}{L:Bj}{G:Gr}{A:List Lu}
attribute [local simp] Yj EB IB pa Ph.kd Ph.val Kd.val
def TZ(v:Value):Prop:=∃a0 l0 c0 a1 l1 c1 a2 l2 c2 a3 l3 c3,∃v4:Int,v= .agg #[.slice a0 l0 c0,.slice a1 l1 c1,.slice a2 l2 c2,.slice a3 l3 c3,.int .i64 v4]
def Yt(B:Nat)(m0 m1 m2 m3:Value):Prop:=∀k,Ak m0 k\/Ak m1 k\/Ak m2 k\/Ak m3 k->B<=k
theorem VW(d:Nat)(h:d<=1000):IntKind.i64.wrap ((d:Int)+1)=(d:Int)+1:=by
 have e:IntKind.i64.bits=64:=rfl;rw[IntKind.wrap];simp[e];omega
theorem Ox.shape{m:Ly}{r:Value}(h:Ox X l m w w' r):∃a q,r=tuple #[a,int i64 q]:=by
 rcases h with⟨rfl,_⟩|⟨rfl,_⟩|⟨a,L,xs,rfl,_⟩
 ·exact⟨_,_,rfl⟩
 ·exact⟨_,_,rfl⟩
 ·exact⟨_,_,rfl⟩
set_option maxHeartbeats 8000000 in
theorem XA(w:World)(X:Np)(jf hq ju hp jp:Value)(cs:Lc)(xs:Lv)(n:ND)(k:Nat)(c:Db)(g:Ly×Nat)(gs:List (Ly×Nat))(ac:Gb X w jf cs xs)(cb:I5 X w hq ju hp jp n)(ia:∀k,X k->k<w.heap.size)
    (ce:cs[k]?=some c) (fq:n.goals=g::gs) (mv:cs.length<=4000) (lv:n.goals.length<=40) (mx:n.done.length<=100) (nj:n.used.length<=100) (nl:n.vals.length<=1000) (nk:n.vars<=500000) (mw:c.n<=1000)
    (f2:∀g∈n.goals,g.1.length<=30) (f3:∀g∈n.done,g.1.length<=30) (f4:∀t∈n.vals,t.length<=30) (m0:c.head.length<=30) (hb:∀t∈c.body,t.length<=30) (mt:c.body.length<=100) (iq:∀s∈c.head,s.num<=1000) (ih:∀t∈c.body,∀s∈t,s.num<=1000) (ip:∀g∈n.goals,g.2<=1000):
    Calls prog 147 #[jf,agg #[hq,ju,hp,jp,int i64 n.vars],int i64 k] w fun e w'=>∃(a9 du dv dw f7:Value)(q:Nat),e=Rq #[agg #[a9,du,dv,dw,f7],int i64 q]/\TZ (agg #[a9,du,dv,dw,f7])/\Ao w w'/\
      ((q=0/\De g.1 (ap (A0 n.vars) c.head))\/(q=3/\Hd g.1 (ap (A0 n.vars) c.head))\/
       (∃σ,ID σ g.1 (ap (A0 n.vars) c.head)/\(ap σ g.1).length<=30/\q=Ct (Au σ n c k g gs)/\f7=int i64 (n.vars+c.n:Nat)/\I5 X w' a9 du dv dw (Au σ n c k g gs)/\Yt w.heap.size a9 du dv dw)):=by
  obtain⟨c8,D⟩:=cb.goals;obtain⟨nv,b3⟩:=cb.vals;obtain⟨e5,e7⟩:=cb.done;have e8:=cb.used;rw[fq]at D;obtain⟨z,al,mq,rfl,my,lr,ls⟩:=An D.owns Ys;obtain⟨va,jt,rfl⟩:=Ab b3.1;obtain⟨da,hk,rfl⟩:=Ab e7.owns;obtain⟨jn,jo,rfl⟩:=Ab e8;have m1:=(Qa.1 ce).1;obtain⟨la,np,nq,rfl,m3,it,m5⟩:=An ac.owns Yo;obtain⟨a,b,d,mk,jy,ag,ah,ai,jw,jx,fu,fm⟩:=ac.all k c ce;obtain⟨ge,f8,e0,e2,e1,rfl,rfl,rfl⟩:=fu.shape;obtain⟨es,c5,rfl⟩:=Ab fm.1;have bj:w.cell? ⟨la,k*5,none⟩=some (string ge):=Af ac.owns _ _ ag;have aj:w.cell? ⟨la,k*5+1,none⟩=some (int i64 f8):=Af ac.owns _ _ ah;have ak:w.cell? ⟨la,k*5+2,none⟩=some (slice e0 e2 e1):=Af ac.owns _ _ ai;have gh:w.cell? ⟨la,k*5+3,none⟩=some (slice es c.body.length c5):=Af ac.owns _ _ jw;have mg:w.cell? ⟨la,k*5+4,none⟩=some (int i64 c.n):=Af ac.owns _ _ jx;have m4:=Ac it;have gy:=Yh fu;have eg:=Yh fm;have d4:=Yh D;have gi:=Yh b3;have j2:=Yh e7;have gj:=Yh e8;have c2:=Yh ia;have bp:=Yh fq;have ep:=Yh f2;have g4:=Yh f3;have k0:=Yh f4;have ee:=Yh hb;have gz:=Yh iq;have gx:=Yh ih;have kl:=Yh ip;clear ac cb ce fq fu fm D b3 e7 e8 ia f2 f3 f4 hb iq ih ip ag ah ai jw jx it lr;simp only[Qf]at ls⊢;go_enter func147,ntmps147;go_wp2_with fail;obtain⟨ab,am⟩:∃ab,ab=(((w.alloc (.cells #[slice (some ⟨z,0,none⟩) (gs.length+1) al,slice va n.vals.length jt,slice da n.done.length hk,slice jn n.used.length jo,int i64 n.vars] 152)).alloc (.cells #[Nl,Nl,Nl,Nl,int i64 0] 152)).alloc
    (.cells #[string ge,int i64 f8,slice e0 e2 e1,slice es c.body.length c5,int i64 c.n] 185)):=⟨_,rfl⟩
  have ht:Ao w ab:=by rw[am];exact Mxt
  have nb:ab.heap.size=w.heap.size+3:=by rw[am];simp
  have ii:ab.heap[w.heap.size]?=some (.cells #[slice (some ⟨z,0,none⟩) (gs.length+1) al,slice va n.vals.length jt,slice da n.done.length hk,slice jn n.used.length jo,int i64 n.vars] 152 (0,0)):=by
    rw[am];exact Ah (Ah (QL w _) _) _
  have ik:ab.heap[w.heap.size+1]?=some (.cells #[Nl,Nl,Nl,Nl,int i64 0] 152 (0,0)):=by
    rw[am];simpa using Ah (QL (w.alloc _) _) _
  have ig:ab.heap[w.heap.size+1+1]?=some (.cells #[string ge,int i64 f8,slice e0 e2 e1,slice es c.body.length c5,int i64 c.n] 185 (0,0)):=by
    rw[am];simpa using QL ((w.alloc _).alloc _) _
  rw[<-am];have d5:=Yh ht;have eh:=Yh ii;have ej:=Yh ik;have gw:=Yh ig;clear am ht ii ik ig;refine(KG c.head.length ab X _ _ _ c.head n.vars (Qe _) Yo (gy.o.ext d5.o (fun _ _ h=>h)) (fun k h=>by have:=c2.o k h;omega) Yo (fun s h=>by have:=gz.o s h;omega)).mono ?_;rintro e w1 ⟨mh,b1,ml,rfl,cc,fy⟩;obtain⟨jl,jh,g7,g9,g8,rfl,rfl,rfl⟩:=fy.shape;have f2:=cc.size;have R:Ao w w1:=d5.o.trans (cc.mono Yo);obtain⟨ck,dx,dy,dz,d0,d1⟩:=C0 ((cc.block _ Yo).trans eh.o);have N:=d4.o.ext (Y:=X) (B':=0) R (fun _ _ h=>h) (Qe _);obtain⟨k2,k4,cg,bx,bz,b0,b2,af⟩:=N.all 0 g rfl;obtain⟨gd,ng,ex,ez,ey,rfl,rfl,rfl⟩:=af.shape;have c7:w1.cell? ⟨z,0,none⟩=some (string gd):=Af N.owns _ _ bx;have a1:w1.cell? ⟨z,1,none⟩=some (int i64 ng):=Af N.owns _ _ bz;have a2:w1.cell? ⟨z,2,none⟩=some (slice ex ez ey):=Af N.owns _ _ b0;have a3:w1.cell? ⟨z,3,none⟩=some (int i64 g.2):=Af N.owns _ _ b2;have a9:w.heap.size<w1.heap.size:=Yo
  have jg:z<w1.heap.size:=by
    have:=(N.owns.lt z rfl).2;exact this
  have lm:(ap (A0 n.vars) c.head).length<=30:=by
    have:=Gk (σ:=A0 n.vars) (k:=1) (Qe _) (fun n=>by simp[A0,vr]) c.head;omega
  have ft:g.1.length<=30:=ep.o g (by rw[bp.o];simp);have gt:=Yh (fun u (l:Ao w1 u)=>Xi u X _ _ _ _ _ _ g.1 (ap (A0 n.vars) c.head) (af.ext l (fun _ _ h=>h)) (fy.ext l (fun _ _ h=>h)) (fun k h=>by have:=c2.o k h;have:=l.size;omega) ft lm);have cw:=Yh R;have bo:=Yh cc;have c3:=Yh af;clear R cc N af fy bx bz b0 b2 bj aj ak gh mg;go_wp2_with fail;refine BW Yk 999 [.rd 0 0 (fun _=>Pt w.heap.size),.rd 0 0 (fun _=>slice (some ⟨z,0,none⟩) (gs.length+1) al),.rd 0 0 (fun _=>Pt z),.rd 0 0 (fun _=>Pt z),.rd 0 0 (fun _=>agg #[string gd,int i64 ng,slice ex ez ey]),.rd 0 0 (fun _=>agg #[string jl,int i64 jh,slice g7 g9 g8]),
    .st 0,.rd 1 1 (fun vs=>vs.getD 0 undef),.rd 1 1 (fun vs=>A9 0 (vs.getD 0 undef)),.rd 1 1 (fun vs=>A9 1 (vs.getD 0 undef)),.rd 1 1 (fun vs=>A9 0 (vs.getD 0 undef)),.rd 1 1 (fun vs=>A9 1 (vs.getD 0 undef))] 1 7 Yk
    (Jr _ (fun _=>True) (fun v u=>Ao w1 u/\∃cu,Ao w1 cu/\Ao cu u/\Ox X g.1 (ap (A0 n.vars) c.head) cu u v)) rfl ?_ ?_
  · refine⟨⟨trivial,fun vs y _ hl C=> ?_⟩,⟨trivial,fun vs y _ hl C=> ?_⟩,⟨trivial,fun vs y _ hl C=> ?_⟩,⟨trivial,fun vs y _ hl C=> ?_⟩,⟨trivial,fun vs y _ hl C=> ?_⟩,⟨trivial,fun vs y _ hl C=> ?_⟩,⟨trivial,fun vs y hl C=> ?_⟩,⟨trivial,fun vs y _ hl C=> ?_⟩,⟨trivial,fun vs y _ hl C=> ?_⟩,⟨trivial,fun vs y _ hl C=> ?_⟩,⟨trivial,fun vs y _ hl C=> ?_⟩,⟨trivial,fun vs y _ hl C=> ?_⟩,trivial⟩
    iterate 6 (· obtain rfl:=C.at hl;simp[go_sem,ck,c7,a1,a2,a9,jg])
    · obtain rfl:=Q3.1 hl
      obtain rfl:=C.at (Qe _);refine .call 181 #[agg #[string gd,int i64 ng,slice ex ez ey],agg #[string jl,int i64 jh,slice g7 g9 g8]] _ (by simp[go_sem];rfl) ((gt.o _ Mxt).mono ?_);rintro e u ⟨r,rfl,ao,fp⟩;exact⟨_,rfl,trivial,Below.trans Mxt (ao.mono (by simp[World.drew])),_,Mxt,ao,fp⟩
    all_goals
      obtain⟨v,rfl⟩:=Q1.1 (show vs.length=1 by omega);obtain⟨_,_,cu,_,_,fp⟩:=C;obtain⟨bw,q,rfl⟩:=fp.shape;simp[go_sem,A9]
  rintro vs w2 hl C;obtain⟨vc,rfl⟩:=Q1.1 hl;obtain⟨_,a4,cu,ll,lk,lq⟩:=C;have Z:=Yh a4;have f3:=a4.size;simp only[EB,IB,CD,pa,Ph.kd,Ph.val,Kd.val,Qx,QX,Ja,Act.put,Q5,List.take_zero,List.getD_cons_zero];have dm:=(a4.block (w.heap.size+1) Yo).trans ((bo.o.block _ Yo).trans ej.o);obtain⟨cm,cn,co,cp,cq,cr⟩:=C0 dm;rcases lq with⟨rfl,iz⟩|⟨rfl,jd⟩|⟨bw,L,mf,rfl,f5,ix,l4,iw,m2⟩
  · have em:=Yh iz
    clear iz a4 dm;simp only[A9];go_wp2;refine Jb (v:=tuple #[agg #[Nl,Nl,Nl,Nl,int i64 0],int i64 0]) (by simp[results,results147,go_sem,cm,cn,co,cp,cq,cr]) rfl ?_;exact⟨_,_,_,_,_,0,rfl,⟨_,_,_,_,_,_,_,_,_,_,_,_,_,rfl⟩,(cw.o.trans (Z.o.mono Yo)).trans (Ad.below (S:=fun k=>w.heap.size<=k/\k<w.heap.size+3) Mst Yo (fun j h=>h.1)),QG ⟨rfl,em.o⟩⟩
  · have em:=Yh jd
    clear jd a4 dm;simp only[A9];go_wp2;refine Jb (v:=tuple #[agg #[Nl,Nl,Nl,Nl,int i64 0],int i64 3]) (by simp[results,results147,go_sem,cm,cn,co,cp,cq,cr]) rfl ?_;exact⟨_,_,_,_,_,3,rfl,⟨_,_,_,_,_,_,_,_,_,_,_,_,_,rfl⟩,(cw.o.trans (Z.o.mono Yo)).trans (Ad.below (S:=fun k=>w.heap.size<=k/\k<w.heap.size+3) Mst Yo (fun j h=>h.1)),QO (QG ⟨rfl,em.o⟩)⟩
  · obtain⟨e3,e4,rfl⟩:=Ab f5.owns
    have eq:=Yh (f5.ext (Y:=X) (B':=0) (Jc _ _) (fun _ h=>h) (Qm _));have kv:=Yh ix;have ku:=Yh iw;clear f5 ix iw a4 dm;have az:=Yh (cw.o.trans (Z.o.mono Yo):Ao w w2);have bn:=Yh ((Z.o.block _ Yo).trans ((bo.o.block _ Yo).trans eh.o));have kh:=Yh ((Z.o.block _ Yo).trans ((bo.o.block _ Yo).trans ej.o));have ef:=Yh ((Z.o.block _ Yo).trans ((bo.o.block _ Yo).trans gw.o));have ks:=Yh ((Z.o.cell (p:=⟨z,3,none⟩) jg).trans a3);have lp:g.2<=1000:=kl.o g (by rw[bp.o];simp);clear cm cn co cp cq cr ck dx dy dz d0 d1 c7 a1 a2 a3;simp only[A9];go_wp2
    go_loopg [12,13] (c.body.length+1) (fun gk mc i wr=>∃(j:Nat)(zs:Lv),i=int i64 j/\j<=c.body.length/\c.body.length-j<gk/\Ao w2 wr/\Dg X wr w2.heap.size mc j ((c.body.take j).map (fun t=>(ap (A0 n.vars) t,g.2+1))) zs)
    case atStart=>exact⟨0,[],Yg,Qm _,Yo,Jc _ _,Dg.nil _ _ _⟩
    case round=>
      obtain⟨j,zs,rfl,lw,lu,aq,f0⟩:=hrel;obtain⟨jj,jk,rfl⟩:=Ab f0.owns;have i9:=aq.size;obtain⟨au,ba,bb,bc,av,bd⟩:=C0 ((aq.block _ Yo).trans bn.o);obtain⟨et,eu,ev,c6,ew,cf⟩:=C0 ((aq.block _ Yo).trans ef.o);have hg:wr.cell? ⟨z,3,none⟩=some (int i64 g.2):=(aq.cell (p:=⟨z,3,none⟩) (by show z<_;omega)).trans ks.o;have ay:=Yh (az.o.trans (aq.mono az.o.size):Ao w wr);have ek:=Yh aq;have en:=Yh f0;clear aq f0
      by_cases ds:j<c.body.length
      · obtain⟨t,A⟩:∃t,c.body[j]?=some t:=⟨_,Qb ds⟩
        obtain⟨k1,k3,k5,ag,ah,ai,ar⟩:=eg.o.2.2 j t A;obtain⟨ct,cj,bt,bv,bu,rfl,rfl,rfl⟩:=ar.shape;have I:=eg.o.ext (Y:=X) ay.o (fun _ _ h=>h);obtain⟨Q,ld,lh,cd,lj,fs,lo⟩:=An I.1 Yo;simp only[QH]at cd;obtain⟨rfl,_,rfl⟩:=cd;have bj:wr.cell? ⟨Q,j*3,none⟩=some (string ct):=Af I.1 _ _ ag;have aj:wr.cell? ⟨Q,j*3+1,none⟩=some (int i64 cj):=Af I.1 _ _ ah;have ak:wr.cell? ⟨Q,j*3+2,none⟩=some (slice bt bv bu):=Af I.1 _ _ ai;have jc:=Qh A;have jb:=ee.o t jc;have d8:YH (∀bs u,Ao wr.drew u->(∀k,bs k->wr.heap.size<=k/\k<u.heap.size)->Calls prog 180 #[agg #[string ct,int i64 cj,slice bt bv bu],int i64 n.vars] u fun e gf=>∃r,e=returned r/\Ao u gf/\RT X (ap (A0 n.vars) t) bs r gf):=fun bs u l ib=>by
          have je:Ao w u:=ay.o.trans (l.undrew.mono ay.o.size);refine(KG t.length u (fun k=>X k\/bs k) _ _ _ t n.vars (Qe _) Yo (ar.ext je (fun k ce h=> ?_)) ?_ Yo (fun s h=>by have:=gx.o t jc s h;omega)).mono ?_
          · rcases h with h|h
            · exact h
            · have:=(ib k h).1;have:=ay.o.size;omega
          · rintro k (h|h)
            · have:=c2.o k h;have:=je.size;omega
            · exact(ib k h).2
          · rintro e gf ⟨a,b,c,rfl,ao,i3⟩
            exact⟨_,rfl,ao,RT.of i3⟩
        have er:YH ((c.body.take (j+1)).map (fun t=>(ap (A0 n.vars) t,g.2+1))=(c.body.take j).map (fun t=>(ap (A0 n.vars) t,g.2+1))++[(ap (A0 n.vars) t,g.2+1)]):=by
          show _=_;rw[QU,A];simp
        clear fs I ar ag ah ai A;go_wp2_with fail;refine DL Yk [.pur (pointer (some ⟨w.heap.size+1+1,3,none⟩)),.pur (slice (some ⟨Q,0,none⟩) c.body.length c5),.pur (int i64 j),.pur (pointer (some ⟨Q,j*3,none⟩)),.pur (agg #[string ct,int i64 cj,slice bt bv bu]),.pur (pointer (some ⟨w.heap.size,4,none⟩)),.pur (int i64 n.vars),
          .cal,.alo 183 #[string ⟨#[]⟩,int i64 0,Nl] 9 cellsOf,.sto 8] 7 Yk (RT X (ap (A0 n.vars) t)) 180 _ RT.stable d8.o ?_ rfl Yd ?_
        · refine⟨fun vc β u l=> ?_,fun vc β u l=> ?_,fun vc β u l=> ?_,fun vc β u l=> ?_,fun vc β u l=> ?_,fun vc β u l=> ?_,fun vc β u l=> ?_,fun vc β u=> ?_,fun vc β u=> ?_,?_,trivial⟩
          all_goals try(simp[pa,Kd.val,go_sem,l.up c6,l.up bj,l.up aj,l.up ak,l.up av,ds];done)
          all_goals try(simp[pa,Kd.val,go_sem];done)
          rintro vc β bs u t nw s cs ao ⟨s2,l9,k6,k8,k7,rfl,i3⟩ hb;simp at ao;obtain⟨rfl,rfl,rfl,rfl⟩:=ao;obtain⟨q0,be,bf,cl⟩:=By hb;refine⟨_,?_,G1 hb (string s2) (int i64 l9) (slice k6 k8 k7)⟩;simp[pa,Kd.val,go_sem,q0,be,bf,cl]
        rintro vc β w3 ae ⟨jm,ji,ha,hd,hc,rfl,i5⟩ ij _;have ae:=ae.undrew;have f4:=ae.size;obtain⟨ms,il⟩:=ij 8 _ _ _ _ rfl;obtain⟨q0,be,bf,_⟩:=By il;have mo:w3.cell? ⟨w.heap.size,0,none⟩=some (slice (some ⟨z,0,none⟩) (gs.length+1) al):=(ae.cell (p:=⟨w.heap.size,0,none⟩) (by show w.heap.size<_;omega)).trans au;have mp:w3.cell? ⟨z,3,none⟩=some (int i64 g.2):=(ae.cell (p:=⟨z,3,none⟩) (by show z<_;omega)).trans hg;have eo:=Yh (en.o.ext (Y:=X) (B':=w2.heap.size) (w':=w3.drewN 1) (ae.trans ⟨rfl,rfl,rfl,Qe _,fun _ _=>rfl⟩) (fun _ _ h=>h) (Qe _));have kx:YH (CB X (w3.drewN 1) (string jm) (int i64 ji) (slice ha hd hc) (ap (A0 n.vars) t)):=i5.on (fun k ce hn _=>⟨rfl,fun h=>hn (QG h)⟩);have km:=Yh ae;clear ae ij il i5 au ba bb bc av bd et eu ev c6 ew cf hg bj aj ak;simp only[CD,pa,Kd.val,Ja,Act.put];go_wp2_with fail;have nn:=VW g.2 lp
        go_region_law (refine BA (w3.drewN 1) rfl (.tmp 58) (.tmp 67) 150 rfl w2.heap.size 200 infoGoal underlying150 rfl Yd (slice jj j jk) j zs rfl eo.o.owns #[string jm,int i64 ji,slice ha hd hc,int i64 ((g.2:Int)+1)] rfl Ys rfl I4 Yo Yp rfl ?_;intro jq w4 H;obtain⟨jr,js,rfl⟩:=Ab H.owns;have a0:=Yh H;clear H)
        all_goals
          go_wp2
          go_roundg (c.body.length-j)
          case measure=>omega
          case rel=>
            have ja:=eo.o.step (d:=g.2+1) kx.o (by simpa using a0.o);rw[<-er.o]at ja;refine⟨j+1,_,Yg,Yo,Yo,?_,ja⟩;have D:Below w2.heap.size w2 w3:=ek.o.trans (km.o.mono i9);exact(D.trans (⟨rfl,rfl,rfl,Qe _,fun _ _=>rfl⟩:Below w2.heap.size w3 (w3.drewN 1))).trans (a0.o.kept.below (by show w2.heap.size<=w3.heap.size;omega) (fun k e=>(eo.o.owns.lt k e).1))
      · have fo:j=c.body.length:=Yo
        subst fo;have f1:=en.o;rw[QT]at f1;have hr:=d4.o.ext (Y:=X) (B':=0) ay.o (fun _ _ h=>h) (Qe _);have hu:Ao w2 wr:=ek.o;have mu:1<=al:=Yo
        have mz:gs.length<=39:=by have:=lv;rw[bp.o]at this;simpa using this
        have bq:=Yh f1;have cv:=Yh hr;clear f1 hr
        go_upto_region 12 with fail
        go_cut [12] from 43 (fun v wc=>∃f9 ga,v=slice f9 (c.body.length+gs.length) ga/\Ar wr w2.heap.size 200 4 (slice jj c.body.length jk) (c.body.length+gs.length) (zs++c8.drop 4) v wc)
        case first=>
          by_cases ln:al=1
          · subst ln
            have fr:gs.length=0:=Yo
            have h6:IF wr 4 (slice (some ⟨z,0,none⟩) 0 0) gs.length (c8.drop 4):=by
              have A:=cv.o.ins.tail;refine⟨A.len,A.one,QO ⟨⟨z,0,none⟩,0,by rw[fr],fun j u l=> ?_⟩⟩;have ly:=A.len;rw[fr]at ly;have:=(Qa.1 l).1;omega
            have eb:=Yh h6;clear h6 fr
            go_wp2_with (at_builtin;refine BU _ rfl (.tmp 69) (.tmp 72) 150 rfl w2.heap.size 200 infoGoal underlying150 rfl Yd _ c.body.length zs rfl bq.o.owns _ gs.length (c8.drop 4) rfl eb.o ?_ ?_ ?_)
            · omega
            · omega
            intro jq w3 H;obtain⟨jr,js,rfl⟩:=Ab H.owns;have a0:=Yh H;clear H;go_wp2_with fail
            go_meet
            case rel=>exact⟨_,_,rfl,a0.o⟩
          · have eb:=Yh (Sn cv.o (al-1))
            go_wp2_with (at_builtin;refine BU _ rfl (.tmp 69) (.tmp 72) 150 rfl w2.heap.size 200 infoGoal underlying150 rfl Yd _ c.body.length zs rfl bq.o.owns _ gs.length (c8.drop 4) rfl eb.o ?_ ?_ ?_)
            · omega
            · omega
            intro jq w3 H;obtain⟨jr,js,rfl⟩:=Ab H.owns;have a0:=Yh H;clear H;go_wp2_with fail
            go_meet
            case rel=>exact⟨_,_,rfl,a0.o⟩
        case rest=>
          obtain⟨f9,ga,rfl,fk⟩:=hcut;have N:=bq.o.more cv.o.ins.tail fk rfl;have R:Ao w2 wc:=hu.trans (fk.kept.below i9 (fun k e=>(bq.o.owns.lt k e).1));have i8:=R.size;have fc:Ao w wc:=az.o.trans (R.mono az.o.size);have dp:=j2.o.ext (Y:=X) (B':=0) fc (fun _ _ h=>h) (Qe _);have kc:=Yh (Gq dp.owns dp.ins.one);obtain⟨au,ba,bb,bc,av,bd⟩:=C0 ((R.block _ Yo).trans bn.o);have kz:=Yh N;have gn:=Yh R;have cy:=Yh fc;have kk:=Yh dp;have l5:=az.o.size;clear N R fc dp fk gt ll lk Z bo cw c3 gy eg bq cv en ek ay hu eh ej gw d5 gz gx
          go_wp2_with (at_builtin;refine BU _ rfl (.tmp 74) (.tmp 76) 150 rfl wc.heap.size 200 infoGoal underlying150 rfl Yd _ 0 [] rfl (Q2 _ _ _ _) _ n.done.length e5 rfl kc.o ?_ ?_ ?_)
          · omega
          · omega
          intro nr V a7
          try simp only[JJ,Qz]at a7
          obtain⟨hh,hm,rfl⟩:=Ab a7.owns;have i6:Dg X V wc.heap.size (slice hh n.done.length hm) n.done.length n.done e5:=by
            have:=(Dg.nil X wc wc.heap.size).more (m:=n.done.length) (cv':=slice hh n.done.length hm) (w':=V) kk.o.ins (by simpa using a7) rfl;simpa using this
          have b4:Ao wc V:=a7.kept.below (Qe _) (fun k e=>by simp[Ak,Value.ownBlock]at e);have lz:=b4.size;have hz:Ao w V:=cy.o.trans (b4.mono cy.o.size);have hv:Ao w2 V:=gn.o.trans (b4.mono i8);obtain⟨au,ba,bb,bc,av,bd⟩:=C0 ((hv.block _ Yo).trans bn.o);have a8:=d4.o.ext (Y:=X) (B':=0) hz (fun _ _ h=>h) (Qe _);obtain⟨k2,k4,cg,bx,bz,b0,b2,af⟩:=a8.all 0 g rfl;obtain⟨me,mb,le,lg,lf,rfl,rfl,rfl⟩:=af.shape;have c7:V.cell? ⟨z,0,none⟩=some (string me):=Af a8.owns _ _ bx;have a1:V.cell? ⟨z,1,none⟩=some (int i64 mb):=Af a8.owns _ _ bz;have a2:V.cell? ⟨z,2,none⟩=some (slice le lg lf):=Af a8.owns _ _ b0;have a3:V.cell? ⟨z,3,none⟩=some (int i64 g.2):=Af a8.owns _ _ b2;have g2:=Yh i6;have gp:=Yh b4;have c3:=Yh af;have ed:=Yh a7.owns;clear i6 b4 af a8 a7 bx bz b0 b2 hz hv
          go_wp2_with (at_builtin;refine Al _ rfl (.tmp 78) (.tmp 83) 150 rfl wc.heap.size 200 infoGoal underlying150 rfl Yd _ n.done.length e5 rfl ed.o _ rfl Ys rfl I4 ?_ ?_ ?_)
          · omega
          · omega
          intro ns f dk;obtain⟨hj,ho,rfl⟩:=Ab dk.owns;have i7:Dg X f wc.heap.size (slice hj (n.done.length+1) ho) (n.done.length+1) (n.done++[g]) _:=g2.o.step (d:=g.2) c3.o dk;have b5:Ao wc f:=gp.o.trans (dk.kept.below lz (fun k e=>(ed.o.lt k e).1));have l0:=b5.size;have a5:Ao w2 f:=gn.o.trans (b5.mono i8);have h0:Ao w f:=cy.o.trans (b5.mono cy.o.size);have dj:∀k,X k->k<f.heap.size:=fun k h=>by have:=c2.o k h;omega
          have fv:(c.body.map (fun t=>(ap (A0 n.vars) t,g.2+1))++gs).length=c.body.length+gs.length:=Ys
          have dl:∀(t:Ly)(k:Nat),t.length<=30->(ap (Fi (L.take k)) t).length<=4000:=fun t k A=>by
            have:=Gk (σ:=Fi (L.take k)) (k:=30) Yo (fun n=>ku.o.2 k n) t;omega
          have g5:=Yh (fun u (l:Ao w2 u)=>eq.o.ext (Y:=X) (B':=0) l (fun _ h=>h) (Qe _));have ie:∀k,∀x∈(c.body.map (fun t=>(ap (A0 n.vars) t,g.2+1))++gs),(ap (Fi (L.take k)) x.1).length<=4000:=fun k x B=>by
            refine dl x.1 k ?_;rcases Qk.1 B with B|B
            · obtain⟨t,A,rfl⟩:=Q0.1 B
              have D:=ee.o t A;have b3:=Gk (σ:=A0 n.vars) (k:=1) (Qe _) (fun n=>by simp[A0,vr]) t;show(ap (A0 n.vars) t).length<=30;omega
            · exact ep.o x (by rw[bp.o];simp[B])
          have id:∀k,∀x∈(n.done++[g]),(ap (Fi (L.take k)) x.1).length<=4000:=fun k x B=>by
            refine dl x.1 k ?_;rcases Qk.1 B with B|B
            · exact g4.o x B
            · simp at B;subst B;exact ft
          have gl:=Yh (fun u (l:Ao f u)=>Kq u X w2.heap.size 0 (slice f9 (c.body.length+gs.length) ga) (slice e3 L.length e4) (c.body.map (fun t=>(ap (A0 n.vars) t,g.2+1))++gs) L _ _
            (by rw[fv];exact kz.o.ext (Y:=X) (B':=w2.heap.size) (b5.trans (l.mono l0)) (fun _ _ h=>h) (Qe _)) (g5.o u (a5.trans (l.mono a5.size))) (fun k h=>by have:=dj k h;have:=l.size;omega) ie Yo (by rw[fv];omega))
          have gm:=Yh (fun u (l:Ao f u)=>Kq u X wc.heap.size 0 (slice hj (n.done.length+1) ho) (slice e3 L.length e4) (n.done++[g]) L _ _
            (by have hl:(n.done++[g]).length=n.done.length+1:=Ys
                rw[hl];exact i7.ext (Y:=X) (B':=wc.heap.size) l (fun _ _ h=>h) (Qe _)) (g5.o u (a5.trans (l.mono a5.size))) (fun k h=>by have:=dj k h;have:=l.size;omega) id Yo Yp)
          have d6:=Yh a5;have bl:=Yh h0;have ec:=Yh dj;have ei:=Yh dl;clear i7 b5 a5 h0 dk g2 gp c3 ed dj ie id dl c7 a1 a2 a3;go_wp2_with fail;apply(gl.o _ Mxt).mono;rintro e aw ⟨mr,j0,rfl,db,ch⟩;rw[fv]at ch;obtain⟨J,K,rfl⟩:=Ab ch.owns;have l1:=db.size;simp at l1;have ko:YH (∀i,Ak (slice J (c.body.length+gs.length) K) i->w.heap.size<=i):=fun i e=>by have D:=(ch.owns.lt i e).1;simp at D;have:=bl.o.size;omega
          have fh:aw.heap[f.heap.size]?=some (.cells #[Nl,Nl,Nl,Nl,int i64 0] 152 (0,0)):=(db.block _ Ys).trans (QL f _);obtain⟨ck,dx,dy,dz,d0,d1⟩:=C0 fh;have hw:Ao f aw:=(Mxt:Ao f (f.alloc _)).trans (db.mono Ys);have d9:=Yh fh;have gq:=Yh hw;have g3:=Yh ch;have m8:f.heap.size<aw.heap.size:=Yo
          clear fh hw ch db au ba bb bc av bd;go_wp2_with fail;refine(gm.o _ (gq.o.trans (Ad.below (S:=fun k=>k=f.heap.size) ((Ad.refl (only f.heap.size) aw).put 0 _) Yo (fun j h=>by omega)))).mono ?_;rintro e W ⟨mn,j1,rfl,b6,ci⟩;have lx:(n.done++[g]).length=n.done.length+1:=Ys
          rw[lx]at ci;obtain⟨E,F,rfl⟩:=Ab ci.owns;have l2:=b6.size;simp at l2;have kn:YH (∀i,Ak (slice E (n.done.length+1) F) i->w.heap.size<=i):=fun i e=>by have D:=(ci.owns.lt i e).1;simp at D;have:=bl.o.size;omega
          have ff:Ad (fun k=>k=f.heap.size) aw (aw.setCell ⟨f.heap.size,0,none⟩ (slice J (c.body.length+gs.length) K)):=(Ad.refl (only f.heap.size) aw).put 0 _;have ca:W.heap[f.heap.size]?=some (.cells #[slice J (c.body.length+gs.length) K,Nl,Nl,Nl,int i64 0] 152 (0,0)):=(b6.block _ Yp).trans (Ae d9.o 0 _);have h2:=(g3.o.box d9.o Yd Yd ff).ext (Y:=X) (B':=0) b6 (fun _ _ h=>h) (Qm _);have hx:Ao f W:=(gq.o.trans (ff.below Yo (fun j h=>by omega))).trans (b6.mono Yp);obtain⟨ck,dx,dy,dz,d0,d1⟩:=C0 ca;have m9:f.heap.size<W.heap.size:=Yo
          have dd:Ad (fun k=>k=f.heap.size) W (W.setCell ⟨f.heap.size,2,none⟩ (slice E (n.done.length+1) F)):=(Ad.refl (only f.heap.size) W).put 2 _;have fe:=h2.box ca Yd Yd dd;have e9:=(ci.box ca Yd Yd dd).ext (Y:=X) (B':=0) (Jc _ _) (fun _ _ h=>h) (Qm _);have dg:(W.setCell ⟨f.heap.size,2,none⟩ (slice E (n.done.length+1) F)).heap[f.heap.size]?=some (.cells #[slice J (c.body.length+gs.length) K,Nl,slice E (n.done.length+1) F,Nl,int i64 0] 152 (0,0)):=Ae ca 2 _;have c9:Ao f (W.setCell ⟨f.heap.size,2,none⟩ (slice E (n.done.length+1) F)):=hx.trans (dd.below Yo (fun j h=>by omega));generalize h7:W.setCell ⟨f.heap.size,2,none⟩ (slice E (n.done.length+1) F)=U at fe e9 dg c9;have l3:=c9.size;have na:=Ac dg;have j7:=Yh fe;have j3:=Yh e9;have ea:=Yh dg;have j5:=Yh c9;have kf:=Yh h7;clear ca h2 hx ff dd fe e9 dg c9 b6 ci h7 d9 g3 gl gm;go_wp2_with fail
          go_loopg [17] (n.vals.length+1) (fun gk i wr=>∃(k:Nat)(bw:Value)(jy:Lv),i=int i64 k/\k<=n.vals.length/\n.vals.length-k<gk/\Ad (fun j=>j=f.heap.size) U wr/\
            wr.heap[f.heap.size]?=some (.cells #[slice J (c.body.length+gs.length) K,bw,slice E (n.done.length+1) F,Nl,int i64 0] 152 (0,0))/\
            Rv (fun j=>X j\/j=f.heap.size) wr U.heap.size bw k ((n.vals.take k).map (ap (Fi L))) jy)
          case atStart=>
            rw[kf.o];exact⟨0,Nl,[],Yg,Qm _,Yo,Ad.refl _ _,ea.o,by simpa using Rv.nil _ _ _⟩
          case round=>
            obtain⟨j,bw,jz,rfl,lw,lu,dr,df,ad⟩:=hrel;obtain⟨O,P,rfl⟩:=Ab ad.owns;have ni:=dr.size;have fb:Ao f wr:=j5.o.trans (dr.below l3 (fun i e=>by omega));have h1:Ao w wr:=bl.o.trans (fb.mono bl.o.size);have fa:Ao w2 wr:=d6.o.trans (fb.mono d6.o.size);obtain⟨au,ba,bb,bc,av,bd⟩:=C0 ((fa.block _ Yo).trans bn.o);obtain⟨ck,dx,dy,dz,d0,d1⟩:=C0 df;have iy:=Ac df;have nm:=d6.o.size;have no:=bl.o.size;have el:=Yh dr;have HM:=Yh df;have aa:=Yh ad;have bk:=Yh fa;have cz:=Yh h1;clear dr df ad fb h1 fa
            by_cases ds:j<n.vals.length
            · obtain⟨t,A⟩:∃t,n.vals[j]?=some t:=⟨_,Qb ds⟩
              obtain⟨k1,k3,k5,ag,ah,ai,ar⟩:=gi.o.2.2 j t A;obtain⟨ct,cj,bt,bv,bu,rfl,rfl,rfl⟩:=ar.shape;have I:=gi.o.ext (Y:=X) cz.o (fun _ _ h=>h);obtain⟨Q,ld,lh,cd,lj,fs,lo⟩:=An I.1 Yo;simp only[QH]at cd;obtain⟨rfl,_,rfl⟩:=cd;have bj:wr.cell? ⟨Q,j*3,none⟩=some (string ct):=Af I.1 _ _ ag;have aj:wr.cell? ⟨Q,j*3+1,none⟩=some (int i64 cj):=Af I.1 _ _ ah;have ak:wr.cell? ⟨Q,j*3+2,none⟩=some (slice bt bv bu):=Af I.1 _ _ ai;have jb:=k0.o t (Qh A);have i0:∀i,Ak (slice O j P) i->U.heap.size<=i:=fun i e=>(aa.o.owns.lt i e).1;have d8:=Yh (Pg wr (fun i=>(X i\/i=f.heap.size)\/Ak (slice O j P) i) 0 (slice e3 L.length e4) L mf _ _ _ t
                (ar.on (fun i hi hn _=>⟨cz.o.block i hi,fun h=>by
                  rcases h with(h|h)|h
                  · exact hn h
                  · omega
                  · have:=i0 i h;omega⟩))
                (eq.o.on (fun i hi=>bk.o.block i (eq.o.owns.lt i hi).2) (fun i hi hn _=>⟨bk.o.block i hi,fun h=>by
                  rcases h with(h|h)|h
                  · exact hn h
                  · omega
                  · have:=i0 i h;omega⟩))
                (fun i h=>by
                  rcases h with(h|h)|h
                  · have:=ec.o i h;omega
                  · omega
                  · exact(aa.o.owns.lt i h).2)
                (fun q=>ei.o t q jb) Yo)
              have er:YH ((n.vals.take (j+1)).map (ap (Fi L))=(n.vals.take j).map (ap (Fi L))++[ap (Fi L) t]):=by
                show _=_;rw[QU,A];simp
              clear fs I ar ag ah ai A;go_wp2_with fail;apply d8.o.mono;rintro e w7 ⟨mi,mj,mm,rfl,b7,fz⟩;obtain⟨md,ma,k9,lc,lb,rfl,rfl,rfl⟩:=fz.shape;have nc:=b7.size;have fi:=(b7.block _ iy).trans HM.o;have i1:=(Ad.of_below b7).owns aa.o.owns (fun i hi e=>by have:=(aa.o.owns.lt i hi).2;omega);have e6:w7.cell? ⟨f.heap.size,1,none⟩=some (slice O j P):=Aa fi 1 _ rfl;have m6:f.heap.size<w7.heap.size:=Yo
              have g0:=Yh i1;have d7:=Yh b7;have ky:=Yh fz;have ka:=Yh fi;clear i1 b7 fz fi bj aj ak
              go_wp2_with (at_builtin;refine Al _ rfl (.tmp 108) (.tmp 110) 146 rfl U.heap.size 183 infoTerm underlying146 rfl Yd _ j jz rfl (g0.o.alloc _) _ rfl Ys rfl Gu ?_ ?_ ?_)
              · omega
              · simp;omega
              intro cv' jv M;obtain⟨he,hf,rfl⟩:=Ab M.owns;have T:=(M.kept.block _ Yp (fun e=>by have:=(g0.o.lt _ e).1;omega)).trans (Ah ka.o _);obtain⟨q0,be,bf,gb,gc,cl⟩:=C0 T;have bm:=Yh T;have gv:=Yh M;clear T M e6;go_wp2
              go_roundg (n.vals.length-j)
              case measure=>omega
              case rel=>
                obtain⟨ic,_⟩:=aa.o.step (w4:=jv.setCell ⟨f.heap.size,1,none⟩ (slice he (j+1) hf)) (d7.o.alloc d7.o.size _) (ky.o.ext Mxt (fun _ _ h=>h)) gv.o
                  (Ad.setCell (Ad.refl _ jv) (p:=⟨f.heap.size,1,none⟩) (fun _=>QO rfl) _) (fun i h=>by
                    rcases h with h|h
                    · have:=ec.o i h;omega
                    · omega)
                rw[<-er.o]at ic;have l6:Ad (fun i=>i=f.heap.size\/U.heap.size<=i) wr (w7.alloc (.cells #[string md,int i64 ma,slice k9 lc lb] 183)):=((Ad.of_below d7.o).alloc _).mono (fun i hi h=>by omega);have l7:=l6.then gv.o.kept (fun i hi e=>QO (aa.o.owns.lt i e).1)
                have l8:=l7.setCell (p:=⟨f.heap.size,1,none⟩) (fun _=>QG rfl) (slice he (j+1) hf);exact⟨j+1,_,_,Yg,Yo,Yo,el.o.then l8 (fun i hi h=>by omega),Ae bm.o 1 _,ic⟩
            · have fo:j=n.vals.length:=Yo
              subst fo;have ad:=aa.o;rw[QT]at ad;have kr:YH (∀i,Ak (slice O n.vals.length P) i->w.heap.size<=i):=fun i e=>by have D:=(ad.owns.lt i e).1;omega
              have h9:=ad.row (X:=X) (Ad.refl _ _) (fun i h=>QG h) (fun i h=>by
                rcases h with h|h
                · have:=ec.o i h;omega
                · omega)
              have h3:=j7.o.box ea.o Yd Yd el.o;have hs:=j3.o.box ea.o Yd Yd el.o;have h8:=Aj gj.o (fun i hi=>cz.o.block i (gj.o.lt i hi).2);have ke:=Yh (Gq h8 (fun u l=>by
                simp only[AM,Q0]at l;obtain⟨x,_,rfl⟩:=l;rfl))
              obtain⟨et,eu,ev,c6,ew,cf⟩:=C0 ((bk.o.block _ Yo).trans ef.o);have kg:=Yh h9;have j8:=Yh h3;have j4:=Yh hs;clear ad h9 h3 hs h8 aa
              go_wp2_with (at_builtin;refine BU _ rfl (.tmp 114) (.tmp 116) 25 rfl wr.heap.size 3 infoInt underlying25 rfl Yd _ 0 [] rfl (Q2 _ _ _ _) _ n.used.length (AM n.used) rfl ke.o ?_ ?_ ?_)
              · omega
              · omega
              intro nt bg M
              try simp only[JJ,Qz]at M
              obtain⟨d2,d3,rfl⟩:=Ab M.owns;have dc:Ao wr bg:=M.kept.below (Qe _) (fun i e=>by simp[Ak,Value.ownBlock]at e);have T:=(dc.block _ iy).trans HM.o;have b9:Ad (fun i=>i=f.heap.size) bg (bg.setCell ⟨f.heap.size,3,none⟩ (slice d2 n.used.length d3)):=(Ad.refl (only f.heap.size) bg).put 3 _;have i2:=Bv M.owns T Yd b9;obtain⟨q0,be,bf,gb,gc,cl⟩:=C0 T;have nd:=dc.size;have m7:f.heap.size<bg.heap.size:=Yo
              obtain⟨br,di⟩:=Ex (bg.setCell ⟨f.heap.size,3,none⟩ (slice d2 n.used.length d3));have h5:br.heap[f.heap.size]?=some (.cells #[slice J (c.body.length+gs.length) K,slice O n.vals.length P,slice E (n.done.length+1) F,slice d2 n.used.length d3,int i64 0] 152 (0,0)):=by rw[di];exact Ae T 3 _
              rw[<-di]at b9;have cx:=Yh dc;have bm:=Yh T;have c0:=Yh b9;have c4:=Yh i2;have kb:=Yh h5;have c1:=Yh di;have nh:=b9.size;clear M dc T b9 i2 h5 di
              go_wp2_with (at_builtin;refine Al _ rfl (.tmp 120) (.tmp 122) 25 rfl wr.heap.size 3 infoInt underlying25 rfl Yd _ n.used.length (AM n.used) rfl c4.o _ rfl Ys rfl (DT _) ?_ ?_ ?_)
              · omega
              · simp;omega
              rw[<-c1.o];intro nu ax an;obtain⟨bh,bi,rfl⟩:=Ab an.owns;have dq:Ad (fun i=>wr.heap.size<=i) br ax:=an.kept.mono (fun i _ e=>by have:=c4.o;rw[<-c1.o]at this;exact(this.lt i e).1);have dh:=(dq.block _ Yo Yo).trans kb.o;obtain⟨q0,be,bf,gb,gc,cl⟩:=C0 dh;have ne:=dq.size;have b8:Ao w2 ax:=((bk.o.trans (cx.o.mono bk.o.size)).trans (c0.o.below Yo (fun i e=>by omega))).trans (dq.below Yo (fun i e=>by omega));obtain⟨au,ba,bb,bc,av,bd⟩:=C0 ((b8.block _ Yo).trans bn.o);obtain⟨et,eu,ev,c6,ew,cf⟩:=C0 ((b8.block _ Yo).trans ef.o);have fw:=(b8.block _ (show w.heap.size+1<w2.heap.size by omega)).trans kh.o;have fl:=an.owns;have kp:YH (∀i,Ak (slice bh (n.used.length+1) bi) i->w.heap.size<=i):=fun i e=>by have D:=(fl.lt i e).1;have:=cz.o.size;omega
              have dn:I5 X br (slice J (c.body.length+gs.length) K) (slice O n.vals.length P) (slice E (n.done.length+1) F) (slice d2 n.used.length d3) {Au (Fi L) n c k g gs with used:=n.used}:=by
                have e6:(Au (Fi L) n c k g gs).goals.length=c.body.length+gs.length:=by simp[Au,Fl]
                have li:(Au (Fi L) n c k g gs).done.length=n.done.length+1:=by simp[Au,Fl]
                refine⟨⟨j0,?_⟩,⟨jz,?_⟩,⟨j1,?_⟩,?_⟩
                · show Dg X br 0 _ (Au (Fi L) n c k g gs).goals.length _ j0
                  rw[e6];exact(j8.o.ext (Y:=X) (B':=0) cx.o (fun _ _ h=>h) (Qe _)).box bm.o Yd Yd c0.o
                · exact(kg.o.ext (Y:=X) cx.o (fun _ _ h=>h)).box bm.o Yd c0.o
                · show Dg X br 0 _ (Au (Fi L) n c k g gs).done.length _ j1
                  rw[li];exact(j4.o.ext (Y:=X) (B':=0) cx.o (fun _ _ h=>h) (Qe _)).box bm.o Yd Yd c0.o
                · have:=c4.o
                  rw[<-c1.o]at this;exact AI this (Qm _)
              have io:I5 X ax (slice J (c.body.length+gs.length) K) (slice O n.vals.length P) (slice E (n.done.length+1) F) (slice bh (n.used.length+1) bi) (Au (Fi L) n c k g gs):=by
                have dt:=c4.o;rw[<-c1.o]at dt;obtain⟨aj,a1⟩:=dn.goals;obtain⟨ak,a2⟩:=dn.vals;obtain⟨gh,a3⟩:=dn.done;refine⟨⟨aj,a1.aside dt Yd Yd an.kept⟩,⟨ak,a2.aside dt Yd an.kept⟩,⟨gh,a3.aside dt Yd Yd an.kept⟩,?_⟩;have:=AI fl (Qm _);simpa[Au,AM]using this
              have de:Ad (fun i=>i=f.heap.size) ax ((ax.setCell ⟨f.heap.size,3,none⟩ (slice bh (n.used.length+1) bi)).setCell ⟨f.heap.size,4,none⟩ (int i64 (Au (Fi L) n c k g gs).vars)):=((Ad.refl (only f.heap.size) ax).put 3 _).put 4 _;have fn:=io.box dh Yd Yd Yd de;have h4:((ax.setCell ⟨f.heap.size,3,none⟩ (slice bh (n.used.length+1) bi)).setCell ⟨f.heap.size,4,none⟩ (int i64 (Au (Fi L) n c k g gs).vars)).heap[f.heap.size]?=some (.cells #[slice J (c.body.length+gs.length) K,slice O n.vals.length P,slice E (n.done.length+1) F,slice bh (n.used.length+1) bi,int i64 (Au (Fi L) n c k g gs).vars] 152 (0,0)):=Ae (Ae dh 3 _) 4 _;have i4:=(de.block _ (Ac fw) Yo).trans fw;have hy:=(b8.trans (de.below Yo (fun i e=>by omega)));have iu:∀x∈(Au (Fi L) n c k g gs).goals,x.1.length<=4000:=fun x B=>by
                simp only[Au,Fl,Q0]at B;obtain⟨y,G,rfl⟩:=B;show(ap (Fi L) y.1).length<=4000;have hb:=ei.o y.1 L.length (by
                  rcases Qk.1 G with G|G
                  · obtain⟨t,A,rfl⟩:=Q0.1 G
                    have D:=ee.o t A;have b3:=Gk (σ:=A0 n.vars) (k:=1) (Qe _) (fun n=>by simp[A0,vr]) t;show(ap (A0 n.vars) t).length<=30;omega
                  · exact ep.o y (by rw[bp.o];simp[G]))
                rw[QT]at hb;exact hb
              have iv:∀x∈(Au (Fi L) n c k g gs).done,x.1.length<=4000:=fun x B=>by
                simp only[Au,Fl,Q0]at B;obtain⟨y,G,rfl⟩:=B;show(ap (Fi L) y.1).length<=4000;have hb:=ei.o y.1 L.length (by
                  rcases Qk.1 G with G|G
                  · exact g4.o y G
                  · simp at G;subst G;exact ft)
                rw[QT]at hb;exact hb
              have fg:=Ws _ X _ _ _ _ (Au (Fi L) n c k g gs) fn (by simp[Au,Fl];omega) (by simp[Au,Fl];omega) (by simp[Au];omega) iu iv;have f6:((Au (Fi L) n c k g gs).vars:Int)=(n.vars:Int)+c.n:=by simp[Au]
              have gr:=Yh hy;have gu:=Yh h4;have g1:=Yh i4;have kj:=Yh fn;rw[f6]at fg;have j9:=Yh fg;have g6:=Yh f6;clear dn io de fn h4 i4 hy iu iv fg f6 an fl dh fw b8 dq;go_wp2_with fail;apply j9.o.mono;rintro e gg ⟨rfl,a6⟩;rw[<-g6.o]at a6;have fj:=(a6.block _ (Ac gu.o)).trans gu.o;have fx:=(a6.block _ (Ac g1.o)).trans g1.o;rw[g6.o]at fj;obtain⟨q0,be,bf,gb,gc,cl⟩:=C0 fj;obtain⟨cm,cn,co,cp,cq,cr⟩:=C0 fx;have im:=kj.o.ext (Y:=X) a6 (fun _ _ h=>h);have fd:Ao w gg:=az.o.trans ((gr.o.mono l5).trans (a6.mono (by have:=gr.o.size;omega)));have ki:=Yh im;have j6:=Yh fd;have kw:=Yh fx;have nf:=fd.size;clear fj fx im fd a6;generalize ir:Ct (Au (Fi L) n c k g gs)=kq;have kt:=Yh ir;clear ir;go_wp2;refine Jb (v:=tuple #[agg #[slice J (c.body.length+gs.length) K,slice O n.vals.length P,slice E (n.done.length+1) F,slice bh (n.used.length+1) bi,int i64 ((n.vars:Int)+c.n)],int i64 kq]) (by simp[results,results147,go_sem,cm,cn,co,cp,cq,cr]) rfl ?_;refine⟨_,_,_,_,_,kq,rfl,⟨_,_,_,_,_,_,_,_,_,_,_,_,_,rfl⟩,j6.o.trans (Ad.below (S:=fun i=>i=w.heap.size+1) ((((((Ad.refl (only (w.heap.size+1)) gg).put 0 _).put 1 _).put 2 _).put 3 _).put 4 _) Yo (fun i e=>by omega)),QO (QO ⟨Fi L,kv.o,l4,kt.o.symm,Ys,?_,?_⟩)⟩
              rotate_left
              · rintro i (h|h|h|h)
                · exact ko.o i h
                · exact kr.o i h
                · exact kn.o i h
                · exact kp.o i h
              exact ki.o.box kw.o Yd Yd Yd ((((((Ad.refl (only (w.heap.size+1)) gg).put 0 _).put 1 _).put 2 _).put 3 _).put 4 _)
theorem Sq{q:Ll}{t:Ly}(h:q[k]?=some t):(q.take (k+1)).map (fun t=>(t,0))=(q.take k).map (fun t=>(t,0))++[(t,(0:Nat))]:=by
 rw[QU,h];simp
theorem W8(w:World)(X:Np)(av nv:Value)(q:Ll×At)(a7:Lv)(O:Ed X w av q.1 a7)(P:∃na u,nv=slice na q.2.length u)(ap:∀k,X k->k<w.heap.size)(hl:q.1.length<=100)(hn:q.2.length<=1000):
  Calls prog 120 #[agg #[av,nv]] w fun e w'=>∃C D,e=returned (agg #[C,D,Nl,Nl,int i64 (AN q).vars])/\Ao w w'/\I5 X w' C D Nl Nl (AN q):=by
 obtain⟨na,u,rfl⟩:=P;obtain⟨aa,K,rfl⟩:=Ab O.1;have af:=Yh O;have ag:=Yh ap;clear O ap;go_enter func120,ntmps120;go_wp2
 go_loopg [4] (q.1.length+1) (fun gk i wr=>∃(k:Nat)(N:Value)(zs:Lv),i=int i64 k/\k<=q.1.length/\q.1.length-k<gk/\Ao w wr/\
   wr.heap[w.heap.size]?=some (.cells #[slice aa q.1.length K,slice na q.2.length u] 148 (0,0))/\
   wr.heap[w.heap.size+1]?=some (.cells #[Nl,Nl,Nl,Nl,int i64 0] 152 (0,0))/\
   wr.heap[w.heap.size+1+1]?=some (.cells #[N,Nl,Nl,Nl,int i64 0] 152 (0,0))/\
   Dg X wr (w.heap.size+3) N k ((q.1.take k).map (fun t=>(t,0))) zs)
 case atStart=>
  refine⟨0,Nl,[],Yg,Qm _,Yo,Mxt,?_,?_,?_,Dg.nil _ _ _⟩
  ·exact Ah (Ah (QL w _) _) _
  ·simpa using Ah (QL (w.alloc _) _) _
  ·simpa using QL ((w.alloc _).alloc _) _
 case round=>
  obtain⟨k,N,zs,rfl,bf,bd,ar,h0,n,a,W⟩:=hrel;obtain⟨A,B,rfl⟩:=Ab W.owns;have ca:=Ac a;obtain⟨a8,b1,a9⟩:wr.cell? ⟨w.heap.size,0,none⟩=some (slice aa q.1.length K)/\wr.cell? ⟨w.heap.size,1,none⟩=some (slice na q.2.length u)/\∀i,wr.frozen? ⟨w.heap.size,i,none⟩=false:=
   ⟨Aa h0 0 _ rfl,Aa h0 1 _ rfl,fun i=>Ag h0 i⟩
  obtain⟨C,D,bi,bj,bk,bl⟩:=C0 a;have y:=Yh ar;have ac:=Yh h0;have ad:=Yh n;have I:=Yh a;have ai:=Yh W;clear ar h0 n a W
  by_cases aw:k<q.1.length
  ·obtain⟨t,ab⟩:∃t,q.1[k]?=some t:=⟨_,Qb aw⟩;obtain⟨bt,bu,bv,a0,a1,a2,Z⟩:=af.o.2.2 k t ab;obtain⟨az,ay,aj,al,ak,rfl,rfl,rfl⟩:=Z.shape;have s:=af.o.ext (Y:=X) y.o (fun _ _ h=>h);obtain⟨M,bw,bx,au,b6,be,b7⟩:=An s.1 Yo;simp only[QH]at au;obtain⟨rfl,_,rfl⟩:=au;have ch:wr.cell? ⟨M,k*3,none⟩=some (string az):=Af s.1 _ _ a0;have ci:wr.cell? ⟨M,k*3+1,none⟩=some (int i64 ay):=Af s.1 _ _ a1;have cj:wr.cell? ⟨M,k*3+2,none⟩=some (slice aj al ak):=Af s.1 _ _ a2;have a5:=Yh (Z.ext (Y:=X) y.o (fun _ _ h=>h));have a6:=Yh (Sq ab);have z:=Yh (ai.o.ext (Y:=X) (B':=w.heap.size+3) (w':=wr.drewN 1) ⟨rfl,rfl,rfl,Qe _,fun _ _=>rfl⟩ (fun _ _ h=>h) (Qe _));clear be s Z a0 a1 a2 ab;go_wp2_with fail
   go_region_law (refine BA (wr.drewN 1) rfl (.tmp 14) (.tmp 21) 150 rfl (w.heap.size+3) 200 infoGoal underlying150 rfl Yd (slice A k B) k zs rfl z.o.owns #[string az,int i64 ay,slice aj al ak,int i64 0] rfl Ys rfl I4 Yo (by show w.heap.size+3<=wr.heap.size;omega) rfl ?_;intro bs w2 b;obtain⟨E,F,rfl⟩:=Ab b.owns;have R:=(b.kept.block _ (show w.heap.size+1+1<wr.heap.size by omega) (fun e=>by have:=(z.o.owns.lt _ e).1;omega)).trans I.o;obtain⟨bz,b0,b2,b3,b4,b5⟩:=C0 R;have ah:=Yh R;have m:=Yh b;clear b R)
   all_goals
    go_wp2
    go_roundg (q.1.length-k)
    case measure=>omega
    case rel=>
     have ax:=z.o.step (d:=0) (a5.o.on (fun k _ hn _=>⟨rfl,hn⟩)) m.o;rw[<-a6.o]at ax;have f:Below (w.heap.size+1+1) wr w2:=(⟨rfl,rfl,rfl,Qe _,fun _ _=>rfl⟩:Below _ wr (wr.drewN 1)).trans (m.o.kept.below (by show _<=wr.heap.size;omega) (fun j e=>by have:=(z.o.owns.lt j e).1;omega));have c:Ad (fun j=>j=w.heap.size+1+1) w2 (w2.setCell ⟨w.heap.size+1+1,0,none⟩ (slice E (k+1) F)):=(Ad.refl (only (w.heap.size+1+1)) w2).put 0 _;refine⟨k+1,_,_,Yg,Yo,Yo,?_,?_,?_,Ae ah.o 0 _,ax.box ah.o Yd Yd c⟩
     ·exact y.o.trans ((f.mono Yo).trans (c.below (by have:=f.size;omega) (fun j e=>by omega)))
     ·exact(c.block _ (by have:=f.size;omega) Yo).trans ((f.block _ Yo).trans ac.o)
     ·exact(c.block _ (by have:=f.size;omega) Yo).trans ((f.block _ Yo).trans ad.o)
  ·have U:k=q.1.length:=Yo
   subst U;have V:=ai.o;rw[QT]at V;have a4:=Yh V;clear V;obtain⟨g,bh⟩:∃x,x=wr:=⟨_,rfl⟩;subst bh;go_wp2
   go_loopg [5] (q.2.length+1) (fun gk i wr=>∃(k:Nat)(L:Value)(G:Lv),i=int i64 k/\k<=q.2.length/\q.2.length-k<gk/\Ad (fun j=>j=w.heap.size+1+1) g wr/\
    wr.heap[w.heap.size+1+1]?=some (.cells #[slice A q.1.length B,L,Nl,Nl,int i64 0] 152 (0,0))/\
    Rv (fun j=>X j\/j=w.heap.size+1+1) wr g.heap.size L k ((List.range k).map vr) G)
   case atStart=>exact⟨0,Nl,[],Yg,Qm _,Yo,Ad.refl _ _,I.o,Rv.nil _ _ _⟩
   case round=>
    obtain⟨k,L,G,rfl,bf,bd,r,a,Q⟩:=hrel;obtain⟨am,an,rfl⟩:=Ab Q.owns;have b9:=r.size;have h0:=(r.block _ (show w.heap.size<g.heap.size by omega) Yo).trans ac.o;have n:=(r.block _ (show w.heap.size+1<g.heap.size by omega) Yo).trans ad.o;obtain⟨a8,b1,a9⟩:wr.cell? ⟨w.heap.size,0,none⟩=some (slice aa q.1.length K)/\wr.cell? ⟨w.heap.size,1,none⟩=some (slice na q.2.length u)/\∀i,wr.frozen? ⟨w.heap.size,i,none⟩=false:=
     ⟨Aa h0 0 _ rfl,Aa h0 1 _ rfl,fun i=>Ag h0 i⟩
    obtain⟨C,D,bi,bj,bk,bl⟩:=C0 a;have bg:=Ac a;have J:=Yh r;have H:=Yh n;have ae:=Yh a;have l:=Yh Q;clear r h0 n a Q
    by_cases aw:k<q.2.length
    ·go_wp2_with (at_builtin;refine Al _ rfl (.tmp 32) (.tmp 35) 146 rfl g.heap.size 183 infoTerm underlying146 rfl Yd _ k G rfl l.o.owns _ rfl rfl rfl Gu ?_ ?_ ?_)
     ·omega
     ·omega
     intro bs w3 b;obtain⟨E,F,rfl⟩:=Ab b.owns;have T:=(b.kept.block _ bg (fun e=>by have:=(l.o.owns.lt _ e).1;omega)).trans ae.o;obtain⟨cb,cc,cd,ce,cf,cg⟩:=C0 T;have a3:=Yh T;have m:=Yh b;clear b T;go_wp2
     go_roundg (q.2.length-k)
     case measure=>omega
     case rel=>
      have c:Ad (fun j=>X j\/j=w.heap.size+1+1) w3 (w3.setCell ⟨w.heap.size+1+1,1,none⟩ (slice E (k+1) F)):=Ad.setCell (Ad.refl _ w3) (p:=⟨w.heap.size+1+1,1,none⟩) (fun _=>QO rfl) _;have ba:Ad (fun j=>j=w.heap.size+1+1) w3 (w3.setCell ⟨w.heap.size+1+1,1,none⟩ (slice E (k+1) F)):=(Ad.refl (only (w.heap.size+1+1)) w3).put 1 _;obtain⟨aq,_⟩:=l.o.step (Jc _ _) (CB.var _ wr k) m.o c (fun j h=>by
       rcases h with h|h
       ·have:=ag.o j h;omega
       ·omega)
      have e:(List.range (k+1)).map vr=(List.range k).map vr++[vr k]:=by rw[List.range_succ];simp
      rw[<-e]at aq;refine⟨k+1,_,_,Yg,Yo,Yo,?_,Ae a3.o 1 _,aq⟩;exact J.o.then (S':=fun j=>j=w.heap.size+1+1\/g.heap.size<=j) ((m.o.kept.mono (fun j _ e=>QO (l.o.owns.lt j e).1)).then ba (fun _ _ e=>QG e)) (fun j b8 h=>by omega)
    ·have U:k=q.2.length:=Yo
     subst U;obtain⟨bm,bn,bo,bp,bq,br⟩:=C0 H.o;go_wp2;refine Jb (v:=agg #[slice A q.1.length B,slice am q.2.length an,Nl,Nl,int i64 q.2.length]) (by simp[results,results120,go_sem,bm,bn,bo,bp,bq,br]) rfl ?_;have P:I5 X wr (slice A q.1.length B) (slice am q.2.length an) Nl Nl (AN q):=by
      refine⟨⟨zs,?_⟩,⟨G,?_⟩,⟨[],Dg.nil _ _ _⟩,Q2 _ _ _ _⟩
      ·have:=a4.o.box I.o Yd Yd J.o;have e:(AN q).goals.length=q.1.length:=by simp[AN]
       rw[e];exact⟨AI this.owns (Qm _),this.len,this.all⟩
      ·exact l.o.row (Ad.refl _ _) (fun j h=>QG h) (fun j h=>by
        rcases h with h|h
        ·have:=ag.o j h;omega
        ·omega)
     have ao:Ad (fun j=>j=w.heap.size+1+1) wr (wr.setCell ⟨w.heap.size+1+1,4,none⟩ (int i64 q.2.length)):=(Ad.refl (only (w.heap.size+1+1)) wr).put 4 _;have bc:=(ao.block _ (Ac H.o) Yo).trans H.o;have bb:=P.box ae.o Yd Yd Yd ao;refine⟨_,_,rfl,?_,bb.box bc Yd Yd Yd (((((((Ad.refl (only (w.heap.size+1)) _).put 0 _).put 1 _).put 2 _).put 3 _).put 4 _))⟩;refine(y.o.trans (J.o.below Yo (fun j e=>by omega))).trans (Ad.below (S:=fun k=>w.heap.size<=k/\k<w.heap.size+3) Mst Yo (fun j h=>h.1))
structure BC(X:Nat->Prop)(w:World)(m0 m1 m2 m3 m4:Value)(n0:ND):Prop where
 node:∃n,I5 X w m0 m1 m2 m3 n/\FM n/\NG n/\Cl n n0/\m4= .int .i64 n.vars
 off:∀k,Ak m0 k\/Ak m1 k\/Ak m2 k\/Ak m3 k->¬X k
theorem BC.on{l m o p q:Value}{r:ND}(h:BC X w l m o p q r)(c:∀k,k<w.heap.size->¬X k->w'.heap[k]?=w.heap[k]?)(j:∀k,k<w.heap.size->Y k->X k):BC Y w' l m o p q r:=by
 obtain⟨n,b,s,t,u,v⟩:=h.node;obtain⟨xs,d⟩:=b.goals;obtain⟨A,g⟩:=b.vals;obtain⟨zs,e⟩:=b.done;have f:∀k,k<w.heap.size->¬X k->Cz w k->w'.heap[k]?=w.heap[k]?/\¬Y k:=fun k a i _=>⟨c k a i,fun z=>i (j k a z)⟩;refine⟨⟨n,⟨⟨xs,d.on (fun k a=>c k (d.owns.lt k a).2 (h.off k (QG a))) f⟩,⟨A,g.on f⟩,⟨zs,e.on (fun k a=>c k (e.owns.lt k a).2 (h.off k (QO (QO (QG a))))) f⟩,Aj b.used (fun k a=>c k (b.used.lt k a).2 (h.off k (QO (QO (QO a)))))⟩,s,t,u,v⟩,?_⟩;intro k a x;have y:k<w.heap.size:=by
  rcases a with a|a|a|a
  ·exact(d.owns.lt k a).2
  ·exact(g.1.lt k a).2
  ·exact(e.owns.lt k a).2
  ·exact(b.used.lt k a).2
 exact h.off k a (j k y x)
theorem BC.ext{a b c d f:Value}{g:ND}(h:BC X w a b c d f g)(e:Ao w w')(j:∀k,k<w.heap.size->Y k->X k):BC Y w' a b c d f g:=h.on (fun k i _=>e.block k i) j
theorem BC.box{cs:Av}{fr:Nat×Nat}{a b c d e:Value}{f:ND}(h:BC X w a b c d e f)(i:w.heap[M]?=some (.cells cs t fr))(m:t≠183)(o:200≠t)(p:3≠t)(l:Ad (fun k=>k=M) w w'):BC X w' a b c d e f:=by
 obtain⟨n,j,g⟩:=h.node;exact⟨⟨n,j.box i m o p l,g⟩,h.off⟩
def SW(n0:ND)(c:Db)(k:Nat):(Nat->Prop)->Value->World->Prop:=fun Z v u=>∃m0 m1 m2 m3 m4:Value,∃q:Nat,v= .tuple #[.agg #[m0,m1,m2,m3,m4],.int .i64 q]/\TZ (.agg #[m0,m1,m2,m3,m4])/\q=(Ax n0 c k).2/\(q=1\/q=2->BC Z u m0 m1 m2 m3 m4 (Ax n0 c k).1)
theorem SW.stable{d:ND}:∀X b v u a,SW d c k X v u->(∀k,k<u.heap.size->¬X k->a.heap[k]?=u.heap[k]?)->u.heap.size<=a.heap.size->(∀k,k<u.heap.size->b k->X k)->SW d c k b v a:=by
 rintro X b v u a ⟨l,m,n,o,p,q,rfl,e,f,g⟩ i _ j;exact⟨l,m,n,o,p,q,rfl,e,f,fun h=>(g h).on i j⟩
theorem Wu:∀{l:Ly}{k N:Nat},Wf k l->(∀v,Cf v l->v<N)->∀s∈l,s.num<=N:=by
 intro l k N h b s a
 by_cases hn:s.name=[]
 ·exact JW (b s.num ⟨s,a,hn,rfl⟩)
 ·obtain⟨i,hi⟩:=J0.1 a;clear b
  induction l generalizing k i with
  |nil=>simp at a
  |cons t l e=>
   obtain⟨_,_,c,d⟩:=h
   cases i with
   |zero=>simp at hi;subst hi;rw[c hn];omega
   |succ i=>exact e d (Qh (by simpa using hi)) i (by simpa using hi)
theorem I1(w:World)(X:Np)(z:Value)(cs:Lc)(xs:Lv)(A B C D J:Value)(E:ND)(k:Nat)(c:Db)(R:Gb X w z cs xs)(W:∀c∈cs,KR c/\Ry c)(ah:cs.length<=24)(S:BC X w A B C D J E)
  (G:∀k,X k->k<w.heap.size) (H:cs[k]?=some c) (d:E.goals≠[]):
  Calls prog 147 #[z,agg #[A,B,C,D,J],int i64 k] w fun e w'=>∃r,e=returned r/\Ao w w'/\SW E c k X r w':=by
 obtain⟨n,U,a,T,l,rfl⟩:=S.node;obtain⟨b,K⟩:=W c (Qh H);obtain⟨g,gs,m⟩:∃g gs,n.goals=g::gs:=by
  cases h:n.goals with
  |nil=>exact absurd (QS (by rw[<-l.gl,h];rfl)) d
  |cons x y=>exact⟨x,y,rfl⟩
 have ai:=a.vars;have I:=a.ul;have p:=b.n;refine(XA w X z A B C D cs xs n k c g gs R U G H m Yo a.gl (by rw[a.dl];exact I) I a.vl Yo p (fun g d=>(a.gs g d).1) (fun g d=>(a.ds g d).1) (fun t o=>a.vsize o) b.hl b.bl (by have:=b.bn;omega)
  (fun s v=>Qq (Wu b.wfh b.och s v) p) (fun t o s v=>Qq (Wu (b.wfb t o) (b.ocb t o) s v) p) (fun g d=>by have:=(a.gs g d).2;omega)).mono ?_
 rintro e w' ⟨ac,ad,ae,af,ag,q,rfl,aa,Y,V⟩;refine⟨_,rfl,Y,ac,ad,ae,af,ag,q,rfl,aa,?_⟩;rcases V with⟨rfl,h⟩|⟨rfl,h⟩|⟨σ,L,M,N,O,P,Q⟩
 ·have f:Kv n c k 0 n:=⟨g,gs,m,QG ⟨rfl,h⟩⟩;obtain⟨i,_⟩:=Eb a l b f;exact⟨i,fun h=>by omega⟩
 ·have f:Kv n c k 3 n:=⟨g,gs,m,QO (QG ⟨rfl,h⟩)⟩;obtain⟨i,_⟩:=Eb a l b f;exact⟨i,fun h=>by omega⟩
 ·have f:Kv n c k q (Au σ n c k g gs):=⟨g,gs,m,QO (QO ⟨σ,L,M,N,rfl⟩)⟩;obtain⟨i,F⟩:=Eb a l b f;refine⟨i,fun u=>⟨⟨_,P,(F u).1,OM f u T K,(F u).2,O⟩,fun j Z ab=> ?_⟩⟩;have:=Q j Z;have:=G j ab;omega
theorem own_ty{e n:Nat}(h:w.ownsRow B e size v n xs):∀k,Ak v k->∃cl fr,w.heap[k]?=some (.cells cl e fr):=fun k a=>by
 rcases h.2 with⟨rfl,_⟩|⟨g,c,d,rfl,_,b,_⟩
 ·simp[Ak,Value.ownBlock]at a
 ·simp[Ak,Value.ownBlock]at a;subst a;exact⟨_,_,b⟩
def Mr(X:Np)(w:World):Prop:=∀k,X k->∃cl fr,w.heap[k]?=some (.cells cl 3 fr)
theorem Mr.lt(h:Mr X w){k:Nat}(b:X k):k<w.heap.size:=by
 obtain⟨cl,fr,a⟩:=h k b;exact Ac a
theorem Mr.ext(h:Mr X w)(e:Ao w w'):Mr X w':=fun k b=>by
 obtain⟨cl,fr,a⟩:=h k b;exact⟨cl,fr,(e.block k (Ac a)).trans a⟩
theorem Mr.ty(h:Mr X w){k:Nat}{cl:Av}{t:TypeId}{fr:Nat×Nat}(b:w.heap[k]?=some (.cells cl t fr))(d:t≠3):¬X k:=fun c=>by
 obtain⟨e,f,a⟩:=h k c;rw[b]at a;simp at a;exact d a.2.1
theorem Mr.own(h:Mr X w){B e size n:Nat}{v:Value}{xs:Lv}(a:w.ownsRow B e size v n xs)(d:e≠3):∀k,Ak v k->¬X k:=fun k c=>by
 obtain⟨cl,fr,b⟩:=own_ty a k c;exact h.ty b d
theorem Mr.terms(h:Mr X w):∀k,k<w.heap.size->¬(fun _:Nat=>False) k->Cz w k->w.heap[k]?=w.heap[k]?/\¬X k:=fun k _ _ b=>by
 obtain⟨c,a⟩:=b;exact⟨rfl,h.ty a Yd⟩
theorem Gb.toX(h:Gb (fun _=>False) w lv cs xs)(e:Mr X w):Gb X w lv cs xs:=
 ⟨h.owns,fun i c k=>by
  obtain⟨a,b,d,f,q,l,m,n,o,p,g,j⟩:=h.all i c k;exact⟨a,b,d,f,q,l,m,n,o,p,g.on e.terms,j.on e.terms⟩⟩
theorem I0(w:World){X:Np}(f:Mr X w)(av nv:Value)(q:Ll×At)(g:Lv)(s:Ed (fun _=>False) w av q.1 g)(t:∃na v,nv=slice na q.2.length v)(j:FM (AN q))(u:NG (AN q))(hl:q.1.length<=6)(hn:q.2.length<=121):
  Calls prog 120 #[agg #[av,nv]] w fun e w'=>∃b c m n o,e=returned (agg #[b,c,m,n,o])/\Ao w w'/\BC X w' b c m n o (AN q):=by
 refine(W8 w X av nv q g (s.on f.terms) t (fun _ h=>f.lt h) Yo Yo).mono ?_;rintro e w' ⟨b,c,rfl,i,d⟩;refine⟨b,c,_,_,_,rfl,i,⟨AN q,d,j,u,Cl.refl j,rfl⟩,fun k a=> ?_⟩;have l:=f.ext i;obtain⟨xs,p⟩:=d.goals;obtain⟨x,r⟩:=d.vals;rcases a with a|a|a|a
 ·exact l.own p.owns Yd k a
 ·exact l.own r.1 Yd k a
 ·simp[Ak,Value.ownBlock]at a
 ·simp[Ak,Value.ownBlock]at a
structure Fg(w:World)(av nv:Value)(a:List (List BJ)×At):Prop where
 atoms:∃xs,Ed (fun _=>False) w av a.1 xs
 names:w.ownsRow 0 9 1 nv a.2.length (Ba a.2)
theorem Fg.ext{av nv:Value}(h:Fg w av nv a)(e:Ao w w'):Fg w' av nv a:=by
 obtain⟨xs,b⟩:=h.atoms;exact⟨⟨xs,b.ext e (fun _ _ h=>h)⟩,Aj h.names (fun k c=>e.block k (h.names.lt k c).2)⟩
theorem Gb.box{cl:Av}{fr:Nat×Nat}(h:Gb X w lv cs xs)(e:w.heap[M]?=some (.cells cl t fr))(g:t≠183)(o:185≠t)(f:Ad (fun k=>k=M) w w'):Gb X w' lv cs xs:=
 ⟨Bv h.owns e o f,fun i c n=>by
  obtain⟨a,b,d,j,v,p,q,r,s,u,l,m⟩:=h.all i c n;exact⟨a,b,d,j,v,p,q,r,s,u,l.box e g f,m.box e g f⟩⟩
theorem Fg.box{cl:Av}{fr:Nat×Nat}{av nv:Value}(h:Fg w av nv a)(b:w.heap[M]?=some (.cells cl t fr))(e:t≠183)(f:9≠t)(c:Ad (fun k=>k=M) w w'):Fg w' av nv a:=by
 obtain⟨xs,d⟩:=h.atoms;exact⟨⟨xs,d.box b e c⟩,Bv h.names b f c⟩
theorem KN(s:ByteArray)(w:World)(g:s.size<=maxLen):Calls prog 106 #[string s] w fun e w'=>Ao w w'/\
  ((Bz s=none/\∃f i:Nat,f≠0/\e=Rq #[Nl,int i64 f,int i64 i])\/(∃cs c xs,Bz s=some cs/\e=Rq #[c,int i64 0,int i64 0]/\Gb (fun _=>False) w' c cs xs)):=by
 by_cases b:800<s.size
 ·apply(Ge s w g b).mono;rintro e w' ⟨rfl,hb⟩;exact⟨hb,QG ⟨by simp[Bz,b],1,0,Yo,rfl⟩⟩
 ·by_cases a:(Bb (Ap s) (AD false)).1=0
  ·have h0:(Cp s false).1=0:=by rw[(BS s false).1];exact a
   obtain⟨cs,d,_⟩:=Jv s Yo h0;apply(HT s w cs Yo a d).mono;rintro e w' ⟨c,xs,rfl,h,hb⟩;exact⟨hb,QO ⟨cs,c,_,by simp[Bz,b,a,d],rfl,h.rowC⟩⟩
  ·apply(G6 s w Yo a).mono;rintro e w' ⟨rfl,hb⟩;exact⟨hb,QG ⟨by simp[Bz,b,a],_,_,a,rfl⟩⟩
theorem MB(s:ByteArray)(w:World)(h:s.size<=maxLen):Calls prog 110 #[string s] w fun e w'=>Ao w w'/\
  ((Cn s=none/\∃f j:Nat,f≠0/\e=Rq #[agg #[Nl,Nl],int i64 f,int i64 j])\/(∃a av nv,Cn s=some a/\e=Rq #[agg #[av,nv],int i64 0,int i64 0]/\Fg w' av nv a)):=by
 by_cases c:120<s.size
 ·apply(HQ s w h c).mono;rintro e w' ⟨rfl,hb⟩;exact⟨hb,QG ⟨by simp[Cn,c],1,0,Yo,rfl⟩⟩
 ·by_cases b:(Bb (Ap s) (AD true)).1=0
  ·have h0:(Cp s true).1=0:=by rw[(BS s true).1];exact b
   obtain⟨q,d,_⟩:=Ec s Yo h0;apply(IY s w q Yo b d).mono;rintro e w' ⟨i,nv,lo,xs,rfl,_,_,g,hn,hb⟩;exact⟨hb,QO ⟨(q.1,q.2.2),i,nv,by simp[Cn,c,b,d],rfl,⟨xs,g.rowT⟩,AI hn (Qm _)⟩⟩
  ·apply(Im s w Yo b).mono;rintro e w' ⟨rfl,hb⟩;exact⟨hb,QG ⟨by simp[Cn,c,b],_,_,b,rfl⟩⟩
def WZ(p q:ByteArray)(e:Ending)(w':World):Prop:=
 (Bz p=none/\e= .returned (.tuple #[.slice none 0 0,.agg #[.slice none 0 0,.slice none 0 0],.int .i64 4]))\/
 ((∃cs,Bz p=some cs)/\Cn q=none/\e= .returned (.tuple #[.slice none 0 0,.agg #[.slice none 0 0,.slice none 0 0],.int .i64 5]))\/
 (∃cs a lv av nv xs,Bz p=some cs/\Cn q=some a/\e= .returned (.tuple #[lv,.agg #[av,nv],.int .i64 0])/\Gb (fun _=>False) w' lv cs xs/\Fg w' av nv a)
theorem HH(p q:ByteArray)(w:World)(E:p.size<=maxLen)(F:q.size<=maxLen):Calls prog 118 #[string p,string q] w fun e w'=>Ao w w'/\WZ p q e w':=by
 have J:=Yh (fun u=>KN p u E);have K:=Yh (fun u=>MB q u F);clear E F;go_enter func118,ntmps118;go_wp2_with fail;apply(J.o _).mono;rintro e w1 ⟨f,r⟩;have Q:=f.size;simp at Q;have c:w1.heap[w.heap.size]?=some (.cells #[Nl,Nl] 148 (0,0)):=(f.block _ Ys).trans (QL w _);obtain⟨j,b1,k⟩:w1.cell? ⟨w.heap.size,0,none⟩=some Nl/\w1.cell? ⟨w.heap.size,1,none⟩=some Nl/\∀i,w1.frozen? ⟨w.heap.size,i,none⟩=false:=⟨Aa c 0 _ rfl,Aa c 1 _ rfl,fun i=>Ag c i⟩;have C:w.heap.size<w1.heap.size:=Yo
 have t:YH (Ao w w1):=(Mxt:Ao w (w.alloc _)).trans (f.mono Ys);have M:=Yh c;rcases r with⟨g,n,U,P,rfl⟩|⟨cs,X,xs,G,rfl,s⟩
 ·have hb:((n:Int) !=0)=true:=by rw[QR];omega
  have m:=Yh g;clear g f c;go_wp2;refine Jb (v:=tuple #[Nl,agg #[Nl,Nl],int i64 4]) (by simp[results,results118,go_sem,j,b1,k,C]) rfl ?_;exact⟨t.o.trans (Ad.below (S:=fun i=>i=w.heap.size) (((Ad.refl (only w.heap.size) w1).put 0 _).put 1 _) Yo (fun i e=>by omega)),QG ⟨m.o,rfl⟩⟩
 ·obtain⟨la,R,rfl⟩:=Ab s.owns;have N:=Yh s;have z:=Yh G;clear s G f c;go_wp2_with fail;apply(K.o _).mono;rintro e w2 ⟨b,r⟩;have W:=b.size;have d:=(b.block _ C).trans M.o;obtain⟨j,b1,k⟩:w2.cell? ⟨w.heap.size,0,none⟩=some Nl/\w2.cell? ⟨w.heap.size,1,none⟩=some Nl/\∀i,w2.frozen? ⟨w.heap.size,i,none⟩=false:=⟨Aa d 0 _ rfl,Aa d 1 _ rfl,fun i=>Ag d i⟩;have D:w.heap.size<w2.heap.size:=Yo
  have x:YH (Ao w w2):=t.o.trans (b.mono Yo);have y:=Yh d;have I:=Yh b;rcases r with⟨g,n,U,P,rfl⟩|⟨a,av,nv,B,rfl,l⟩
  ·have hb:((n:Int) !=0)=true:=by rw[QR];omega
   have m:=Yh g;clear g b d;go_wp2;refine Jb (v:=tuple #[Nl,agg #[Nl,Nl],int i64 5]) (by simp[results,results118,go_sem,j,b1,k,D]) rfl ?_;refine⟨x.o.trans (Ad.below (S:=fun i=>w.heap.size<=i) Mst Yo (fun i e=>e)),QO (QG ⟨⟨cs,z.o⟩,m.o,rfl⟩)⟩
  ·obtain⟨V,A⟩:=l.atoms;obtain⟨aa,O,rfl⟩:=Ab A.1;obtain⟨na,T,rfl⟩:=Ab l.names;have H:=Yh l;have L:=Yh B;clear l A B b d;go_wp2_with fail;go_region
   all_goals
    go_wp2;refine Jb (v:=tuple #[slice la cs.length R,agg #[slice aa a.1.length O,slice na a.2.length T],int i64 0]) (by simp[results,results118,go_sem,j,b1,k,D]) rfl ?_;refine⟨x.o.trans (Ad.below (S:=fun i=>w.heap.size<=i) Mst Yo (fun i e=>e)),QO (QO ⟨cs,a,_,_,_,xs,z.o,L.o,rfl,?_,?_⟩)⟩
    ·exact((N.o.ext I.o (fun _ _ h=>h)).box y.o Yd Yd (((Ad.refl (only w.heap.size) w2).put 0 _).put 1 _)).ext Mxt (fun _ _ h=>h)
    ·exact(H.o.box y.o Yd Yd (((Ad.refl (only w.heap.size) w2).put 0 _).put 1 _)).ext Mxt
theorem Gs{a c:Value}(h:w.heap[b]?=some (.cells #[a,c] t (0,0))):
  w.cell? ⟨b,0,none⟩=some a/\w.cell? ⟨b,1,none⟩=some c/\∀i,w.frozen? ⟨b,i,none⟩=false:=
 ⟨Aa h 0 _ rfl,Aa h 1 _ rfl,fun i=>Ag h i⟩
theorem BC.len{b c d e f:Value}{g:ND}(h:BC X w b c d e f g):∃a0 l i u m j v o k x p,∃y:Int,b=slice a0 g.goals.length l/\c=slice i u m/\d=slice j v o/\e=slice k x p/\f=int i64 y:=by
 obtain⟨n,a,_,_,t,rfl⟩:=h.node;obtain⟨xs,q⟩:=a.goals;obtain⟨F,r⟩:=a.vals;obtain⟨zs,s⟩:=a.done;obtain⟨A,B,rfl⟩:=Ab q.owns;obtain⟨va,E,rfl⟩:=Ab r.1;obtain⟨da,z,rfl⟩:=Ab s.owns;obtain⟨C,D,rfl⟩:=Ab a.used;rw[t.gl];exact⟨_,_,_,_,_,_,_,_,_,_,_,_,rfl,rfl,rfl,rfl,rfl⟩
theorem Fg.keep{av nv:Value}(h:Fg w av nv a)(f:Ad S w w')(d:∀k,S k->∃cl t fr,w.heap[k]?=some (.cells cl t fr)/\t≠183/\t≠9):Fg w' av nv a:=by
 obtain⟨xs,g⟩:=h.atoms;refine⟨⟨xs,g.on (fun k j m l=>⟨f.block k j (fun c=> ?_),m⟩)⟩,f.owns h.names (fun k i c=> ?_)⟩
 ·obtain⟨cl,t,fr,hb,b,_⟩:=d k c;exact HZ hb b l rfl
 ·obtain⟨cl,t,fr,hb,_,b⟩:=d k c;exact Ai h.names (fun e=>b e.symm) hb i
theorem BC.keep{r s u v x:Value}{y:ND}(h:BC X w r s u v x y)(i:Ad S w w')(f:∀k,S k->∃cl t fr,w.heap[k]?=some (.cells cl t fr)/\t≠183/\t≠200/\t≠3):BC X w' r s u v x y:=by
 obtain⟨n,b,a⟩:=h.node;obtain⟨xs,m⟩:=b.goals;obtain⟨j,z⟩:=b.vals;obtain⟨zs,o⟩:=b.done;have g:∀k,k<w.heap.size->¬X k->Cz w k->w'.heap[k]?=w.heap[k]?/\¬X k:=fun k A D C=>⟨i.block k A (fun c=>by
  obtain⟨cl,t,fr,hb,a,_⟩:=f k c;exact HZ hb a C rfl),D⟩
 have p:∀{B n:Nat}{l:Value}{j:Lv},w.ownsRow B 200 4 l n j->∀k,l.ownBlock=some k->w'.heap[k]?=w.heap[k]?:=fun q k d=>i.block k (q.lt k d).2 (fun c=>by
  obtain⟨cl,t,fr,hb,_,a,_⟩:=f k c;exact Ai q (fun e=>a e.symm) hb d)
 refine⟨⟨n,⟨⟨xs,m.on (p m.owns) g⟩,⟨j,z.on g⟩,⟨zs,o.on (p o.owns) g⟩,i.owns b.used (fun k d c=> ?_)⟩,a⟩,h.off⟩;obtain⟨cl,t,fr,hb,_,_,a⟩:=f k c;exact Ai b.used (fun e=>a e.symm) hb d
def MU(p q x:ByteArray)(e:Ending)(w':World):Prop:=
 (∃er pl:Nat,er≠0/\(Bm p q x).2.2=(er,pl)/\∃(a0:Oa)(l0 c0:Nat)(a1:Oa)(l1 c1:Nat),e= .returned (.tuple #[.agg #[.slice a0 l0 c0,.slice a1 l1 c1],.agg #[.slice none 0 0,.slice none 0 0,.slice none 0 0,.slice none 0 0,.int .i64 0],.int .i64 er,.int .i64 pl]))\/
 (∃a av nv m0 m1 m2 m3 m4 n0,Bm p q x=(a.2,n0,0,0)/\Cn q=some a/\e= .returned (.tuple #[.agg #[av,nv],.agg #[m0,m1,m2,m3,m4],.int .i64 0,.int .i64 0])/\Fg w' av nv a/\BC (fun _=>False) w' m0 m1 m2 m3 m4 n0)
theorem Cb{n:ND}{ks:List Nat}(h:n.goals=[]\/cs.length<=k):(Az cs n (k::ks) i).2=(7,i):=by
 unfold Az;split
 ·rfl
 ·rename_i c a;rcases h with h|h
  ·rw[QQ h]
  ·rw[QV h]at a;simp at a
theorem Em{n:ND}{ks:List Nat}(b:cs[k]?=some c)(h:¬((Ax n c k).2=1\/(Ax n c k).2=2)):(Az cs n (k::ks) i).2=(7,i):=by
 unfold Az;simp only[b]
 by_cases a:n.goals=[]
 ·rw[QQ a]
 ·rw[QP a,QP h]
theorem FD{n:ND}{ks:List Nat}(a:cs[k]?=some c)(b:n.goals≠[])(h:(Ax n c k).2=1\/(Ax n c k).2=2):Az cs n (k::ks) i=Az cs (Ax n c k).1 ks (i+1):=by
 conv=>lhs;unfold Az
 simp only[a];rw[QP b,QQ h]
set_option maxHeartbeats 8000000 in
theorem In(p q x:ByteArray)(w:World)(d0:p.size<=maxLen)(d1:q.size<=maxLen)(fs:x.size<=maxLen):Calls prog 115 #[string p,string q,string x] w fun e w'=>Ao w w'/\MU p q x e w':=by
 have ep:=Yh (fun u=>HH p q u d0 d1);have ex:=Yh (fun u (fo:x.size<=400)=>P3 x u fo);unfold maxLen at fs;clear d0 d1;go_enter func115,ntmps115;go_wp2_with fail;apply(ep.o _).mono;rintro e w1 ⟨U,fa⟩;have fp:=U.size;simp at fp;have bl:w1.heap[w.heap.size]?=some (.cells #[Nl,Nl] 148 (0,0)):=(U.block _ Yp).trans (Ah (QL w _) _);have br:w1.heap[w.heap.size+1]?=some (.cells #[Nl,Nl,Nl,Nl,int i64 0] 152 (0,0)):=(U.block _ Ys).trans (by simpa using QL (w.alloc _) _);obtain⟨m,b1,n⟩:=Gs bl;obtain⟨s,y,z,A,B,C⟩:=C0 br;have db:Ao w w1:=(Mxt:Ao w ((w.alloc (.cells #[Nl,Nl] 148)).alloc (.cells #[Nl,Nl,Nl,Nl,int i64 0] 152))).trans (U.mono Yp);have b5:w.heap.size<w1.heap.size:=Yo
 have b6:w.heap.size+1<w1.heap.size:=Yo
 have R:=Yh db;have en:=Yh bl;have er:=Yh br;clear U bl br db;rcases fa with⟨ac,rfl⟩|⟨⟨cs,P⟩,ac,rfl⟩|⟨cs,a,gd,av,nv,xs,P,b0,rfl,b9,ak⟩
 ·have E:YH ((Bm p q x).2.2=(4,0)):=by show _=_;simp[Bm,ac]
  clear ac;go_wp2;refine Jb (v:=tuple #[agg #[Nl,Nl],agg #[Nl,Nl,Nl,Nl,int i64 0],int i64 4,int i64 0]) (by simp[results,results115,go_sem,m,b1,n,s,y,z,A,B,C,b5,b6]) rfl ?_;exact⟨R.o.trans (Ad.below (S:=fun i=>w.heap.size<=i) Mst Yo (fun i e=>e)),QG ⟨4,0,Yo,E.o,_,_,_,_,_,_,rfl⟩⟩
 ·have E:YH ((Bm p q x).2.2=(5,0)):=by show _=_;simp[Bm,ac,P]
  clear ac P;go_wp2;refine Jb (v:=tuple #[agg #[Nl,Nl],agg #[Nl,Nl,Nl,Nl,int i64 0],int i64 5,int i64 0]) (by simp[results,results115,go_sem,m,b1,n,s,y,z,A,B,C,b5,b6]) rfl ?_;exact⟨R.o.trans (Ad.below (S:=fun i=>w.heap.size<=i) Mst Yo (fun i e=>e)),QG ⟨5,0,Yo,E.o,_,_,_,_,_,_,rfl⟩⟩
 ·obtain⟨cv,c8⟩:=ak.atoms;obtain⟨la,d5,rfl⟩:=Ab b9.owns;obtain⟨aa,F,rfl⟩:=Ab c8.1;obtain⟨na,D,rfl⟩:=Ab ak.names;obtain⟨_,_,_,dl,fg⟩:=Cv P;obtain⟨_,_,_,dg,df,fc,fd,fe,_⟩:=Cq b0;have e9:=Yh b9;have cf:=Yh ak;have e0:=Yh dl;have eu:=Yh dg;have et:=Yh df;have aw:=Yh P;have ah:=Yh b0;clear b9 ak c8 dl dg df P b0 fd
  by_cases ca:400<x.size
  ·have E:YH ((Bm p q x).2.2=(1,0)):=by show _=_;simp[Bm,aw.o,ah.o,ca]
   go_wp2;refine Jb (v:=tuple #[agg #[slice aa a.1.length F,slice na a.2.length D],agg #[Nl,Nl,Nl,Nl,int i64 0],int i64 1,int i64 0]) (by simp[results,results115,go_sem,m,b1,n,s,y,z,A,B,C,b5,b6]) rfl ?_;exact⟨R.o.trans (Ad.below (S:=fun i=>w.heap.size<=i) Mst Yo (fun i e=>e)),QG ⟨1,0,Yo,E.o,_,_,_,_,_,_,rfl⟩⟩
  ·have ey:=Yh (fun u=>ex.o u Yo);go_wp2_with fail;apply(ey.o _).mono;rintro e w2 ⟨O,fb⟩;have fq:=O.size;simp at fq;have bm:=(O.block _ (show w.heap.size<(w1.alloc _).heap.size by simp;omega)).trans (Ah en.o _);have bs:=(O.block _ (show w.heap.size+1<(w1.alloc _).heap.size by simp;omega)).trans (Ah er.o _);have bw:w2.heap[w1.heap.size]?=some (.cells #[slice aa a.1.length F,slice na a.2.length D] 148 (0,0)):=(O.block _ Ys).trans (QL w1 _);obtain⟨m,b1,n⟩:=Gs bm;obtain⟨s,y,z,A,B,C⟩:=C0 bs;obtain⟨q0,cd,fv⟩:=Gs bw;have da:Ao w1 w2:=(Mxt:Ao w1 (w1.alloc _)).trans (O.mono Ys);have dt:w.heap.size<w2.heap.size:=Yo
   have du:w.heap.size+1<w2.heap.size:=Yo
   have dv:w1.heap.size<w2.heap.size:=Yo
   have af:=Yh da;have eo:=Yh bm;have es:=Yh bs;have ev:=Yh bw;clear O da bm bs bw;rcases fb with⟨ks,gc,ad,rfl,b3,f5,dq⟩|⟨cc,ad,rfl⟩
   ·obtain⟨f9,ft,rfl⟩:=Ab b3;have E:YH (Bm p q x=(a.2,Az cs (AN a) ks 0)):=by show _=_;simp[Bm,aw.o,ah.o,ca,ad]
    have cp:=Yh b3;have fw:=Yh dq;have ew:=Yh (fun u (l:Ao w1 u)=>by
     obtain⟨cv,g⟩:=(cf.o.ext l).atoms;exact I0 u (X:=fun _=>False) (fun _ h=>h.elim) _ (slice na a.2.length D) a cv g ⟨_,_,rfl⟩ eu.o et.o fc fe)
    clear b3 ad dq;go_wp2_with fail;apply(ew.o _ af.o).mono;rintro e w3 ⟨al,am,an,ao,ap,rfl,J,L⟩;obtain⟨cw,cx,cy,c0,cz,c1,c3,c2,c4,c6,c5,c7,rfl,rfl,rfl,rfl,rfl⟩:=L.len;have fr:=J.size;have bp:Ao w1 w3:=af.o.trans (J.mono af.o.size);have bn:=(J.block _ dt).trans eo.o;have bu:=(J.block _ du).trans es.o;have bx:=(J.block _ dv).trans ev.o;obtain⟨T,V⟩:=Ex (w3.alloc (.cells #[slice cw (AN a).goals.length cx,slice cy c0 cz,slice c1 c3 c2,slice c4 c6 c5,int i64 c7] 152));have K:Ao w3 T:=by rw[V];exact Mxt
    have f7:T.heap.size=w3.heap.size+1:=by rw[V];simp
    have dx:T.heap[w3.heap.size]?=some (.cells #[slice cw (AN a).goals.length cx,slice cy c0 cz,slice c1 c3 c2,slice c4 c6 c5,int i64 c7] 152 (0,0)):=by rw[V];exact QL w3 _
    have ch:=Yh (bp.trans (K.mono bp.size));have e3:=Yh (Aj cp.o (fun i hi=>((J.trans (K.mono fr)):Ao w2 T).block i (cp.o.lt i hi).2));have e8:=Yh (L.ext (Y:=fun _=>False) K (fun _ _ h=>h));have cg:=Yh ((K.block _ (Ac bn)).trans bn);have cj:=Yh ((K.block _ (Ac bu)).trans bu);have ck:=Yh ((K.block _ (Ac bx)).trans bx);have cr:=Yh dx;have ez:=Yh V;clear J L bp bn bu bx K dx V;go_wp2_with fail
    go_loopg [16] (ks.length+1) (fun gk i wr=>∃(j:Nat)(d:ND)(al am an ao ap:Value),i=int i64 j/\j<=ks.length/\ks.length-j<gk/\Ad (fun b=>b=w3.heap.size) T wr/\wr.heap[w3.heap.size]?=some (.cells #[al,am,an,ao,ap] 152 (0,0))/\
     BC (fun _=>False) wr al am an ao ap d/\Az cs (AN a) ks 0=Az cs d (ks.drop j) j)
    case atStart=>
     rw[<-ez.o];exact⟨0,AN a,_,_,_,_,_,Yg,Qm _,Yo,Ad.refl _ _,cr.o,e8.o,Ys⟩
    case round=>
     obtain⟨j,d,al,am,an,ao,ap,rfl,f2,f1,I,b8,L,dp⟩:=hrel;obtain⟨a9,ba,bb,bd,bc,be,bg,bf,bh,bj,bi,bk,rfl,rfl,rfl,rfl,rfl⟩:=L.len;obtain⟨d6,d7,d8,d9,ea,fu⟩:=C0 b8;have f8:=I.size;have bo:=(I.block _ (Ac cg.o) Yo).trans cg.o;have bv:=(I.block _ (Ac cj.o) Yo).trans cj.o;have dh:=(I.block _ (Ac ck.o) Yo).trans ck.o;obtain⟨m,b1,n⟩:=Gs bo;obtain⟨s,y,z,A,B,C⟩:=C0 bv;obtain⟨q0,cd,fv⟩:=Gs dh;have ds:=Bv e3.o cr.o Yd I;have bq:Ao w1 wr:=ch.o.trans (I.below (by have:=ch.o.size;omega) (fun i e=>by omega));have dc:Ao w wr:=R.o.trans (bq.mono Yo);have Z:w.heap.size<wr.heap.size:=Yo
     have ab:w.heap.size+1<wr.heap.size:=Yo
     have dw:w1.heap.size<wr.heap.size:=Yo
     have fl:w3.heap.size<wr.heap.size:=Yo
     have e4:=Yh I;have e5:=Yh b8;have ct:=Yh L;have au:=Yh dp;have co:=Yh ds;have ag:=Yh bq;have ci:=Yh dc;have aq:=Yh bo;have ar:=Yh bv;clear I b8 L dp ds bq dc bo bv dh;have aj:YH (∀(k:Nat)(w':World),(Az cs d (ks.drop j) j).2=(7,k)->Ad (fun b=>w.heap.size<=b) wr w'->Ao w w'/\MU p q x (Rq #[agg #[slice aa a.1.length F,slice na a.2.length D],agg #[Nl,Nl,Nl,Nl,int i64 0],int i64 7,int i64 k]) w'):=fun k w' fi W=>by
      refine⟨ci.o.trans (W.below Yo (fun _ h=>h)),QG ⟨7,k,Yo,?_,_,_,_,_,_,_,rfl⟩⟩;rw[E.o,au.o];exact fi
     by_cases b4:j<ks.length
     ·obtain⟨k,W⟩:∃k,ks[j]?=some k:=⟨_,Qb b4⟩;have dm:ks.drop j=k::ks.drop (j+1):=by rw[QC b4,(Qa.1 W).2]
      obtain⟨cb,ga,gb,dr,fx,fj,f3⟩:=An co.o Yo;simp only[QH]at dr;obtain⟨rfl,_,rfl⟩:=dr;have d4:wr.cell? ⟨cb,j,none⟩=some (int i64 k):=Af co.o j _ (by simp only[AM,Qj,W,JN]);have ai:=Yh dm;clear dm fj W
      by_cases f:d.goals=[]
      ·have hz:(((d.goals.length:Nat):Int)==0)=true:=by rw[f];rfl
       have H:YH ((Az cs d (ks.drop j) j).2=(7,j)):=by show _=_;rw[ai.o];exact Cb (QG f)
       clear f;go_wp2;refine Jb (v:=tuple #[agg #[slice aa a.1.length F,slice na a.2.length D],agg #[Nl,Nl,Nl,Nl,int i64 0],int i64 7,int i64 j]) (by simp[results,results115,go_sem,m,b1,n,s,y,z,A,B,C,Z,ab]) rfl ?_;exact aj.o j _ H.o Mst
      ·have hz:(((d.goals.length:Nat):Int)==0)=false:=by
        rw[Qu];intro e;exact f (QS Yo)
       by_cases fk:k<cs.length
       ·obtain⟨c,b2⟩:∃c,cs[k]?=some c:=⟨_,Qb fk⟩;have eq:YH (∀N u,Ao wr.drew u->(∀k,N k->wr.heap.size<=k/\k<u.heap.size)->Calls prog 147 #[slice la cs.length d5,agg #[slice a9 d.goals.length ba,slice bb bd bc,slice be bg bf,slice bh bj bi,int i64 bk],int i64 k] u fun e eg=>∃r,e=returned r/\Ao u eg/\SW d c k N r eg):=fun N u l bz=>by
         have d3:Ao wr u:=l.undrew;refine I1 u N _ cs xs _ _ _ _ _ d k c (e9.o.ext (ag.o.trans (d3.mono ag.o.size)) (fun i hi h=> ?_)) e0.o fg (ct.o.ext d3 (fun i hi h=> ?_)) (fun i h=>(bz i h).2) b2 f
         ·have:=(bz i h).1;have:=ag.o.size;omega
         ·have:=(bz i h).1;omega
        have cm:=Yh b2;have e2:=Yh f;clear b2 f;go_wp2_with fail;refine DL Yk [.pur (slice la cs.length d5),.pur (agg #[slice a9 d.goals.length ba,slice bb bd bc,slice be bg bf,slice bh bj bi,int i64 bk]),.pur (slice (some ⟨cb,0,none⟩) ks.length ft),.pur (int i64 j),.pur (pointer (some ⟨cb,j,none⟩)),.pur (int i64 k),
         .cal,.post (fun v=>v),.post (A9 0),.post (A9 1),.alo 152 #[Nl,Nl,Nl,Nl,int i64 0] 11 (fun v=>cellsOf (A9 0 v)),.sto 10,.post (A9 1)] 6 Yk (SW d c k) 147 _ SW.stable eq.o ?_ rfl Yd ?_
        ·refine⟨fun vc β u l=> ?_,fun vc β u l=> ?_,fun vc β u l=> ?_,fun vc β u l=> ?_,fun vc β u l=> ?_,fun vc β u l=> ?_,fun vc β u=> ?_,?_,?_,?_,fun vc β u=> ?_,?_,?_,trivial⟩
         all_goals try(simp[pa,Kd.val,go_sem,l.up d6,l.up d7,l.up d8,l.up d9,l.up ea,l.up d4,b4];done)
         all_goals try(simp[pa,Kd.val,go_sem];done)
         all_goals try(rintro vc β N u ⟨eb,ec,ed,ee,ef,Q,rfl,_⟩;simp[pa,Kd.val,go_sem,A9];done)
         rintro vc β N u t gf ge cl dn ⟨eb,ec,ed,ee,ef,Q,rfl,⟨a1,a5,ax,a2,a6,ay,a3,a7,az,a4,a8,a0,ce,M⟩,_⟩ hb;simp only[Value.agg.injEq]at M;simp at M;obtain⟨rfl,rfl,rfl,rfl,rfl⟩:=M;simp at dn;obtain⟨rfl,rfl,rfl,rfl⟩:=dn;obtain⟨eh,ei,ej,ek,el,em⟩:=C0 hb;refine⟨_,?_,Ae (Ae (Ae (Ae (Ae hb 0 _) 1 _) 2 _) 3 _) 4 _,(((((Ad.refl (only (β 10)) u).put 0 _).put 1 _).put 2 _).put 3 _).put 4 _⟩;simp[pa,Kd.val,go_sem,eh,ei,ej,ek,el,em,A9]
        rintro vc β w4 G ⟨eb,ec,ed,ee,ef,Q,rfl,⟨a1,a5,ax,a2,a6,ay,a3,a7,az,a4,a8,a0,ce,M⟩,d2,dy⟩ di _;simp only[Value.agg.injEq]at M;simp at M;obtain⟨rfl,rfl,rfl,rfl,rfl⟩:=M;have G:=G.undrew;have f6:=G.size;obtain⟨fy,dj⟩:=di 10 _ _ _ _ rfl;have dk:w4.heap[β 10]?=some (.cells #[slice a1 a5 ax,slice a2 a6 ay,slice a3 a7 az,slice a4 a8 a0,int i64 ce] 152 (0,0)):=dj;obtain⟨eh,ei,ej,ek,el,em⟩:=C0 dk;have b7:=(G.block _ fl).trans e5.o;have c9:=(G.block _ Z).trans aq.o;have de:=(G.block _ ab).trans ar.o;obtain⟨d6,d7,d8,d9,ea,fu⟩:=C0 b7;obtain⟨m,b1,n⟩:=Gs c9;obtain⟨s,y,z,A,B,C⟩:=C0 de;have q0:w4.cell? ⟨w1.heap.size,0,none⟩=some (slice aa a.1.length F):=(G.cell (p:=⟨w1.heap.size,0,none⟩) dw).trans q0;have cd:w4.cell? ⟨w1.heap.size,1,none⟩=some (slice na a.2.length D):=(G.cell (p:=⟨w1.heap.size,1,none⟩) dw).trans cd;have fm:w.heap.size<w4.heap.size:=Yo
        have fn:w.heap.size+1<w4.heap.size:=Yo
        have cq:=Yh b7;have cn:=Yh G;have e6:=Yh dy;have cu:=Yh d2;generalize ff:β 10=bt at*;clear dj dk b7 c9 de G dy d2 di d4;simp only[CD,pa,Kd.val,Ja,Act.put,A9];rw[ff]
        by_cases ae:Q=1\/Q=2
        ·have dz:=(e6.o ae).ext (Y:=fun _=>False) (Jc _ w4) (fun _ _ h=>h.elim);have e7:=Yh dz;have e1:YH (Az cs (AN a) ks 0=Az cs (Ax d c k).1 (ks.drop (j+1)) (j+1)):=by
          show _=_;rw[au.o,ai.o];exact FD cm.o e2.o (by rw[<-cu.o];exact ae)
         clear dz;rcases ae with rfl|rfl
         all_goals
          go_wp2
          go_roundg (ks.length-j)
          case measure=>omega
          case rel=>
           have dd:Ad (fun b=>b=w3.heap.size) w4 (((((w4.setCell ⟨w3.heap.size,0,none⟩ (slice a1 a5 ax)).setCell ⟨w3.heap.size,1,none⟩ (slice a2 a6 ay)).setCell ⟨w3.heap.size,2,none⟩ (slice a3 a7 az)).setCell ⟨w3.heap.size,3,none⟩ (slice a4 a8 a0)).setCell ⟨w3.heap.size,4,none⟩ (int i64 ce)):=(((((Ad.refl (only w3.heap.size) w4).put 0 _).put 1 _).put 2 _).put 3 _).put 4 _;exact⟨j+1,(Ax d c k).1,_,_,_,_,_,Yg,Yo,Yo,e4.o.then (S':=fun b=>b=w3.heap.size\/wr.heap.size<=b) (((Ad.of_below cn.o).mono (fun _ _ h=>QO h)).then dd (fun _ _ h=>QG h)) (fun i hi h=>by omega),Ae (Ae (Ae (Ae (Ae cq.o 0 _) 1 _) 2 _) 3 _) 4 _,e7.o.box cq.o Yd Yd Yd dd,e1.o⟩
        ·have fz:((Q:Int) !=1)=true:=by rw[QR];omega
         have f0:((Q:Int) !=2)=true:=by rw[QR];omega
         have H:YH ((Az cs d (ks.drop j) j).2=(7,j)):=by show _=_;rw[ai.o];exact Em cm.o (by rw[<-cu.o];exact ae)
         clear ae;go_wp2;refine Jb (v:=tuple #[agg #[slice aa a.1.length F,slice na a.2.length D],agg #[Nl,Nl,Nl,Nl,int i64 0],int i64 7,int i64 j]) (by simp[results,results115,go_sem,m,b1,n,s,y,z,A,B,C,fm,fn]) rfl ?_;exact aj.o j _ H.o (((Ad.of_below cn.o).mono (fun i hi h=>by omega)).trans Mst)
       ·have f4:¬((k:Int)<(cs.length:Int)):=Yo
        have H:YH ((Az cs d (ks.drop j) j).2=(7,j)):=by show _=_;rw[ai.o];exact Cb (QO Yo)
        clear f;go_wp2;refine Jb (v:=tuple #[agg #[slice aa a.1.length F,slice na a.2.length D],agg #[Nl,Nl,Nl,Nl,int i64 0],int i64 7,int i64 j]) (by simp[results,results115,go_sem,m,b1,n,s,y,z,A,B,C,Z,ab]) rfl ?_;exact aj.o j _ H.o Mst
     ·have fh:j=ks.length:=Yo
      subst fh
      by_cases f:d.goals=[]
      ·have hz:¬(0:Int)<((d.goals.length:Nat):Int):=by rw[f];simp
       have H:YH (Bm p q x=(a.2,d,0,0)):=by
        show _=_;rw[E.o,au.o,QW (Qe _)];unfold Az;rw[QQ f]
       clear f;go_wp2_with fail;go_region
       all_goals
        go_wp2;refine Jb (v:=tuple #[agg #[slice aa a.1.length F,slice na a.2.length D],agg #[slice a9 d.goals.length ba,slice bb bd bc,slice be bg bf,slice bh bj bi,int i64 bk],int i64 0,int i64 0]) (by simp[results,results115,go_sem,m,b1,n,s,y,z,A,B,C,Z,ab]) rfl ?_;refine⟨ci.o.trans (Ad.below (S:=fun b=>w.heap.size<=b) Mst Yo (fun _ h=>h)),QO ⟨a,_,_,_,_,_,_,_,d,H.o,ah.o,rfl,?_,?_⟩⟩
        ·exact(cf.o.ext ag.o).keep (S:=fun b=>w.heap.size<=b/\b<w.heap.size+2) Mst (fun b hb=>by
          have hb:b=w.heap.size\/b=w.heap.size+1:=Yo
          rcases hb with rfl|rfl
          ·exact⟨_,_,_,aq.o,Yd,Yd⟩
          ·exact⟨_,_,_,ar.o,Yd,Yd⟩)
        ·exact ct.o.keep (S:=fun b=>w.heap.size<=b/\b<w.heap.size+2) Mst (fun b hb=>by
          have hb:b=w.heap.size\/b=w.heap.size+1:=Yo
          rcases hb with rfl|rfl
          ·exact⟨_,_,_,aq.o,Yd,Yd,Yd⟩
          ·exact⟨_,_,_,ar.o,Yd,Yd,Yd⟩)
      ·have hz:(0:Int)<((d.goals.length:Nat):Int):=by
        have:d.goals.length≠0:=fun e=>f (QS e);omega
       have H:YH ((Az cs d (ks.drop ks.length) ks.length).2=(7,ks.length)):=by
        show _=_;rw[QW (Qe _)];unfold Az;rw[QP f]
       clear f;go_wp2;refine Jb (v:=tuple #[agg #[slice aa a.1.length F,slice na a.2.length D],agg #[Nl,Nl,Nl,Nl,int i64 0],int i64 7,int i64 ks.length]) (by simp[results,results115,go_sem,m,b1,n,s,y,z,A,B,C,Z,ab]) rfl ?_;exact aj.o ks.length _ H.o Mst
   ·have E:YH ((Bm p q x).2.2=(6,cc)):=by show _=_;simp[Bm,aw.o,ah.o,ca,ad]
    clear ad;go_wp2;refine Jb (v:=tuple #[agg #[slice aa a.1.length F,slice na a.2.length D],agg #[Nl,Nl,Nl,Nl,int i64 0],int i64 6,int i64 cc]) (by simp[results,results115,go_sem,m,b1,n,s,y,z,A,B,C,dt,du,dv]) rfl ?_;exact⟨R.o.trans ((af.o.mono Yo).trans (Ad.below (S:=fun i=>w.heap.size<=i) Mst Yo (fun i e=>e))),QG ⟨6,cc,Yo,E.o,_,_,_,_,_,_,rfl⟩⟩
def Kb(N:List (Lu×Nat))(s:BJ):BJ:=if s.name=[]\/(s.name,s.args)∈N then s else⟨s.name++[0],s.num,s.args⟩
theorem XB{N:List (Lu×Nat)}:∀{l:Ly}{k:Nat},Wf k l->Wf k (l.map (Kb N)):=by
 intro l
 induction l with
 |nil=>intro k h;exact h
 |cons s l j=>
  intro k h;obtain⟨e,f,g,i⟩:=h;have a:(Kb N s).args=s.args:=by unfold Kb;split<;>rfl
  have b:(Kb N s).name=[]↔s.name=[]:=by
   unfold Kb;split
   ·exact Iff.rfl
   ·rename_i h;simp at h⊢;exact h.1
  have c:(Kb N s).num=s.num:=by unfold Kb;split<;>rfl
  refine⟨e,fun h=>by rw[a];exact f (b.1 h),fun h=>by rw[c];exact g (fun d=>h (b.2 d)),?_⟩;rw[a];exact j i
theorem ID.nma{a b:Ly}(h:ID σ a b)(n:Nat):∀s∈σ n,s.name≠[]->∃t∈a++b,t.name=s.name/\t.args=s.args:=by
 intro s m hn;refine Classical.byContradiction (fun g=> ?_);have g:∀t∈a++b,¬(t.name=s.name/\t.args=s.args):=fun t c e=>g ⟨t,c,e⟩;obtain⟨N,d⟩:=Ex ((a++b).map (fun t=>(t.name,t.args)));have i:Ts (fun n=>(σ n).map (Kb N)):=fun n=>XB (h.ts n);have j:∀l:Ly,(∀t∈l,(t.name,t.args)∈N)->ap (fun n=>(σ n).map (Kb N)) l=(ap σ l).map (Kb N):=by
  intro l
  induction l with
  |nil=>intro _;rfl
  |cons t l q=>
   intro c;rw[Bu,Bu,Qr,q (fun u o=>c u (by simp[o]))]
   congr 1
   unfold ED;split
   ·rfl
   ·have:Kb N t=t:=by unfold Kb;rw[QQ (QO (c t Ys))]
    simp[this]
 have ha:=j a (fun t c=>by rw[d];exact Q0.2 ⟨t,by simp[c],rfl⟩);have hb:=j b (fun t c=>by rw[d];exact Q0.2 ⟨t,by simp[c],rfl⟩);have p:=h.wide _ i (by rw[ha,hb,h.unif]) n;have f:=Le i p s m hn;have k:¬(s.name=[]\/(s.name,s.args)∈N):=by
  rintro(h|h)
  ·exact hn h
  ·rw[d]at h;obtain⟨t,c,e⟩:=Q0.1 h;simp only[Prod.mk.injEq]at e;exact g t c e
 unfold Kb at f;rw[QP k]at f;have:=congrArg (fun s=>s.name.length) f;simp at this
def IC(l:Ly):Prop:=∀s∈l,s.args<=4
def Mt(n:ND):Prop:=∀t∈n.terms,IC t
def Mu(c:Db):Prop:=IC c.head/\∀t∈c.body,IC t
theorem We(n:Nat):IC (vr n):=fun s a=>by simp[vr]at a;subst a;simp
theorem IC.ap(h:IC l)(c:∀n,IC (σ n)):IC (ap σ l):=by
 intro s a;simp only[YtlmjilpjmgjjcaaGreatDoor.ap,List.mem_flatMap]at a;obtain⟨t,b,a⟩:=a;unfold ED at a;split at a
 ·exact c _ s a
 ·simp at a;subst a;exact h s b
theorem MT(v n:Nat):IC (A0 v n):=We _
theorem ID.few{a b:Ly}(h:ID σ a b)(ha:IC a)(hb:IC b)(n:Nat):IC (σ n):=by
 intro s d
 by_cases hn:s.name=[]
 ·rw[Oj (h.ts n) s d hn];omega
 ·obtain⟨t,c,_,e⟩:=h.nma n s d hn;rw[<-e];rcases Qk.1 c with c|c
  ·exact ha t c
  ·exact hb t c
theorem N5{n:ND}{q:Nat}{i:ND}(h:Kv n c k q i)(r:q=1\/q=2)(hn:Mt n)(j:Mu c):Mt i:=by
 obtain⟨g,gs,l,h⟩:=h;rcases h with⟨rfl,_⟩|⟨rfl,_⟩|⟨σ,o,_,_,rfl⟩
 ·omega
 ·omega
 ·have m:IC g.1:=hn g.1 (by simp[ND.terms,l]);have p:IC (ap (A0 n.vars) c.head):=j.1.ap (MT _);have d:=o.few m p;intro t e;rw[EW]at e;simp only[Qk,Q0]at e;rcases e with⟨u,a,rfl⟩|⟨u,a,rfl⟩|⟨u,a,rfl⟩
  ·rcases a with⟨b,hb,rfl⟩|⟨x,f,rfl⟩
   ·exact((j.2 b hb).ap (MT _)).ap d
   ·exact(hn x.1 (by simp only[ND.terms,l,Qx,Qy,Qp,Qk,Q0];exact QO (QG ⟨x,f,rfl⟩))).ap d
  ·exact(hn u (by simp[ND.terms,a])).ap d
  ·rcases a with⟨x,f,rfl⟩|a
   ·exact(hn x.1 (by simp only[ND.terms,Qk,Q0];exact QO (QO ⟨x,f,rfl⟩))).ap d
   ·simp at a;subst a;exact m.ap d
def Px(l:Ly):Nat:=(l.filter (fun s=>s.name.isEmpty)).length
theorem VJ:∀{l:Ly}{k:Nat},Wf k l->IC l->4*Px l<=3*l.length+k:=by
 intro l
 induction l with
 |nil=>intro k h _;simp[Px]
 |cons s l e=>
  intro k h a;obtain⟨f,b,g,c⟩:=h;have:=e c (fun t d=>a t (by simp[d]));have i:=a s Ys;unfold Px at this⊢
  by_cases hn:s.name=[]
  ·have:=b hn;rw[List.filter_cons_of_pos (by simp[hn])];simp only[Qf];omega
  ·rw[List.filter_cons_of_neg (by simp[hn])];simp only[Qf];omega
theorem RC:∀(l:Ly)(met:List Nat),(AC l met).2.length<=met.length+Px l:=by
 intro l
 induction l with
 |nil=>intro met;simp[AC]
 |cons s l b=>
  intro met;simp only[AC];unfold Px;split
  ·rename_i hn;have a:=b (Ep s.num met);have c:(Ep s.num met).length<=met.length+1:=by unfold Ep;split<;>simp
   unfold Px at a;rw[List.filter_cons_of_pos (by simp[hn])];simp only[Qf];omega
  ·rename_i hn;have a:=b met;unfold Px at a;rw[List.filter_cons_of_neg (by simp[hn])];exact a
theorem Sf:∀(ts:Ll)(met:List Nat),(∀t∈ts,Px t<=22)->(Aw ts met).2.length<=met.length+22*ts.length:=by
 intro ts
 induction ts with
 |nil=>intro met _;simp[Aw]
 |cons t ts b=>
  intro met h;simp only[Aw,Qf];have c:=b (AC t met).2 (fun u a=>h u (by simp[a]));have d:=RC t met;have e:=h t Ys;omega
structure SF(st:RS):Prop where
 sb:SB st
 atom:IC st.atom
 head:IC st.head
 body:∀l∈st.body,IC l
 cls:∀c∈st.clauses,IC c.head/\∀l∈c.body,IC l
theorem Rm{s:BJ}(h:IC l)(b:s.args<=4):IC (l++[s]):=fun t a=>by
 rcases Qk.1 a with a|a
 ·exact h t a
 ·simp at a;subst a;exact b
theorem NY:IC []:=fun s a=>by simp at a
theorem PL:∀l∈([]:Ll),IC l:=fun l hl=>by simp at hl
theorem PI(h:SF st)(b:Df st=false)(hn:st.next=0\/st.next=1\/st.next=2):IC (Bq st):=by
 unfold Bq
 cases f:st.opn with
 |nil=>exact h.atom
 |cons n r=>
  simp only
  by_cases d:st.next=2
  ·have ha:Gn st<4:=by
    unfold Df at b;rw[QP Yo,QP Yo,QQ d]at b;simp at b;omega
   intro s c;obtain⟨i,hi⟩:=J0.1 c;rw[JL]at hi
   cases a:st.atom[i]? with
   |none=>rw[a]at hi;simp at hi
   |some x=>
    rw[a]at hi;simp at hi;subst hi;split
    ·rename_i e;subst e;have:Gn st=x.args:=by unfold Gn;rw[f];simp[a]
     simp only;omega
    ·exact h.atom x (Qh a)
  ·have:=h.sb.empty d Yo Yo;rw[this];intro s c;simp at c
theorem SF.endAtom(h:SF st):IC (AG st).atom/\IC (AG st).head/\(∀l∈(AG st).body,IC l)/\∀c∈(AG st).clauses,IC c.head/\∀l∈c.body,IC l:=by
 unfold AG;split
 ·refine⟨fun s a=>by simp at a,h.head,fun l hl=> ?_,h.cls⟩;simp at hl;rcases hl with hl|rfl
  ·exact h.body l hl
  ·exact h.atom
 ·exact⟨fun s a=>by simp at a,h.atom,h.body,h.cls⟩
theorem SF.take{kd len:Nat}{t:Lu}(h:SF st)(b:Bg st kd len=0)(p:len=t.length):SF (AT st kd t):=by
 have a:=Hn b;have m:=h.sb.take b p;have j:kd=1\/kd=2->Df st=false:=by
  intro d;unfold Bg at b;rw[QP (by simp[a])]at b;split at b
  ·omega
  ·rename_i n
   cases o:Df st with
   |false=>rfl
   |true=>exact absurd ⟨d,QO o⟩ n
 have k:kd=1\/kd=2->st.next=0\/st.next=1\/st.next=2:=by
  intro d;unfold A2 at a;split at a
  ·omega
  ·split at a
   ·omega
   ·split at a
    ·rcases d with rfl|rfl
     ·simp[Bn]at a
     ·simp[Bn]at a
    ·split at a
     ·rcases d with rfl|rfl
      ·simp[Bn]at a
      ·simp[Bn]at a
     ·simp at a
 obtain⟨e,f,g,i⟩:=h.endAtom;refine⟨m,?_,?_,?_,?_⟩
 all_goals clear m
 all_goals
  unfold AT;split
  ·rename_i d
   first
    |exact Rm (PI h (j (QG d)) (k (QG d))) Ys
    |exact h.head
    |exact h.body
    |exact h.cls
  split
  ·rename_i _ d
   first
    |exact Rm (l:=Bq st) (PI h (j (QO d)) (k (QO d))) Ys
    |exact h.head
    |exact h.body
    |exact h.cls
  split
  ·first|exact h.atom|exact h.head|exact h.body|exact h.cls
  split
  ·unfold F4
   first|exact h.atom|exact h.head|exact h.body|exact h.cls
  split
  ·unfold Ev;split
   ·first|exact e|exact f|exact g|exact i
   ·first|exact h.atom|exact h.head|exact h.body|exact h.cls
  split
  ·first|exact e|exact f|exact g|exact i
  split
  ·unfold AE
   first
    |exact e
    |exact NY
    |exact PL
    |exact(fun c b=>by
      simp only[Qk,JP]at b;rcases b with b|rfl
      ·exact i c b
      ·exact⟨f,g⟩)
  ·first|exact h.atom|exact h.head|exact h.body|exact h.cls
theorem SF.run{e:Nat}:∀{ts:List BV}{st:RS},SF st->(EF e ts st).1=0->SF (EF e ts st).2.2:=by
 intro ts
 induction ts with
 |nil=>intro st h _;unfold EF;split<;>exact h
 |cons t ts b=>
  intro st h h0;unfold EF at h0⊢;split at h0
  ·rename_i a;exact absurd h0 a
  ·rename_i a;rw[QP a];exact b (h.take (len:=t.text.length) Yo rfl) h0
theorem SF.start(q:Bool):SF ⟨q,if q then 1 else 0,q,[],[],[],[],[],[]⟩:=⟨SB.start q,NY,NY,PL,fun c a=>by simp at a⟩
theorem K9(h:Bz s=some cs):∀c∈cs,Mu c:=by
 obtain⟨_,h0,e,_⟩:=Cv h;have a:SF (Cp s false).2.2:=(SF.start false).run h0;intro c b;exact a.cls c (by rw[e];exact b)
theorem NN(h:Cn s=some a):Mt (AN a):=by
 obtain⟨_,h0,e,_⟩:=Cq h;have c:SF (Cp s true).2.2:=(SF.start true).run h0;have d:=(c.cls ⟨[],a.1,a.2⟩ (by rw[e];simp)).2;intro t b;simp only[ND.terms,AN,QK,QX,Qs,Qk,Q0,Function.comp]at b;rcases b with⟨u,f,rfl⟩|⟨i,_,rfl⟩
 ·exact d u f
 ·exact We i
def Ke(n:ND)(c:Db)(k:Nat)(X:Np)(v:Value)(u:World):Prop:=∃g1 g2 g3 v1 v2 v3 r1 r2 r3,∃uu q:Nat,v= .tuple #[.agg #[.slice g1 g2 g3,.slice v1 v2 v3,.slice r1 r2 r3,.int .i64 uu],.int .i64 q]/\
 ((q=0/\(n.goals=[]\/Kv n c k 0 n))\/(q=2/\∃ch,Kv n c k 3 ch)\/(q=1/\∃ch qq,(qq=1\/qq=2)/\Kv n c k qq ch/\uu=ch.vars/\g2=ch.goals.length/\
  (∃vs,AK u 0 (.slice g1 g2 g3) (ch.goals.map (·.1)) vs/\(∀j,(Value.slice g1 g2 g3).ownBlock=some j->¬X j)/\∀x∈vs,∀j,x.ownBlock=some j->¬X j)/\
  (∃vs,AK u 0 (.slice v1 v2 v3) ch.vals vs/\(∀j,(Value.slice v1 v2 v3).ownBlock=some j->¬X j)/\∀x∈vs,∀j,x.ownBlock=some j->¬X j)/\
  (∃vs,AK u 0 (.slice r1 r2 r3) (ch.done.map (·.1)) vs/\(∀j,(Value.slice r1 r2 r3).ownBlock=some j->¬X j)/\∀x∈vs,∀j,x.ownBlock=some j->¬X j)))
theorem F0{e:Np}{u n:World}(h:∃vs,AK u 0 v ls vs/\(∀j,v.ownBlock=some j->¬X j)/\∀x∈vs,∀j,x.ownBlock=some j->¬X j)(hb:∀k,k<u.heap.size->¬X k->n.heap[k]?=u.heap[k]?)(m:∀k,k<u.heap.size->e k->X k):
  ∃vs,AK n 0 v ls vs/\(∀j,v.ownBlock=some j->¬e j)/\∀x∈vs,∀j,x.ownBlock=some j->¬e j:=by
 obtain⟨vs,h,f,g⟩:=h;have r:vs.length=ls.length:=by have:=h.owns.1;omega
 have o:∀x∈vs,∃l,BI u x l:=fun x c=>by
  obtain⟨i,hi⟩:=J0.1 c;have q:=(Qa.1 hi).1;obtain⟨y,b,d⟩:=h.all i _ (Qb Yo);rw[hi]at b;simp only[Qo]at b;subst b;exact⟨_,d⟩
 refine⟨vs,⟨Aj h.owns (fun j a=>hb j (h.owns.lt j a).2 (f j a)),fun i l hi=> ?_⟩,fun j a c=>f j a (m j (h.owns.lt j a).2 c),fun x c j a p=> ?_⟩
 ·obtain⟨y,b,d⟩:=h.all i l hi;exact⟨y,b,Aj d (fun j a=>hb j (d.lt j a).2 (g y (Qh b) j a))⟩
 ·obtain⟨l,hl⟩:=o x c;exact g x c j a (m j (hl.lt j a).2 p)
theorem Ke.stable{n:ND}:∀X b v u a,Ke n c k X v u->(∀k,k<u.heap.size->¬X k->a.heap[k]?=u.heap[k]?)->u.heap.size<=a.heap.size->(∀k,k<u.heap.size->b k->X k)->Ke n c k b v a:=by
 rintro X b v u a ⟨f,g,i,A,B,C,w,x,y,z,q,rfl,h⟩ hb _ d;refine⟨f,g,i,A,B,C,w,x,y,z,q,rfl,?_⟩;rcases h with h|h|⟨rfl,e,t,j,l,m,o,p,r,s⟩
 ·exact QG h
 ·exact QO (QG h)
 ·exact QO (QO ⟨rfl,e,t,j,l,m,o,F0 p hb d,F0 r hb d,F0 s hb d⟩)
theorem NI.toX{n:ND}{e:Ending}(h:NI n c k w e w')(l:∀j,X j->j<w.heap.size):∃v,e=returned v/\Ao w w'/\Ke n c k X v w':=by
 obtain⟨u,o,p,r,E,F,G,A,B,C,D,q,rfl,h⟩:=h;refine⟨_,rfl,u,o,p,r,E,F,G,A,B,C,D,q,rfl,?_⟩;have i:∀{v:Value}{ls:Ll},BL w.heap.size w' v ls->∃vs,AK w' 0 v ls vs/\(∀j,v.ownBlock=some j->¬X j)/\∀x∈vs,∀j,x.ownBlock=some j->¬X j:=fun{v ls} h=>by
  obtain⟨vs,b,d,a⟩:=h;exact⟨vs,b,fun j f g=>by have:=d j f;have:=l j g;omega,fun x g j f y=>by have:=a x g j f;have:=l j y;omega⟩
 rcases h with h|h|⟨rfl,m,z,b,d,a,s,t⟩
 ·exact QG h
 ·exact QO (QG h)
 ·exact QO (QO ⟨rfl,m,z,b,d,s,t,i a.goals,i a.vals,i a.done⟩)
def GG(cs:Lc)(a:Ll×At)(ks:List Nat)(w:World)(e:Ending)(w':World):Prop:=Ao w w'/\
 (((Az cs (AN a) ks 0).2.1≠0/\e= .returned (.tuple #[.agg #[.slice none 0 0,.slice none 0 0,.slice none 0 0,.int .i64 0],.agg #[.int .i64 (Az cs (AN a) ks 0).2.1,.int .i64 (Az cs (AN a) ks 0).2.2]]))\/
  ((Az cs (AN a) ks 0).2=(0,0)/\∃g1 g2 g3 v1 v2 v3 r1 r2 r3,∃uu:Nat,∃n,e= .returned (.tuple #[.agg #[.slice g1 g2 g3,.slice v1 v2 v3,.slice r1 r2 r3,.int .i64 uu],.agg #[.int .i64 0,.int .i64 0]])/\F1 w' (.slice g1 g2 g3) (.slice v1 v2 v3) (.slice r1 r2 r3) n/\FM n/\NG n/\Mt n/\Cl n (Az cs (AN a) ks 0).1))
theorem Dy.cell{lb:Nat}{xs:List (Lv)}(h:Dy w (slice (some ⟨lb,0,none⟩) cs.length cap) cs xs){k:Nat}{c:Db}(g:cs[k]?=some c):∃b a nv,w.cell? ⟨lb,k*3,none⟩=some b/\w.cell? ⟨lb,k*3+1,none⟩=some a/\w.cell? ⟨lb,k*3+2,none⟩=some nv/\M7 w b a nv c:=by
 obtain⟨b,a,nv,m,i⟩:=h.all k c g;have q:∀(xs:List (Lv))(k:Nat),(∀x∈xs,x.length=3)->xs[k]?=some [b,a,nv]->∀j,j<3->xs.flatten[k*3+j]?=[b,a,nv][j]?:=by
  intro xs
  induction xs with
  |nil=>intro k _ h;simp at h
  |cons x xs p=>
   intro k f d j l;rw[Q4];have n:=f x Ys
   cases k with
   |zero=>
    simp at d;subst d;rw[Qc Yp];simp
   |succ k=>
    rw[Qd Yo,n];have:=p k (fun y o=>f y (by simp[o])) (by simpa using d) j l;rw[<-this]
    congr 1
    omega
 have e:=q xs k h.three m;refine⟨b,a,nv,Af h.owns _ _ ?_,Af h.owns _ _ ?_,Af h.owns _ _ ?_,i⟩
 ·have:=e 0 Yo;simpa using this
 ·have:=e 1 Yo;simpa using this
 ·have:=e 2 Yo;simpa using this
structure Wr(w:World)(nb:Nat)(cs:List Db)(a:List (List BJ)×At)(ks:List Nat)(i:Nat)(n m:ND)(gv vv rv:Value)(wr:World):Prop where
 ext:Ao w wr
 res:NB wr (w.heap.size+1) (.slice none 0 0) (.slice none 0 0) (.slice none 0 0) 0
 flt:wr.heap[w.heap.size+2]?=some (.cells #[.int .i64 0,.int .i64 0] 91 (0,0))
 box:NB wr nb gv vv rv n.vars
 node:F1 wr gv vv rv n
 ok:FM n
 nm:NG n
 few:Mt n
 same:Cl n m
 fol:Az cs (AN a) ks 0=Az cs m (ks.drop i) i
theorem OY(w:World)(b4 ay b3 nv dc:Value)(cs:Lc)(xs:List (Lv))(a:Ll×At)(ks:List Nat)(bn:Dy w b4 cs xs)(em:∃a n x,ay=slice a n x)(hb:AF w b3 a.1)(bc:w.ownsRow 0 9 1 nv a.2.length (Ba a.2))(J:w.ownsRow 0 3 1 dc ks.length (AM ks))
  (ct:∀c∈cs,KR c/\Ry c) (cp:∀c∈cs,Mu c) (e6:cs.length<=24) (ap:FM (AN a)) (ck:NG (AN a)) (cj:Mt (AN a)) (e3:a.1.length<=6) (e4:a.2.length<=121) (fb:ks.length<=400) (cx:∀k∈ks,k<=99):
  Calls prog 68 #[b4,agg #[ay,b3,nv],dc] w (GG cs a ks w):=by
 obtain⟨a5,a6,a7,rfl⟩:=em;obtain⟨b1,b2,rfl⟩:=hb.shape;obtain⟨na,dk,rfl⟩:=Ab bc;obtain⟨fg,fh,rfl⟩:=Ab J;obtain⟨la,et,rfl⟩:=Ab bn.owns;obtain⟨ah,Q⟩:=Ex (((w.alloc (.cells #[slice a5 a6 a7,slice b1 a.1.length b2,slice na a.2.length dk] 107)).alloc (.cells #[Nl,Nl,Nl,int i64 0] 87)).alloc (.cells #[int i64 0,int i64 0] 91));have a9:Ao w ah:=by rw[Q];exact Mxt
 have eg:ah.heap.size=w.heap.size+3:=by rw[Q];simp
 have bo:NB ah (w.heap.size+1) Nl Nl Nl 0:=by rw[Q];exact Ah (CO Ys _) _
 have cm:ah.heap[w.heap.size+2]?=some (.cells #[int i64 0,int i64 0] 91 (0,0)):=by rw[Q];exact CO Ys _
 have da:∀l∈a.1,Iv l:=fun l hl=>by
  have aw:l∈(AN a).terms:=by
   unfold ND.terms AN;refine Q9 _ ?_;simp;exact hl
  have aa:=(ap.gs (l,0) (by unfold AN;simp;exact hl)).1;exact Hp (ap.wf l aw) (by have e1:l.length<=30:=aa;omega) (ap.occ l aw) (by have:(AN a).vars=a.2.length:=rfl;omega)
 have bx:=Yh (Lm ah (slice a5 a6 a7) (slice b1 a.1.length b2) (slice na a.2.length dk) a.1 a.2 ⟨_,_,_,rfl⟩ (hb.ext a9) (Aj bc (fun j av=>a9.block j (bc.lt j av).2)) Yo Yo da);have bw:=Yh bn;have bz:=Yh J;have d3:=Yh ct;have d6:=Yh cx;have HN:=Yh ap;have dy:=Yh ck;have dx:=Yh cj;have d1:=Yh cp;have dv:=Yh a9;have dz:=Yh bo;have d0:=Yh cm;clear bn hb bc J ct cx ap ck cj cp a9 bo cm da;go_enter func68,ntmps68;go_wp2_with fail;rw[<-Q];have ex:=Yh Q;clear Q;apply bx.o.mono;rintro e w1 ⟨an,F,bk,G,vc,rfl,aa,ay⟩;have eq:=an.size;have bl:Ao w w1:=dv.o.trans (an.mono Yo);have f:Wr w w1.heap.size cs a ks 0 (AN a) (AN a) (slice F a.1.length bk) (slice G a.2.length vc) Nl (w1.alloc (.cells #[slice F a.1.length bk,slice G a.2.length vc,Nl,int i64 a.2.length] 87)):=by
  have ao:Ao w1 (w1.alloc (.cells #[slice F a.1.length bk,slice G a.2.length vc,Nl,int i64 a.2.length] 87)):=Mxt;refine⟨bl.trans (ao.mono Yo),(ao.block _ Yo).trans ((an.block _ Yo).trans dz.o),(ao.block _ Yo).trans ((an.block _ Yo).trans d0.o),QL w1 _,⟨?_,ay.ext ao,?_⟩,HN.o,dy.o,dx.o,Cl.refl HN.o,Ys⟩
  ·have:(AN a).goals.map (·.1)=a.1:=by unfold AN;rw[QK];exact(JE (fun _ _=>rfl)).trans (List.map_id _)
   rw[this];exact aa.ext ao
  ·exact⟨[],AK.nil _ _⟩
 have d:=Yh f;have fe:w.heap.size+3<=w1.heap.size:=Yo
 have ey:YH (Ao w w1):=bl;clear an bl aa ay f bx eq eg;go_wp2
 go_loopg [17] (ks.length+1) (fun gk er wr=>∃(i:Nat)(n m:ND)(cf ds dn:Value),er=int i64 i/\i<=ks.length/\ks.length-i<gk/\Wr w w1.heap.size cs a ks i n m cf ds dn wr)
 case atStart=>exact⟨0,AN a,AN a,_,_,_,Yg,Qm _,Yo,d.o⟩
 case round=>
  obtain⟨j,n,m,cf,ds,dn,rfl,av,e7,f⟩:=hrel;obtain⟨W,X,rfl⟩:=f.node.goals.shape;obtain⟨va,af,rfl⟩:=f.node.vals.shape;obtain⟨ad,ae,rfl⟩:=f.node.done.shape;simp only[Ql]at f
  try simp only[Ql]
  have c9:=f.ext.size;have dg:wr.cell? ⟨w1.heap.size,0,none⟩=some (slice W n.goals.length X):=Aa f.box 0 _ rfl;have dh:wr.cell? ⟨w1.heap.size,1,none⟩=some (slice va n.vals.length af):=Aa f.box 1 _ rfl;have di:wr.cell? ⟨w1.heap.size,2,none⟩=some (slice ad n.done.length ae):=Aa f.box 2 _ rfl;have dj:wr.cell? ⟨w1.heap.size,3,none⟩=some (int i64 n.vars):=Aa f.box 3 _ rfl;have eu:=fun i=>Ag f.box i;have ev:=Ac f.box;have az:=Aa f.res 0 _ rfl;have a0:=Aa f.res 1 _ rfl;have a1:=Aa f.res 2 _ rfl;have a2:=Aa f.res 3 _ rfl;have a3:=fun i=>Ag f.res i;have bd:=Ac f.res;have aj:=Aa f.flt 0 _ rfl;have ak:=Aa f.flt 1 _ rfl;have al:=fun i=>Ag f.flt i;have fl:=Ac f.flt;have d:=Yh f;clear f;have bj:YH (∀(p:Nat)(y:World) z A B C q s,Ao w y->(Az cs m (ks.drop j) j).2=(7,p)->GG cs a ks w (Rq #[agg #[Nl,Nl,Nl,int i64 0],agg #[int i64 7,int i64 p]]) ((((((y.setCell ⟨w.heap.size+1,0,none⟩ z).setCell ⟨w.heap.size+1,1,none⟩ A).setCell ⟨w.heap.size+1,2,none⟩ B).setCell ⟨w.heap.size+1,3,none⟩ C).setCell ⟨w.heap.size+2,0,none⟩ q).setCell ⟨w.heap.size+2,1,none⟩ s)):=fun p y z A B C q s a8 ek=>by
   refine⟨(((((a8.setCell (p:=⟨w.heap.size+1,0,none⟩) Ys _).setCell (p:=⟨w.heap.size+1,1,none⟩) Ys _).setCell (p:=⟨w.heap.size+1,2,none⟩) Ys _).setCell (p:=⟨w.heap.size+1,3,none⟩) Ys _).setCell (p:=⟨w.heap.size+2,0,none⟩) Ys _).setCell (p:=⟨w.heap.size+2,1,none⟩) Ys _,QG ?_⟩;rw[d.o.fol,ek];exact⟨Ys,rfl⟩
  by_cases aw:j<ks.length
  ·obtain⟨k,J⟩:∃k,ks[j]?=some k:=⟨_,Qb aw⟩;have cu:ks.drop j=k::ks.drop (j+1):=by rw[QC aw,(Qa.1 J).2]
   have e8:=d6.o k (Qh J);obtain⟨bs,fi,fj,c0,e2,cy,fa⟩:=An bz.o Yo;simp only[QH]at c0;obtain⟨rfl,_,rfl⟩:=c0;have en:=Ac cy;have es:wr.cell? ⟨bs,j,none⟩=some (int i64 k):=(d.o.ext.cell (p:=⟨bs,j,none⟩) en).trans (Af bz.o j _ (by simp only[AM,Qj,J,JN]));have e9:bs<wr.heap.size:=Yo
   have bi:=Yh cu;have fc:¬((k:Int)<0):=Yo
   clear cu cy J
   by_cases cz:k<cs.length
   ·have eo:¬((cs.length:Int)<=(k:Int)):=Yo
    obtain⟨c,aq⟩:∃c,cs[k]?=some c:=⟨_,Qb cz⟩;obtain⟨lb,fk,fm,c2,_,c1,_⟩:=An bw.o.owns Yo;simp only[QH]at c2;obtain⟨rfl,_,rfl⟩:=c2;have bq:=Ac c1;obtain⟨ez,e0,cv2,cb,cc,cd,ar⟩:=bw.o.cell aq;have dd:=(d.o.ext.cell (p:=⟨lb,k*3,none⟩) bq).trans cb;have de:=(d.o.ext.cell (p:=⟨lb,k*3+1,none⟩) bq).trans cc;have df:=(d.o.ext.cell (p:=⟨lb,k*3+2,none⟩) bq).trans cd;obtain⟨b5,b6,rfl⟩:=Ab ar.head;obtain⟨b7,b8,rfl⟩:=ar.body.shape;obtain⟨b9,ca,rfl⟩:=Ab ar.names;have fd:lb<wr.heap.size:=Yo
    obtain⟨bp,cr⟩:=d3.o c (Qh aq);have d2:=Yh cr;have d4:YH (Mu c):=d1.o c (Qh aq);have bv:YH (∀ai u,Ao wr.drew u->(∀k,ai k->wr.heap.size<=k/\k<u.heap.size)->Calls prog 97 #[agg #[slice W n.goals.length X,slice va n.vals.length af,slice ad n.done.length ae,int i64 n.vars],agg #[slice b5 c.head.length b6,slice b7 c.body.length b8,slice b9 c.names.length ca]] u fun e bu=>∃r,e=returned r/\Ao u bu/\Ke n c k ai r bu):=fun ai u E eh=>by
     have db:Ao wr u:=E.undrew;apply(Mf u _ _ _ _ _ _ n c k d.o.ok bp (d.o.node.ext db) (ar.ext (d.o.ext.trans (db.mono c9)))).mono;intro e bu h;exact h.toX (fun j av=>(eh j av).2)
    have bg:=Yh aq;have bh:=Yh bp;clear aq c1 cb cc cd ar bp cr;go_wp2_with fail;refine DL Yk [.pur (agg #[slice W n.goals.length X,slice va n.vals.length af,slice ad n.done.length ae,int i64 n.vars]),.pur (slice (some ⟨lb,0,none⟩) cs.length et),.pur (int i64 k),.pur (pointer (some ⟨lb,k*3,none⟩)),.pur (agg #[slice b5 c.head.length b6,slice b7 c.body.length b8,slice b9 c.names.length ca]),
     .cal,.post (fun v=>v),.post (A9 0),.post (A9 1),.alo 87 #[Nl,Nl,Nl,int i64 0] 10 (fun v=>cellsOf (A9 0 v)),.sto 9,.post (A9 1)] 5 Yk (Ke n c k) 97 _ Ke.stable bv.o ?_ rfl Yd ?_
    ·refine⟨fun vc β u E=> ?_,fun vc β u E=> ?_,fun vc β u E=> ?_,fun vc β u E=> ?_,fun vc β u E=> ?_,fun vc β u=> ?_,?_,?_,?_,fun vc β u=> ?_,?_,?_,trivial⟩
     all_goals try(simp[pa,Kd.val,go_sem,E.up dg,E.up dh,E.up di,E.up dj,E.up dd,E.up de,E.up df,cz];done)
     all_goals try(simp[pa,Kd.val,go_sem];done)
     all_goals try(rintro vc β ai u ⟨F,H,O,G,U,V,R,S,T,be,N,rfl,_⟩;simp[pa,Kd.val,go_sem,A9];done)
     rintro vc β ai u t fp fo cl cv ⟨F,H,O,G,U,V,R,S,T,be,N,rfl,_⟩ hb;simp at cv;obtain⟨rfl,rfl,rfl,rfl⟩:=cv;have q:=Aa hb 0 _ rfl;have s:=Aa hb 1 _ rfl;have dt:=Aa hb 2 _ rfl;have du:=Aa hb 3 _ rfl;have ew:=fun i=>Ag hb i;refine⟨_,?_,Ae (Ae (Ae (Ae hb 0 _) 1 _) 2 _) 3 _,((((Ad.refl (only (β 9)) u).put 0 _).put 1 _).put 2 _).put 3 _⟩;simp[pa,Kd.val,go_sem,q,s,dt,du,ew,A9]
    rintro vc β w4 I ⟨F,H,O,G,U,V,R,S,T,be,N,rfl,c7⟩ cn _;have I:=I.undrew;have ff:=I.size;obtain⟨e5,co⟩:=cn 9 _ _ _ _ rfl;have Y:w4.heap[β 9]?=some (.cells #[slice F H O,slice G U V,slice R S T,int i64 be] 87 (0,0)):=co;generalize ei:β 9=bt at*;have q:=Aa Y 0 _ rfl;have s:=Aa Y 1 _ rfl;have dt:=Aa Y 2 _ rfl;have du:=Aa Y 3 _ rfl;have fq:=Ac Y;have K:=(I.block _ ev).trans d.o.box;have M:=(I.block _ bd).trans d.o.res;have Z:=(I.block _ fl).trans d.o.flt;have dg:=Aa K 0 _ rfl;have dh:=Aa K 1 _ rfl;have di:=Aa K 2 _ rfl;have dj:=Aa K 3 _ rfl;have eu:=fun i=>Ag K i;have fn:=Ac K;have az:=Aa M 0 _ rfl;have a0:=Aa M 1 _ rfl;have a1:=Aa M 2 _ rfl;have a2:=Aa M 3 _ rfl;have a3:=fun i=>Ag M i;have dm:=Ac M;have aj:=Aa Z 0 _ rfl;have ak:=Aa Z 1 _ rfl;have al:=fun i=>Ag Z i;have ce:=Ac Z;have cg:Ao w w4:=d.o.ext.trans (I.mono c9);have a4:=Yh K;have d8:=Yh M;have d5:=Yh Z;have bf:=Yh cg;have b0:=Yh c7;clear co Y K M Z I c7 cn es cg bv dd de df;simp only[CD,pa,Kd.val,Ja,Act.put,A9];rw[ei]
    by_cases br:N=1
    ·subst br;obtain⟨D,dl,am,L,ep,el,dp,dq,dr⟩:∃D N,(N=1\/N=2)/\Kv n c k N D/\be=D.vars/\H=D.goals.length/\AF w4 (slice F H O) (D.goals.map (·.1))/\AF w4 (slice G U V) D.vals/\AF w4 (slice R S T) (D.done.map (·.1)):=by
      rcases b0.o with⟨h,_⟩|⟨h,_⟩|⟨_,D,dl,a5,a6,a7,ec,⟨d9,ed,_⟩,⟨ea,ee,_⟩,⟨eb,ef,_⟩⟩
      ·omega
      ·omega
      ·exact⟨D,dl,a5,a6,a7,ec,⟨d9,ed⟩,⟨ea,ee⟩,⟨eb,ef⟩⟩
     obtain⟨c6,cq⟩:=Eb d.o.ok d.o.same bh.o L;obtain⟨c5,c8⟩:=cq am;have c4:=OM L am d.o.nm d2.o;have cw:=N5 L am d.o.few d4.o;have c3:m.goals≠[]:=by
      obtain⟨g,gs,aa,_⟩:=L;have:=d.o.same.gl;intro e;rw[aa,e]at this;simp at this
     have au:Az cs (AN a) ks 0=Az cs (Ax m c k).1 (ks.drop (j+1)) (j+1):=by
      rw[d.o.fol,bi.o];exact FD bg.o c3 (by rw[<-c6];exact am)
     subst ep;have P:Ad (fun b=>b=w1.heap.size) w4 ((((w4.setCell ⟨w1.heap.size,0,none⟩ (slice F H O)).setCell ⟨w1.heap.size,1,none⟩ (slice G U V)).setCell ⟨w1.heap.size,2,none⟩ (slice R S T)).setCell ⟨w1.heap.size,3,none⟩ (int i64 D.vars)):=((((Ad.refl (only w1.heap.size) w4).put 0 _).put 1 _).put 2 _).put 3 _;have ch:Wr w w1.heap.size cs a ks (j+1) D (Ax m c k).1 (slice F H O) (slice G U V) (slice R S T) ((((w4.setCell ⟨w1.heap.size,0,none⟩ (slice F H O)).setCell ⟨w1.heap.size,1,none⟩ (slice G U V)).setCell ⟨w1.heap.size,2,none⟩ (slice R S T)).setCell ⟨w1.heap.size,3,none⟩ (int i64 D.vars)):=
      ⟨bf.o.trans (P.below bf.o.size (fun j av=>by omega)),(P.block _ dm Yo).trans d8.o,(P.block _ ce Yo).trans d5.o,Ae (Ae (Ae (Ae a4.o 0 _) 1 _) 2 _) 3 _,⟨dp.box a4.o Yd Yd P,dq.box a4.o Yd Yd P,dr.box a4.o Yd Yd P⟩,c5,c4,cw,c8,au⟩
     have dw:=Yh ch;clear ch P au c3 c5 c4 cw c8 cq c6 L dp dq dr el am;go_wp2
     go_roundg (ks.length-j)
     case measure=>omega
     case rel=>exact⟨j+1,D,_,_,_,_,Yg,Yo,Yo,dw.o⟩
    ·have bo:((N:Int) !=1)=true:=by rw[QR];omega
     have ag:YH ((Az cs m (ks.drop j) j).2=(7,j)):=by
      show _=_;rw[bi.o];rcases b0.o with⟨_,h⟩|⟨_,D,h⟩|⟨h,_⟩
      ·rcases h with h|h
       ·refine Cb (QG ?_);have:=d.o.same.gl;rw[h]at this;exact QS (by simpa using this.symm)
       ·refine Em bg.o ?_;have:=(Eb d.o.ok d.o.same bh.o h).1;omega
      ·refine Em bg.o ?_;have:=(Eb d.o.ok d.o.same bh.o h).1;omega
      ·exact absurd h br
     clear br;go_wp2;refine Jb (v:=tuple #[agg #[Nl,Nl,Nl,int i64 0],agg #[int i64 7,int i64 j]]) (by simp[results,results68,go_sem,az,a0,a1,a2,a3,dm,aj,ak,al,ce]) rfl ?_;exact bj.o j w4 _ _ _ _ _ _ bf.o ag.o
   ·have eo:(cs.length:Int)<=(k:Int):=Yo
    have ag:YH ((Az cs m (ks.drop j) j).2=(7,j)):=by show _=_;rw[bi.o];exact Cb (QO Yo)
    go_wp2;refine Jb (v:=tuple #[agg #[Nl,Nl,Nl,int i64 0],agg #[int i64 7,int i64 j]]) (by simp[results,results68,go_sem,az,a0,a1,a2,a3,bd,aj,ak,al,fl]) rfl ?_;exact bj.o j wr _ _ _ _ _ _ d.o.ext ag.o
  ·have ej:j=ks.length:=Yo
   subst ej;have bb:ks.drop ks.length=[]:=QW (Qe _);have ac:=d.o.same.gl
   by_cases ab:n.goals=[]
   ·have ax:m.goals=[]:=by rw[ab]at ac;exact QS (by simpa using ac.symm)
    have au:Az cs (AN a) ks 0=(m,0,0):=by
     rw[d.o.fol,bb];unfold Az;rw[QQ ax]
    have hz:¬(0:Int)<((n.goals.length:Nat):Int):=by rw[ab];simp
    have a8:∀z A B C q s,Ao w ((((((wr.setCell ⟨w.heap.size+1,0,none⟩ z).setCell ⟨w.heap.size+1,1,none⟩ A).setCell ⟨w.heap.size+1,2,none⟩ B).setCell ⟨w.heap.size+1,3,none⟩ C).setCell ⟨w.heap.size+2,0,none⟩ q).setCell ⟨w.heap.size+2,1,none⟩ s):=fun z A B C q s=>
     (((((d.o.ext.setCell (p:=⟨w.heap.size+1,0,none⟩) Ys _).setCell (p:=⟨w.heap.size+1,1,none⟩) Ys _).setCell (p:=⟨w.heap.size+1,2,none⟩) Ys _).setCell (p:=⟨w.heap.size+1,3,none⟩) Ys _).setCell (p:=⟨w.heap.size+2,0,none⟩) Ys _).setCell (p:=⟨w.heap.size+2,1,none⟩) Ys _
    have bm:∀z A B C,Ad (fun b=>b=w.heap.size+1) wr ((((wr.setCell ⟨w.heap.size+1,0,none⟩ z).setCell ⟨w.heap.size+1,1,none⟩ A).setCell ⟨w.heap.size+1,2,none⟩ B).setCell ⟨w.heap.size+1,3,none⟩ C):=fun z A B C=>((((Ad.refl (only (w.heap.size+1)) wr).put 0 _).put 1 _).put 2 _).put 3 _;have ci:∀(y:World) q s,Ad (fun b=>b=w.heap.size+2) y ((y.setCell ⟨w.heap.size+2,0,none⟩ q).setCell ⟨w.heap.size+2,1,none⟩ s):=fun y q s=>((Ad.refl (only (w.heap.size+2)) y).put 0 _).put 1 _;have ba:∀z A B C q s {v:Value} {ls:Ll},AF wr v ls->AF ((((((wr.setCell ⟨w.heap.size+1,0,none⟩ z).setCell ⟨w.heap.size+1,1,none⟩ A).setCell ⟨w.heap.size+1,2,none⟩ B).setCell ⟨w.heap.size+1,3,none⟩ C).setCell ⟨w.heap.size+2,0,none⟩ q).setCell ⟨w.heap.size+2,1,none⟩ s) v ls:=fun z A B C q s {v ls} h=>
     (h.box d.o.res Yd Yd (bm z A B C)).box (((bm z A B C).block _ fl Ys).trans d.o.flt) Yd Yd (ci _ q s)
    have L:∀z A B C q s,GG cs a ks w (Rq #[agg #[slice W n.goals.length X,slice va n.vals.length af,slice ad n.done.length ae,int i64 n.vars],agg #[int i64 0,int i64 0]]) ((((((wr.setCell ⟨w.heap.size+1,0,none⟩ z).setCell ⟨w.heap.size+1,1,none⟩ A).setCell ⟨w.heap.size+1,2,none⟩ B).setCell ⟨w.heap.size+1,3,none⟩ C).setCell ⟨w.heap.size+2,0,none⟩ q).setCell ⟨w.heap.size+2,1,none⟩ s):=fun z A B C q s=>by
     refine⟨a8 _ _ _ _ _ _,QO ?_⟩;rw[au];exact⟨rfl,W,n.goals.length,X,va,n.vals.length,af,ad,n.done.length,ae,n.vars,n,rfl,⟨ba _ _ _ _ _ _ d.o.node.goals,ba _ _ _ _ _ _ d.o.node.vals,ba _ _ _ _ _ _ d.o.node.done⟩,d.o.ok,d.o.nm,d.o.few,d.o.same⟩
    have d7:=Yh L;clear L ba a8 bm ci au ax ab ac bb;go_wp2;refine Jb (v:=tuple #[agg #[slice W n.goals.length X,slice va n.vals.length af,slice ad n.done.length ae,int i64 n.vars],agg #[int i64 0,int i64 0]]) (by simp[results,results68,go_sem,az,a0,a1,a2,a3,bd,aj,ak,al,fl]) rfl ?_;exact d7.o _ _ _ _ _ _
   ·have ax:m.goals≠[]:=fun e=>by rw[e]at ac;exact ab (QS (by simpa using ac))
    have ag:YH ((Az cs m (ks.drop ks.length) ks.length).2=(7,ks.length)):=by
     show _=_;rw[bb];unfold Az;rw[QP ax]
    have hz:(0:Int)<((n.goals.length:Nat):Int):=by
     have:0<n.goals.length:=List.length_pos_iff.2 ab;omega
    clear ax ab ac bb;go_wp2;refine Jb (v:=tuple #[agg #[Nl,Nl,Nl,int i64 0],agg #[int i64 7,int i64 ks.length]]) (by simp[results,results68,go_sem,az,a0,a1,a2,a3,bd,aj,ak,al,fl]) rfl ?_;exact bj.o ks.length wr _ _ _ _ _ _ d.o.ext ag.o
theorem Gj(hl:l.length<=1000)(e:Wf 1 l)(hn:∀s∈l,s.name.length<=4096){seen:List Nat}(d:seen.length+l.length<=4000):
  (A3 (AC l seen).1 []).length<=4100*l.length/\(AC l seen).2.length<=seen.length+l.length:=by
 have a:=Tu 1000 hl e;obtain⟨b,c⟩:=HP a seen;have:=EK 1000 l a hn seen d;rw[b,c]at this;omega
theorem Nj:∀(names:At)(ts:Ll)(a:Lu)(seen:List Nat),(∀x∈names,x.length<=4096)->(∀t∈ts,Wf 1 t/\t.length<=1000/\∀s∈t,s.name.length<=4096)->a.length<=1->seen.length+ts.flatten.length<=4000->
  (DF a names (Aw ts seen).1).length<=4098*names.length+4100*ts.flatten.length:=by
 intro names
 induction names with
 |nil=>intro ts a seen _ _ _ _;cases ts<;>simp[Aw,DF]
 |cons x xs f=>
  intro ts a seen c d m e
  cases ts with
  |nil=>simp[Aw,DF]
  |cons t ts=>
   obtain⟨g,i,j⟩:=d t Ys;simp only[Q4,Qg]at e⊢;obtain⟨k,l⟩:=Gj i g j (seen:=seen) Yo;have h:=f ts [44] (AC t seen).2 (fun y b=>c y (by simp[b])) (fun y b=>d y (by simp[b])) Ys Yo;have n:=c x Ys;simp only[Aw,DF,Qg,Qf];omega
theorem H9(w:World)(X:Np)(av nv aq a9 an a7:Value)(vs:Int)(names:At)(n:ND)(lo:Nat)(ch:Lv)(bx:∃a l c,av=slice a l c)(b3:∃a l c,aq=slice a l c)(C:∃a l c,an=slice a l c)(b7:∃a l c,a7=slice a l c)
  (ad:w.ownsRow lo 9 1 nv names.length (Ba names)) (I:Ed X w a9 n.vals ch) (hl:names.length=n.vals.length) (hn:names.length<=125) (K:∀x∈names,x.length<=4096) (z:∀t∈n.vals,t.length<=30/\∀s∈t,s.name.length<=4096):
  Calls prog 116 #[agg #[av,nv],agg #[aq,a9,an,a7,int i64 vs]] w fun e w'=>e=returned (string ⟨(AU names n).toArray⟩)/\Ao w w':=by
 obtain⟨aa,al,ac,rfl⟩:=bx;obtain⟨ao,gl,ap,rfl⟩:=b3;obtain⟨da,dl,dc,rfl⟩:=C;obtain⟨a5,ul,a6,rfl⟩:=b7;obtain⟨na,E,rfl⟩:=Ab ad;obtain⟨va,a8,rfl⟩:=Ab I.1;have N:=I.wf;have HN:=Yh ad;have Q:=Yh I;clear ad I
 cases v:names with
 |nil=>
  have cx:n.vals.length=0:=by rw[<-hl,v];rfl
  have R:YH (AU [] n=[121,101,115]):=by show _=_;simp[AU]
  clear HN Q hl hn K z N v;go_enter func116,ntmps116;go_wp2;go_ret;rw[R.o];exact⟨rfl,Mxt⟩
 |cons ak di=>
  rw[<-v];have c1:0<names.length:=by rw[v];simp
  have c0:(((names.length:Nat):Int)==0)=false:=by rw[Qu];omega
  obtain⟨r,H⟩:=Ex (DF [] names (Aw n.vals []).1);have R:YH (AU names n=r):=by show _=_;rw[H,AU,QP (by rw[v];simp)]
  have b0:n.vals.flatten.length<=3750:=by
   have ca:∀ls:Ll,(∀t∈ls,t.length<=30)->ls.flatten.length<=30*ls.length:=by
    intro ls
    induction ls with
    |nil=>intro _;simp
    |cons t ts b9=>
     intro h;have g:=h t Ys;have cp:=b9 (fun y b8=>h y (by simp[b8]));simp only[Q4,Qg,Qf];omega
   have:=ca n.vals (fun t j=>(z t j).1);omega
  have cr:r.length<=20000000:=by
   have:=Nj names n.vals [] [] K (fun t j=>⟨N t j,by have:=(z t j).1;omega,(z t j).2⟩) Ys (by simp only[Qt];omega);rw[H];omega
  have bl:=Yh H;have bn:=Yh hl;have cy:n.vals.length<=125:=Yo
  have bp:=Yh z;have bo:=Yh K;have bq:=Yh N;clear v H z K N hl;go_enter func116,ntmps116;go_wp2;obtain⟨f,u⟩:=Ex ((w.alloc (.cells #[slice aa al ac,slice na names.length E] 148)).alloc (.cells #[slice ao gl ap,slice va n.vals.length a8,slice da dl dc,slice a5 ul a6,int i64 vs] 152));have aw:Ao w f:=by rw[u];exact Mxt
  have c2:f.heap.size=w.heap.size+2:=by rw[u];simp
  have ar:f.heap[w.heap.size]?=some (.cells #[slice aa al ac,slice na names.length E] 148 (0,0)):=by rw[u];exact Ah (QL w _) _
  have au:f.heap[w.heap.size+1]?=some (.cells #[slice ao gl ap,slice va n.vals.length a8,slice da dl dc,slice a5 ul a6,int i64 vs] 152 (0,0)):=by rw[u];simpa using QL (w.alloc _) _
  rw[<-u];have bk:=Yh aw;have bi:=Yh ar;have bj:=Yh au;clear u aw ar au
  go_loopg [5,6,7] (names.length+1) (fun gk m cf i wr=>∃(k:Nat)(d:List Nat)(b:Lu),i=int i64 k/\k<=names.length/\names.length-k<gk/\m=string ⟨b.toArray⟩/\
   b++DF (if k=0 then[]else[44]) (names.drop k) (Aw (n.vals.drop k) d).1=r/\d.length+(n.vals.drop k).flatten.length<=3750/\Ar f f.heap.size 3 1 Nl d.length (AM d) cf wr)
  case atStart=>exact⟨0,[],[],Yg,Qm _,Yo,rfl,by simp[bl.o],by simpa using b0,⟨Q2 _ _ _ _,Ad.refl _ _,QG rfl⟩⟩
  case round=>
   obtain⟨k,d,b,rfl,cw,cv,rfl,ae,a4,J⟩:=hrel;obtain⟨dg,dh,rfl⟩:=Ab J.owns;have cu:b.length<=20000000:=by
    have g:=congrArg List.length ae;simp only[Qg]at g;omega
   have B:Ao f wr:=J.kept.below (Qe _) (fun i e=>by simp[Ak,Value.ownBlock]at e);have b6:=B.size;have ax:Ao w wr:=bk.o.trans (B.mono Yo);have Z:=(B.block _ Yo).trans bi.o;obtain⟨cl,b1⟩:wr.cell? ⟨w.heap.size,0,none⟩=some (slice aa al ac)/\wr.cell? ⟨w.heap.size,1,none⟩=some (slice na names.length E):=⟨Aa Z 0 _ rfl,Aa Z 1 _ rfl⟩;obtain⟨c6,c7,c8,c9,db,dd⟩:=C0 ((B.block (w.heap.size+1) Yo).trans bj.o);have A:=Yh J;have U:=Yh ae;have G:=Yh ax;clear J ae ax B Z
   by_cases a1:k<names.length
   ·obtain⟨x,O⟩:∃x,names[k]?=some x:=⟨_,Qb a1⟩;have a2:k<n.vals.length:=by have:=bn.o;omega
    obtain⟨t,j⟩:∃t,n.vals[k]?=some t:=⟨_,Qb a2⟩;have az:names.drop k=x::names.drop (k+1):=by
     rw[QC a1,(Qa.1 O).2]
    have C:n.vals.drop k=t::n.vals.drop (k+1):=by
     rw[QC a2,(Qa.1 j).2]
    obtain⟨cj,ck,cm,ak,bc,bd,ag⟩:=Q.o.2.2 k t j;obtain⟨ce,cb,bs,bu,bt,rfl,rfl,rfl⟩:=ag.shape;have D:=Q.o.ext (Y:=X) G.o (fun _ _ h=>h);obtain⟨W,cn,co,a0,cq,b2,ct⟩:=An D.1 Yo;simp only[QH]at a0;obtain⟨rfl,_,rfl⟩:=a0;have be:wr.cell? ⟨W,k*3,none⟩=some (string ce):=Af D.1 _ _ ak;have bf:wr.cell? ⟨W,k*3+1,none⟩=some (int i64 cb):=Af D.1 _ _ bc;have bg:wr.cell? ⟨W,k*3+2,none⟩=some (slice bs bu bt):=Af D.1 _ _ bd;have af:=Aj HN.o (fun i hi=>G.o.block i (HN.o.lt i hi).2);obtain⟨nb,de,df,a3,cs,b5,cz⟩:=An af Yo;simp only[QH]at a3;obtain⟨rfl,_,rfl⟩:=a3;have bh:wr.cell? ⟨nb,k,none⟩=some (string ⟨x.toArray⟩):=Af af k _ (by simp only[Ba,Qj,O,JN]);have c5:=bo.o x (Qh O);obtain⟨c4,ah⟩:=bp.o t (Qh j);have ai:=bq.o t (Qh j);have ay:=Tu 1000 Yo ai;obtain⟨ba,bb⟩:=HP ay d;have c3:d.length+t.length+(n.vals.drop (k+1)).flatten.length<=3750:=by
     rw[C]at a4;simp only[Q4,Qg]at a4;omega
    obtain⟨bv,bw⟩:=Gj Yo ai ah (seen:=d) Yo;have ab:=FV 1000 wr 0 wr.heap.size _ _ _ t f.heap.size d _ ((ag.ext G.o (fun _ _ h=>h)).repT Yo) A.o.owns b6 ah Yo;rw[ba,bb]at ab;have P:=Yh ab;have bz:(A3 (AC t d).1 []).length<=200000:=Yo
    obtain⟨m,M⟩:=Ex (A3 (AC t d).1 []);obtain⟨F,L⟩:=Ex ((AC t d).2);have am:YH (∀aj:Lu,b++(aj++(x++(61::(m++DF [44] (names.drop (k+1)) (Aw (n.vals.drop (k+1)) F).1))))=b++DF aj (names.drop k) (Aw (n.vals.drop k) d).1):=fun aj=>by
     rw[az,C,M,L];simp[Aw,DF]
    rw[<-M]at bz;rw[<-L]at bw;rw[<-M,<-L]at P;clear b2 D ag ak bc bd j O af b5 az C ay ba bb ab ai ah bv M L
    by_cases h0:k=0
    ·have b4:¬(0:Int)<(k:Int):=Yo
     have T:YH ((b++x++[61]++m)++DF [44] (names.drop (k+1)) (Aw (n.vals.drop (k+1)) F).1=r):=by
      have g:=U.o;rw[QQ h0,<-am.o []]at g;show _=_;rw[<-g];simp
     have V:YH ((⟨b.toArray⟩:ByteArray)++⟨x.toArray⟩++⟨[61].toArray⟩++⟨m.toArray⟩=⟨(b++x++[61]++m).toArray⟩):=by
      show _=_;rw[AA,AA,AA]
     clear h0;go_wp2_with fail;apply P.o.mono;rintro e w1 ⟨cg,rfl,p⟩;obtain⟨cc,cd,rfl⟩:=Ab p.owns;have q:Ad (fun i=>f.heap.size<=i) wr w1:=p.kept.mono (fun i _ e=>(A.o.owns.lt i e).1);have br:w1.cell? ⟨w.heap.size,1,none⟩=some (slice (some ⟨nb,0,none⟩) names.length E):=q.cell b1 (by show¬f.heap.size<=w.heap.size;omega);have ci:w1.cell? ⟨nb,k,none⟩=some (string ⟨x.toArray⟩):=q.cell bh (by have:=(HN.o.lt nb rfl).2;show¬f.heap.size<=nb;omega);have S:=Yh p;clear p be bf bg q;go_wp2
     go_roundg (names.length-k)
     case measure=>omega
     case rel=>exact⟨k+1,F,b++x++[61]++m,Yg,Yo,Yo,by rw[<-V.o],by simpa using T.o,Yo,A.o.trans S.o⟩
    ·have b4:(0:Int)<(k:Int):=Yo
     have T:YH ((b++[44]++x++[61]++m)++DF [44] (names.drop (k+1)) (Aw (n.vals.drop (k+1)) F).1=r):=by
      have g:=U.o;rw[QP h0,<-am.o [44]]at g;show _=_;rw[<-g];simp
     have V:YH ((⟨b.toArray⟩:ByteArray)++⟨[44].toArray⟩++⟨x.toArray⟩++⟨[61].toArray⟩++⟨m.toArray⟩=⟨(b++[44]++x++[61]++m).toArray⟩):=by
      show _=_;rw[AA,AA,AA,AA]
     clear h0;go_wp2_with fail;apply P.o.mono;rintro e w1 ⟨cg,rfl,p⟩;obtain⟨cc,cd,rfl⟩:=Ab p.owns;have q:Ad (fun i=>f.heap.size<=i) wr w1:=p.kept.mono (fun i _ e=>(A.o.owns.lt i e).1);have br:w1.cell? ⟨w.heap.size,1,none⟩=some (slice (some ⟨nb,0,none⟩) names.length E):=q.cell b1 (by show¬f.heap.size<=w.heap.size;omega);have ci:w1.cell? ⟨nb,k,none⟩=some (string ⟨x.toArray⟩):=q.cell bh (by have:=(HN.o.lt nb rfl).2;show¬f.heap.size<=nb;omega);have S:=Yh p;clear p be bf bg q;go_wp2
     go_roundg (names.length-k)
     case measure=>omega
     case rel=>exact⟨k+1,F,b++[44]++x++[61]++m,Yg,Yo,Yo,by rw[<-V.o],by simpa using T.o,Yo,A.o.trans S.o⟩
   ·have bm:YH (r=b):=by
     have g:=U.o;rw[QW Yo]at g;have e:DF (if k=0 then[]else[44]) [] (Aw (n.vals.drop k) d).1=[]:=by cases(Aw (n.vals.drop k) d).1<;>rfl
     rw[e,Qs]at g;exact g.symm
    go_wp2;go_ret;rw[R.o,bm.o];exact⟨rfl,G.o⟩
theorem F9{n:ND}(h:(Ax n c k).2=1\/(Ax n c k).2=2):(Ax n c k).1.vals.length=n.vals.length:=by
 by_cases a:∃r:ND×Nat,∃m,FM m/\Cl m n/\Kv m c k r.2 r.1
 ·have e:Ax n c k=Classical.choose a:=by unfold Ax;rw[dif_pos a]
  obtain⟨m,_,d,g,gs,_,f⟩:=Classical.choose_spec a;rw[e]at h⊢;rcases f with⟨h0,_⟩|⟨h0,_⟩|⟨σ,_,_,_,b⟩
  ·omega
  ·omega
  ·rw[b];simp[Au,d.vl]
 ·have e:Ax n c k=(⟨[],[],[],[],0⟩,0):=by unfold Ax;rw[dif_neg a]
  rw[e]at h;simp at h
theorem Oh:∀{ks:List Nat}{n:ND}{i:Nat},(Az cs n ks i).2.1=0->(Az cs n ks i).1.vals.length=n.vals.length:=by
 intro ks
 induction ks with
 |nil=>intro n i h;unfold Az at h⊢;split<;>rfl
 |cons k ks e=>
  intro n i h
  cases a:cs[k]? with
  |none=>
   have:=Cb (cs:=cs) (n:=n) (k:=k) (i:=i) (ks:=ks) (QO (J8.1 a));rw[this]at h;simp at h
  |some c=>
   by_cases d:n.goals=[]
   ·have:=Cb (cs:=cs) (n:=n) (k:=k) (i:=i) (ks:=ks) (QG d);rw[this]at h;simp at h
   ·by_cases b:(Ax n c k).2=1\/(Ax n c k).2=2
    ·rw[FD a d b]at h⊢;rw[e h,F9 b]
    ·have:=Em (i:=i) (ks:=ks) a b;rw[this]at h;simp at h
theorem LM{p q x:ByteArray}{e:ND}(ha:Cn q=some a)(h:Bm p q x=(a.2,e,0,0)):e.vals.length=a.2.length:=by
 cases b:Bz p with
 |none=>simp[Bm,b]at h
 |some cs=>
  by_cases c:400<x.size
  ·simp[Bm,b,ha,c]at h
  ·cases hn:Bl x with
   |mk o f=>
    cases o with
    |none=>simp[Bm,b,ha,c,hn]at h
    |some ks=>
     simp[Bm,b,ha,c,hn]at h;have d:=Oh (cs:=cs) (ks:=ks) (n:=AN a) (i:=0) (by rw[h]);rw[h]at d;simpa[AN]using d
theorem Tb(p q x:ByteArray)(w:World)(L:p.size<=maxLen)(M:q.size<=maxLen)(R:x.size<=maxLen):
  Calls prog 91 #[string p,string q,string x] w fun e w'=>e=Rq #[string ⟨(Jm p q x).1.toArray⟩,int i64 (Jm p q x).2.1,int i64 (Jm p q x).2.2]/\Ao w w':=by
 have V:=Yh (fun u=>In p q x u L M R);obtain⟨Y,r⟩:=Ex (Jm p q x);rw[<-r];have B:=Yh r;clear L M R r;go_enter func91,ntmps91;go_wp2_with fail;apply(V.o _).mono;rintro e w1 ⟨g,ac⟩;have N:=g.size;have A:=Yh g;clear g;rcases ac with⟨C,aj,ae,b,a0,ax,aq,ao,ay,ar,rfl⟩|⟨a,av,nv,az,a1,a2,a3,a4,ah,b,v,rfl,c,K⟩
 ·have f:YH (Y=([],C,aj)):=by show _=_;rw[B.o,Jm,b];simp[ae]
  have hb:((C:Int) !=0)=true:=by rw[QR];omega
  clear b;go_wp2;go_ret3;rw[f.o];exact⟨rfl,A.o.trans (Ad.below (S:=fun i=>w.heap.size<=i) Mst N (fun _ h=>h))⟩
 ·have Q:=LM v b;obtain⟨_,_,_,_,_,_,_,ad,I⟩:=Cq v;obtain⟨ap,D⟩:=c.atoms;obtain⟨aa,W,rfl⟩:=Ab D.1;obtain⟨n,d,j,H,k,rfl⟩:=K.node;obtain⟨an,m⟩:=d.vals;obtain⟨aw,G⟩:=d.goals;obtain⟨au,E⟩:=d.done;obtain⟨Z,ab,rfl⟩:=Ab G.owns;obtain⟨va,am,rfl⟩:=Ab m.1;obtain⟨da,X,rfl⟩:=Ab E.owns;obtain⟨ak,al,rfl⟩:=Ab d.used;obtain⟨na,ai,rfl⟩:=Ab c.names;have J:AU a.2 n=AU a.2 ah:=by unfold AU;rw[k.valsC j]
  obtain⟨T,l⟩:=Ex (AU a.2 n);have f:YH (Y=(T,0,0)):=by show _=_;rw[B.o,Jm,b,l];simp[J]
  have z:=Yh (fun u (P:Ao w1 u)=>H9 u (fun _=>False) (slice aa a.1.length W) (slice na a.2.length ai) (slice Z n.goals.length ab) (slice va n.vals.length am) (slice da n.done.length X) (slice ak n.used.length al) n.vars a.2 n 0 an ⟨_,_,_,rfl⟩ ⟨_,_,_,rfl⟩ ⟨_,_,_,rfl⟩ ⟨_,_,_,rfl⟩
   (Aj c.names (fun i hi=>P.block i (c.names.lt i hi).2)) (m.ext P (fun _ _ h=>h)) (by rw[k.vl,Q]) Yo (fun y ag=>Qq (I y ag) Yo) (fun t O=>⟨j.vsize O,fun s af=>Qq (H t (by simp[ND.terms,O]) s af) Yo⟩))
  rw[<-l]at z;clear b v c D K d j H k m G E Q J ad I l;go_wp2_with fail;apply(z.o _ Mxt).mono;rintro e w2 ⟨rfl,F⟩;have U:=Yh F;clear F;go_wp2;go_ret3;rw[f.o];exact⟨rfl,(A.o.trans (Ad.below (S:=fun i=>w.heap.size<=i) Mst N (fun _ h=>h))).trans (U.o.mono Yp)⟩
theorem SI{n:ND}(h:(Ax n c k).2=1\/(Ax n c k).2=2):∃d ds,n.goals.map (·.2)=d::ds/\(Ax n c k).1.goals.map (·.2)=List.replicate c.body.length (d+1)++ds/\(Ax n c k).1.done.map (·.2)=n.done.map (·.2)++[d]:=by
 by_cases a:∃r:ND×Nat,∃m,FM m/\Cl m n/\Kv m c k r.2 r.1
 ·have e:Ax n c k=Classical.choose a:=by unfold Ax;rw[dif_pos a]
  obtain⟨m,_,f,g,gs,j,l⟩:=Classical.choose_spec a;rw[e]at h⊢;rcases l with⟨h0,_⟩|⟨h0,_⟩|⟨σ,_,_,_,i⟩
  ·omega
  ·omega
  ·rw[i];refine⟨g.2,gs.map (·.2),?_,?_,?_⟩
   ·rw[<-f.gd,j];rfl
   ·simp only[Au];rw[IR,Qr,QK]
    congr 1
    generalize c.body=b
    induction b with
    |nil=>rfl
    |cons x b o=>rw[Qx,o,Qf,List.replicate_succ];rfl
   ·simp only[Au];rw[IR,Qr,f.dd];rfl
 ·have e:Ax n c k=(⟨[],[],[],[],0⟩,0):=by unfold Ax;rw[dif_neg a]
  rw[e]at h;simp at h
theorem Nt{m:ND}{ks:List Nat}(h:(Az cs m (k::ks) i).2=(0,0)):∃c,cs[k]?=some c/\m.goals≠[]/\((Ax m c k).2=1\/(Ax m c k).2=2)/\Az cs m (k::ks) i=Az cs (Ax m c k).1 ks (i+1):=by
 cases a:cs[k]? with
 |none=>
  have:=Cb (cs:=cs) (n:=m) (k:=k) (i:=i) (ks:=ks) (QO (J8.1 a));rw[this]at h;simp at h
 |some c=>
  by_cases b:m.goals=[]
  ·have:=Cb (cs:=cs) (n:=m) (k:=k) (i:=i) (ks:=ks) (QG b);rw[this]at h;simp at h
  ·by_cases d:(Ax m c k).2=1\/(Ax m c k).2=2
   ·exact⟨c,rfl,b,d,FD a b d⟩
   ·have:=Em (i:=i) (ks:=ks) a d;rw[this]at h;simp at h
structure GA(w:World)(ds ls:List Nat)(dv lv:Value)(wr:World):Prop where
 ext:Ao w wr
 dep:wr.ownsRow w.heap.size 3 1 dv ds.length (AM ds)
 lef:wr.ownsRow w.heap.size 3 1 lv ls.length (AM ls)
 off:∀j,dv.ownBlock=some j->¬lv.ownBlock=some j
theorem GA.depApp{ds ls:List Nat}{c dv2:Value}{d:Nat}(h:GA w ds ls c lv w1)(b:Ar w1 w.heap.size 3 1 c (ds.length+1) (AM ds++[int i64 d]) dv2 w2):GA w (ds++[d]) ls dv2 lv w2:=by
 obtain⟨f,l,i,k⟩:=h;refine⟨f.trans (b.kept.below f.size (fun j a=>(l.lt j a).1)),by have:=b.owns;simpa[AM]using this,b.kept.owns i (fun j a m=>k j m a),fun j a hl=> ?_⟩;rcases b.where_ with e|⟨g,e,n⟩
 ·rw[e]at a;exact k j a hl
 ·rw[e]at a;simp only[Qo]at a;have:=(i.lt j hl).2;omega
theorem GA.lefApp{ds ls:List Nat}{c lv2:Value}{d:Nat}(h:GA w ds ls c lv w1)(b:Ar w1 w.heap.size 3 1 lv (ls.length+1) (AM ls++[int i64 d]) lv2 w2):GA w ds (ls++[d]) c lv2 w2:=by
 obtain⟨f,i,l,k⟩:=h;refine⟨f.trans (b.kept.below f.size (fun j a=>(l.lt j a).1)),b.kept.owns i (fun j a m=>k j a m),by have:=b.owns;simpa[AM]using this,fun j a hl=> ?_⟩;rcases b.where_ with e|⟨g,e,n⟩
 ·rw[e]at hl;exact k j a hl
 ·rw[e]at hl;simp only[Qo]at hl;have:=(i.lt j a).2;omega
theorem GA.cut{ds ls:List Nat}{a:Value}{d g:Nat}(h:GA w ds (ls++[d]) a (slice (some ⟨g,0,none⟩) (ls.length+1) cap) wr):GA w ds ls a (slice (some ⟨g,0,none⟩) ls.length cap) wr:=by
 obtain⟨c,f,b,i⟩:=h;rw[Qg,Qf,Qt]at b;have:=I6 b;refine⟨c,f,?_,i⟩;have e:(AM (ls++[d])).take ls.length=AM ls:=by
  unfold AM;rw[Qr,List.take_append_of_le_length Ys,JS Ys]
 rw[e]at this;exact this
def WG(ds:List Nat)(w:World)(e:Ending)(w':World):Prop:=Ao w w'/\∃x c,e= .returned (.slice x ds.length c)/\w'.ownsRow 0 3 1 (.slice x ds.length c) ds.length (AM ds)
theorem NH(w:World)(al ba ak nv bc:Value)(cs:Lc)(xs:List (Lv))(a:Ll×At)(ks:List Nat)(W:Dy w al cs xs)(b8:∃a n x,ba=slice a n x)(hb:AF w ak a.1)(a5:w.ownsRow 0 9 1 nv a.2.length (Ba a.2))(g:w.ownsRow 0 3 1 bc ks.length (AM ks))
  (ap:∀c∈cs,KR c) (cv:cs.length<=24) (ct:a.1.length<=6) (c5:ks.length<=400) (az:∀k∈ks,k<=99) (ar:(Az cs (AN a) ks 0).2=(0,0)):
  Calls prog 69 #[al,agg #[ba,ak,nv],bc] w (WG ((Az cs (AN a) ks 0).1.done.map (·.2)) w):=by
 obtain⟨E,cp,cq,rfl⟩:=b8;obtain⟨cl,cm,rfl⟩:=hb.shape;obtain⟨na,dr,rfl⟩:=Ab a5;obtain⟨dh,di,rfl⟩:=Ab g;obtain⟨la,dn,rfl⟩:=Ab W.owns;have ae:=Yh W;have ai:=Yh g;have bi:=Yh ap;have bq:=Yh az;have ah:=Yh ar;clear W hb a5 g ap az ar;go_enter func69,ntmps69;go_wp2
 go_loopg [8,16] (a.1.length+1) (fun gk z y wr=>∃(k:Nat),y=int i64 k/\k<=a.1.length/\a.1.length-k<gk/\GA w [] (List.replicate k 0) Nl z wr)
 case atStart=>exact⟨0,Yg,Qm _,Yo,Mxt,Q2 _ _ _ _,Q2 _ _ _ _,fun j ay=>by simp[Value.ownBlock]at ay⟩
 case round=>
  obtain⟨k,rfl,g,cz,f⟩:=hrel;have O:=f.lef;rw[QE]at O;obtain⟨ac,Q,rfl⟩:=Ab O;have cc:=f.ext.size;have s:=Yh f;have aj:=Yh O;clear f O
  by_cases ab:k<a.1.length
  ·go_wp2_with (at_builtin;go_loud (refine Al wr rfl (.tmp 18) (.tmp 19) 25 rfl w.heap.size 3 infoInt underlying25 rfl Yd (slice ac k Q) k (AM (List.replicate k 0)) rfl aj.o #[int i64 0] (N:=wr.heap.size) rfl Ys rfl (DT _) ?_ ?_ ?_))
   ·omega
   ·omega
   intro cj w2 b;obtain⟨B,C,rfl⟩:=Ab b.owns;have r:=s.o.lefApp (d:=0) (w2:=w2) (lv2:=slice B (k+1) C) (by rw[QE];exact b);rw[<-List.replicate_succ']at r;have R:=Yh r;clear b r;go_wp2
   go_roundg (a.1.length-k)
   case measure=>omega
   case rel=>exact⟨k+1,Yg,Yo,Yo,R.o⟩
  ·have b6:k=a.1.length:=Yo
   subst b6;obtain⟨ck,cd⟩:∃x,x=wr:=⟨_,rfl⟩;subst cd;have be:YH (GA w ((AN a).done.map (·.2)) ((AN a).goals.map (·.2)).reverse Nl (slice ac a.1.length Q) ck):=by
    have D:(AN a).done.map (·.2)=[]:=rfl;have T:((AN a).goals.map (·.2)).reverse=List.replicate a.1.length 0:=by
     have:(AN a).goals.map (·.2)=List.replicate a.1.length 0:=by
      unfold AN;simp only[QK];generalize a.1=l
      induction l with
      |nil=>rfl
      |cons x l cf=>rw[Qx,cf,Qf,List.replicate_succ];rfl
     rw[this,List.reverse_replicate]
    rw[D,T];exact s.o
   have b1:YH (∀x∈(AN a).goals.map (·.2),x<=0):=fun x h=>by
    unfold AN at h;simp at h;omega
   clear s aj;go_wp2
   go_loopg [7,8,24] (ks.length+1) (fun gk bz z y wr=>∃(i:Nat)(m:ND),y=int i64 i/\i<=ks.length/\ks.length-i<gk/\Az cs (AN a) ks 0=Az cs m (ks.drop i) i/\(∀x∈m.goals.map (·.2),x<=i)/\m.goals.length<=6+6*i/\m.done.length=i/\GA w (m.done.map (·.2)) (m.goals.map (·.2)).reverse bz z wr)
   case atStart=>exact⟨0,AN a,Yg,Qm _,Yo,Ys,b1.o,by unfold AN;simp;omega,by unfold AN;rfl,be.o⟩
   case round=>
    obtain⟨i,m,rfl,hi,cx,au,am,c0,I,f⟩:=hrel;have J:=f.dep;have M:=f.lef;rw[Ql,I]at J;rw[Qv,Ql]at M;obtain⟨da,S,rfl⟩:=Ab J;obtain⟨ac,Q,rfl⟩:=Ab M;have cc:=f.ext.size;have A:=Yh au;have af:=Yh am;have s:=Yh f;have ag:=Yh J;have bs:=Yh M;clear au am f J M
    by_cases ab:i<ks.length
    ·obtain⟨k,g⟩:∃k,ks[i]?=some k:=⟨_,Qb ab⟩;have X:ks.drop i=k::ks.drop (i+1):=by rw[QC ab,(Qa.1 g).2]
     have c2:=bq.o k (Qh g);have aa:=ah.o;rw[A.o,X]at aa;obtain⟨c,G,cb,a6,ax⟩:=Nt aa;obtain⟨d,ds,u,K,H⟩:=SI a6;have c4:=(Qa.1 G).1;have av:Az cs (AN a) ks 0=Az cs (Ax m c k).1 (ks.drop (i+1)) (i+1):=by rw[A.o,X,ax]
     have cw:d<=i:=af.o d (by rw[u];simp);have cu:=(bi.o c (Qh G)).bn;have V:m.goals.length=ds.length+1:=by have:=congrArg List.length u;simpa using this
     have an:∀x∈(Ax m c k).1.goals.map (·.2),x<=i+1:=fun x h=>by
      rw[K]at h;rcases Qk.1 h with h|h
      ·have:=List.eq_of_mem_replicate h;omega
      ·have:=af.o x (by rw[u];simp[h]);omega
     have b7:(Ax m c k).1.goals.length<=6+6*(i+1):=by
      have:=congrArg List.length K;simp at this;omega
     have b3:(Ax m c k).1.done.length=i+1:=by
      have:=congrArg List.length H;simp at this;omega
     have t:=s.o;rw[u,Qw]at t;have v:=bs.o;rw[u,Qw,V]at v;have Z:=ag.o;obtain⟨dl,Y⟩:∃l,l=m.done.map (·.2):=⟨_,rfl⟩;rw[<-Y]at Z t H;have aq:dl.length=i:=by rw[Y,Ql];exact I
     obtain⟨q,P⟩:∃l,l=ds.reverse:=⟨_,rfl⟩;have a7:ds.length=q.length:=by rw[P];simp
     rw[<-P]at v t;rw[a7]at v V;rw[V]at t⊢;obtain⟨bb,dj,dk,a1,cr,a0,c3⟩:=An ai.o Yo;simp only[QH]at a1;obtain⟨rfl,_,rfl⟩:=a1;have b9:=Ac a0;have cg:wr.cell? ⟨bb,i,none⟩=some (int i64 k):=(s.o.ext.cell (p:=⟨bb,i,none⟩) b9).trans (Af ai.o i _ (by simp only[AM,Qj,g,JN]))
     obtain⟨lb,dp,dq,a3,_,a2,_⟩:=An ae.o.owns Yo;simp only[QH]at a3;obtain⟨rfl,_,rfl⟩:=a3;have ca:=Ac a2;obtain⟨cn,co,cv2,b0,D,T,ao⟩:=ae.o.cell G;obtain⟨b2,bw,rfl⟩:=ao.body.shape;obtain⟨bd,dt,du,a9,_,a8,_⟩:=An v Yo;simp only[QH]at a9;obtain⟨rfl,_,rfl⟩:=a9;have ch:wr.cell? ⟨bd,q.length,none⟩=some (int i64 d):=Af v _ _ (by simp[AM]);have dd:=Ac a8;have bg:=Yh t;have bl:YH (wr.ownsRow w.heap.size 3 1 (slice da i S) i (AM dl)):=Z;have bo:=Yh av;have bh:=Yh an;have bp:=Yh K;have bj:=Yh H;have bm:=Yh D;have bu:=Yh P;have bk:=Yh aq;have c7:¬((q.length:Int)<0):=Yo
     have c8:¬((k:Int)<0):=Yo
     have c9:¬((cs.length:Int)<=(k:Int)):=Yo
     clear g X aa G cb a6 ax u K H av an t v Z Y P a0 a2 b0 D T ao a8 aq a7
     go_wp2_with (at_builtin;go_loud (refine Al wr rfl (.tmp 47) (.tmp 49) 25 rfl w.heap.size 3 infoInt underlying25 rfl Yd (slice da i S) i (AM dl) rfl bl.o #[int i64 d] (N:=wr.heap.size) rfl Ys rfl (DT _) ?_ ?_ ?_))
     ·omega
     intro cj w2 b;obtain⟨B,C,rfl⟩:=Ab b.owns;have r:=(bg.o.depApp (d:=d) (w2:=w2) (dv2:=slice B (i+1) C) (by rw[bk.o];exact b)).cut;have dg:=b.kept.size;have c6:lb<w2.heap.size:=Yo
     have dm:w2.cell? ⟨lb,k*3+1,none⟩=some (slice b2 c.body.length bw):=(r.ext.cell (p:=⟨lb,k*3+1,none⟩) ca).trans bm.o;have df:=r.ext.size;have R:=Yh r;have de:bd<w2.heap.size:=Yo
     have db:q.length<=Q:=Yo
     clear b r cg ch;obtain⟨dw,ce⟩:∃x,x=w2:=⟨_,rfl⟩;subst ce;go_wp2
     go_loopg [8,60] (c.body.length+1) (fun gk z y wr=>∃(j:Nat),y=int i64 j/\j<=c.body.length/\c.body.length-j<gk/\GA w (dl++[d]) (q++List.replicate j (d+1)) (slice B (i+1) C) z wr)
     case atStart=>exact⟨0,Yg,Qm _,Yo,by simpa using R.o⟩
     case round=>
      obtain⟨j,rfl,ay,cy,F⟩:=hrel;have L:=F.lef;rw[Qg,QE]at L;obtain⟨ta,ci,rfl⟩:=Ab L;have dc:=F.ext.size;have ad:=Yh F;have br:=Yh L;clear F L
      by_cases c1:j<c.body.length
      ·go_wp2_with (at_builtin;go_loud (refine Al wr rfl (.tmp 62) (.tmp 65) 25 rfl w.heap.size 3 infoInt underlying25 rfl Yd (slice ta (q.length+j) ci) (q.length+j) (AM (q++List.replicate j (d+1))) rfl br.o #[int i64 ((d:Int)+1)] (N:=wr.heap.size) rfl Ys rfl (DT _) ?_ ?_ ?_))
       ·omega
       ·omega
       intro dv w4 b;obtain⟨bv,bx,rfl⟩:=Ab b.owns;have U:=ad.o.lefApp (d:=d+1) (w2:=w4) (lv2:=slice bv (q.length+j+1) bx) (by rw[Qg,QE];exact b);rw[Qi,<-List.replicate_succ']at U;have bf:=Yh U;clear b U;go_wp2
       go_roundg (c.body.length-j)
       case measure=>omega
       case rel=>exact⟨j+1,Yg,Yo,Yo,bf.o⟩
      ·have b5:j=c.body.length:=Yo
       subst b5;go_wp2
       go_roundg (ks.length-i)
       case measure=>omega
       case rel=>
        refine⟨i+1,(Ax m c k).1,Yg,Yo,Yo,bo.o,bh.o,b7,b3,?_⟩;rw[bj.o,bp.o,List.reverse_append,List.reverse_replicate,<-bu.o];exact ad.o
    ·have b4:i=ks.length:=Yo
     subst b4;have a4:(Az cs (AN a) ks 0).1=m:=by
      have E:=ah.o;have e:Az cs m [] ks.length=if m.goals=[]then(m,0,0)else(m,7,ks.length):=by unfold Az;rfl
      rw[A.o,QW (Qe _),e]at E;rw[A.o,QW (Qe _),e]
      by_cases aw:m.goals=[]
      ·rw[QQ aw]
      ·rw[QP aw]at E;simp at E
     have bt:=Yh a4;clear a4;go_wp2;go_ret;rw[bt.o];refine⟨s.o.ext,da,S,by rw[Ql,I];rfl,?_⟩;rw[Ql,I];exact AI ag.o (Qm _)
theorem W1:∀{met:List Nat}{n k:Nat},(∀i,i<k->met[i]?≠some n)->met[k]?=some n->met.idxOf n=k:=by
 intro met
 induction met with
 |nil=>intro n k _ h;simp at h
 |cons x met d=>
  intro n k b a;rw[List.idxOf_cons]
  cases k with
  |zero=>simp at a;subst a;simp
  |succ k=>
   have c:x≠n:=fun e=>b 0 Yo (by simp[e]);have:(x==n)=false:=by rw[Qu];exact c
   rw[this];simp only[cond_false];rw[d (n:=n) (k:=k) (fun i hi=>by have:=b (i+1) Yo;simpa using this) (by simpa using a)]
theorem VM:∀{met:List Nat}{n:Nat},(∀i,i<met.length->met[i]?≠some n)->met.idxOf n=met.length:=by
 intro met
 induction met with
 |nil=>intro n _;rfl
 |cons x met c=>
  intro n a;rw[List.idxOf_cons];have b:x≠n:=fun e=>a 0 Ys (by simp[e]);have:(x==n)=false:=by rw[Qu];exact b
  rw[this];simp only[cond_false,Qf];rw[c (n:=n) (fun i hi=>by have:=a (i+1) Yp;simpa using this)]
theorem OV(w:World)(n:Nat)(p:Value)(met:List Nat)(h:w.ownsRow 0 3 1 p met.length (AM met))(hl:met.length<=10000)(hn:n<=200000):
  Calls prog 134 #[int i64 n,p] w fun e w'=>e=returned (int i64 (met.idxOf n))/\w'=w:=by
 obtain⟨la,B,rfl⟩:=Ab h;have d:=Yh h;clear h;go_enter func134,ntmps134;go_wp2
 go_loopg [5] (met.length+1) (fun gk u wr=>∃(k:Nat),u=int i64 k/\k<=met.length/\met.length-k<gk/\wr=w/\∀i,i<k->met[i]?≠some n)
 case atStart=>exact⟨0,Yg,Qm _,Yo,rfl,fun i hi=>by omega⟩
 case round=>
  obtain⟨k,rfl,A,z,rfl,j⟩:=hrel;have a:=Yh j;clear j
  by_cases s:k<met.length
  ·have t:(k:Int)<(met.length:Int):=Yo
   obtain⟨x,c⟩:∃x,met[k]?=some x:=⟨_,Qb s⟩;obtain⟨g,v,y,l,_,r,_⟩:=An d.o Yo;simp only[QH]at l;obtain⟨rfl,_,rfl⟩:=l;have C:wr.cell? ⟨g,k,none⟩=some (int i64 x):=Af d.o k _ (by simp only[AM,Qj,c,JN]);have f:=Yh c;clear c r
   by_cases m:x=n
   ·subst m;have b:YH (met.idxOf x=k):=W1 a.o f.o;go_wp2;go_ret;exact⟨by rw[b.o];simp,rfl⟩
   ·have hb:((x:Int) !=(n:Int))=true:=by rw[QR];omega
    go_wp2
    go_roundg (met.length-k)
    case measure=>omega
    case rel=>
     refine⟨k+1,Yg,Yo,Yo,rfl,fun i hi=> ?_⟩
     by_cases e:i=k
     ·subst e;rw[f.o];simpa using m
     ·exact a.o i Yo
  ·have q:k=met.length:=Yo
   subst q;have b:YH (met.idxOf n=met.length):=VM a.o;have t:¬((met.length:Int)<(met.length:Int)):=Yo
   go_wp2;go_ret;exact⟨by rw[b.o];simp,rfl⟩
theorem AK.other{k n s:Nat}(h:AK w B v ls vs)(g:w.ownsRow k e s vv n ys)(p:105≠e)(q:133≠e)(f:Ad (Ak vv) w w'):AK w' B v ls vs:=
 ⟨f.owns h.owns (fun j c a=>by
  obtain⟨m,b⟩:=Ay g j a;exact Ai h.owns p b c),fun i l hi=>by
  obtain⟨x,o,d⟩:=h.all i l hi;refine⟨x,o,f.owns d (fun j c a=> ?_)⟩;obtain⟨m,b⟩:=Ay g j a;exact Ai d q b c⟩
structure Iu(w:World)(Bc:Nat)(rl:List (List BJ))(rv:Value)(xs:List Value)(met:List Nat)(mv:Value)(ch:List BJ)(cv:Value)(wr:World):Prop where
 ext:Ao w wr
 row:AK wr w.heap.size rv rl xs
 low:∀x∈xs,∀j,x.ownBlock=some j->j<Bc
 met:wr.ownsRow w.heap.size 3 1 mv met.length (AM met)
 b1:w.heap.size<=Bc
 b2:Bc<=wr.heap.size
 chg:wr.ownsRow Bc 133 3 cv ch.length (Aq ch)
theorem Iu.on{b:Nat}{k:Ll}{l i:Value}{met:List Nat}{c:Ly}(h:Iu w b k l xs met i c cv wr)(e:Ao wr w1):Iu w b k l xs met i c cv w1:=by
 obtain⟨d,m,n,f,o,p,g⟩:=h;exact⟨d.trans (e.mono d.size),m.ext e,n,Aj f (fun j a=>e.block j (f.lt j a).2),o,Qq p e.size,Aj g (fun j a=>e.block j (g.lt j a).2)⟩
theorem Iu.metApp{d n:Nat}{l:Ll}{m i k:Value}{met:List Nat}{e:Ly}(h:Iu w d l m xs met i e cv w1)(a:Ar w1 w.heap.size 3 1 i (met.length+1) (AM met++[int i64 n]) k w2):Iu w d l m xs (met++[n]) k e cv w2:=by
 obtain⟨f,o,p,b,q,u,g⟩:=h;have v:=a.kept.size;refine⟨f.trans (a.kept.below f.size (fun j c=>(b.lt j c).1)),o.other b Yd Yd a.kept,p,?_,q,Yo,a.kept.owns g (fun j c r=> ?_)⟩
 ·have:=a.owns;simpa[AM]using this
 ·obtain⟨t,s⟩:=Ay b j r;exact Ai g Yd s c
theorem Iu.chApp{f:Nat}{t:Ll}{u r cv2:Value}{met:List Nat}{d:Ly}{s:BJ}(h:Iu w f t u xs met r d cv w1)(b:Ar w1 f 133 3 cv (d.length+1) (Aq d++Bw s) cv2 w2):Iu w f t u xs met r (d++[s]) cv2 w2:=by
 obtain⟨n,g,o,p,q,z,e⟩:=h;have A:=b.kept.size;refine⟨n.trans (b.kept.below n.size (fun j a=>Qq q (e.lt j a).1)),⟨b.kept.owns g.owns (fun j a c=> ?_),fun i l hi=> ?_⟩,o,b.kept.owns p (fun j a c=> ?_),q,Yo,?_⟩
 ·obtain⟨v,k⟩:=Ay e j c;exact Ai g.owns Yd k a
 ·obtain⟨x,m,y⟩:=g.all i l hi;refine⟨x,m,b.kept.owns y (fun j a c=> ?_)⟩;have:=o x (Qh m) j a;have:=(e.lt j c).1;omega
 ·obtain⟨v,k⟩:=Ay e j c;exact Ai p Yd k a
 ·have:=b.owns;rw[C9,Qg];simpa[Aq]using this
theorem Iu.box{d:Nat}{cs:Av}{fr:Nat×Nat}{q:Ll}{r p:Value}{met:List Nat}{e:Ly}(h:Iu w d q r xs met p e cv w1)(o:w1.heap[M]?=some (.cells cs 133 fr))(A:d<=M)(y:∀j,cv.ownBlock=some j->j≠M)(a:Ad (fun k=>k=M) w1 w2):Iu w d q r xs met p e cv w2:=by
 obtain⟨g,m,n,t,u,z,v⟩:=h;have B:=a.size;refine⟨g.trans (a.below g.size (fun j c=>by omega)),⟨Bv m.owns o Yd a,fun i l hi=> ?_⟩,n,Bv t o Yd a,u,Yo,a.owns v (fun j c b=>y j c b)⟩;obtain⟨x,f,s⟩:=m.all i l hi;refine⟨x,f,a.owns s (fun j c b=> ?_)⟩;have:=n x (Qh f) j c;have b:j=M:=b;omega
theorem AK.words(h:AK w B v ls vs):∀x∈vs,∀j,x.ownBlock=some j->j<w.heap.size:=fun x d j c=>by
 have f:vs.length=ls.length:=by have:=h.owns.1;omega
 obtain⟨i,hi⟩:=J0.1 d;have e:=(Qa.1 hi).1;obtain⟨y,a,b⟩:=h.all i _ (Qb Yo);rw[hi]at a;simp only[Qo]at a;subst a;exact(b.lt j c).2
theorem V5(n:Nat)(met:List Nat):(Ep n met).length<=met.length+1:=by unfold Ep;split<;>simp
theorem Lt:∀(l:Ly)(met:List Nat),(AC l met).2.length<=met.length+l.length:=by
 intro l
 induction l with
 |nil=>intro met;simp[AC]
 |cons s l a=>
  intro met;simp only[AC];split
  ·have:=a (Ep s.num met);have:=V5 s.num met;simp;omega
  ·have:=a met;simp;omega
theorem LI:∀(ts:Ll)(met:List Nat),(Aw ts met).2.length<=met.length+ts.flatten.length:=by
 intro ts
 induction ts with
 |nil=>intro met;simp[Aw]
 |cons t ts a=>
  intro met;simp only[Aw,Q4,Qg];have:=a (AC t met).2;have:=Lt t met;omega
def XS(ts:Ll)(w:World)(e:Ending)(w':World):Prop:=Ao w w'/\∃x c,e= .returned (.slice x ts.length c)/\AF w' (.slice x ts.length c) (Aw ts []).1
theorem Rs(w:World)(tv:Value)(ts:Ll)(h:AF w tv ts)(hl:ts.length<=1000)(a9:ts.flatten.length<=8000)(bd:∀t∈ts,Iv t):
  Calls prog 99 #[tv] w (XS ts w):=by
 obtain⟨c5,h⟩:=h;obtain⟨ta,c4,rfl⟩:=Ab h.owns;have ad:=Yh h;have br:=Yh bd;have bn:=Yh a9;clear h bd a9;go_enter func99,ntmps99;go_wp2
 go_loopg [3,4,13] (ts.length+1) (fun gk ch au ar wr=>∃(k:Nat)(xs:Lv),ar=int i64 k/\k<=ts.length/\ts.length-k<gk/\Iu w wr.heap.size (Aw (ts.take k) []).1 ch xs (Aw (ts.take k) []).2 au [] Nl wr)
 case atStart=>exact⟨0,[],Yg,Qm _,Yo,Jc _ _,AK.nil _ _,Ys,Q2 _ _ _ _,Qe _,Qe _,Q2 _ _ _ _⟩
 case round=>
  obtain⟨k,xs,rfl,ct,cq,G⟩:=hrel;have cb:(Aw (ts.take k) []).2.length<=8000:=by
   have bz:=LI (ts.take k) [];have b0:=bn.o;have b1:(ts.take k).flatten.length<=ts.flatten.length:=by
    conv=>rhs;rw[<-JT k ts,JB,Qg]
    omega
   simp at bz;simp at b0 b1;omega
  have S:(Aw (ts.take k) []).1.length=k:=by rw[ET];simp;omega
  obtain⟨av,W⟩:∃r,r=(Aw (ts.take k) []).1:=⟨_,rfl⟩;obtain⟨met,T⟩:∃r,r=(Aw (ts.take k) []).2:=⟨_,rfl⟩;rw[<-W,<-T]at G;rw[<-T]at cb;rw[<-W]at S;have ap:=G.row.owns;rw[S]at ap;obtain⟨ab,ac,rfl⟩:=Ab ap;obtain⟨cy,cz,rfl⟩:=Ab G.met;have cw:=G.ext.size;have ae:=Yh G;have a5:=Yh W;have bp:=Yh T;have a0:=Yh S;clear G ap W T S
  by_cases b9:k<ts.length
  ·obtain⟨t,D⟩:∃t,ts[k]?=some t:=⟨_,Qb b9⟩;obtain⟨x,X,aq⟩:=ad.o.all _ t D;obtain⟨bj,bk,rfl⟩:=Ab aq;obtain⟨g,cl,bu,a7,_,bb,_⟩:=An ad.o.owns Yo;simp only[QH]at a7;obtain⟨rfl,_,rfl⟩:=a7;have b8:=Ac bb;have cr:g<wr.heap.size:=Yo
   have cj:wr.cell? ⟨g,k,none⟩=some (slice bj t.length bk):=(ae.o.ext.cell (p:=⟨g,k,none⟩) b8).trans (Af ad.o.owns _ _ X);obtain⟨bf,c0,bg⟩:=br.o t (Qh D);have ah:YH (BI w (slice bj t.length bk) t):=aq;have bt:=Yh D;have bq:=Yh bg;have ck:YH (∀(i:Nat) s,t[i]?=some s->s.name=[]->s.args=0):=fun i s q=>by obtain⟨j,l⟩:=bf;exact(GJ l q).1
   have cu:met.length+t.length<=9000:=Yo
   obtain⟨E,cf⟩:∃x,x=wr:=⟨_,rfl⟩;subst cf;clear D X aq bb bf bg;go_wp2
   go_loopg [4,7,19] (t.length+1) (fun gk au bv ar wr=>∃(i:Nat),ar=int i64 i/\i<=t.length/\t.length-i<gk/\Iu w E.heap.size av (slice ab k ac) xs (AC (t.take i) met).2 au (AC (t.take i) met).1 bv wr)
   case atStart=>exact⟨0,Yg,Qm _,Yo,ae.o⟩
   case round=>
    obtain⟨i,rfl,hi,cp,u⟩:=hrel;have cc:(AC (t.take i) met).2.length<=9000:=by
     have:=Lt (t.take i) met;simp at this;omega
    have R:(AC (t.take i) met).1.length=i:=by rw[Ih];simp;omega
    obtain⟨c,A⟩:∃r,r=(AC (t.take i) met).1:=⟨_,rfl⟩;obtain⟨a,B⟩:∃r,r=(AC (t.take i) met).2:=⟨_,rfl⟩;rw[<-A,<-B]at u;rw[<-B]at cc;rw[<-A]at R;have an:=u.chg;rw[R]at an;obtain⟨ca,d,rfl⟩:=Ab an;obtain⟨na,Y,rfl⟩:=Ab u.met;have cv:=u.ext.size;have b4:=u.b2;have m:=Yh u;have az:=Yh A;have a3:=Yh B;have F:=Yh R;clear u an A B R cj
    by_cases hit:i<t.length
    ·obtain⟨s,q⟩:∃s,t[i]?=some s:=⟨_,Qb hit⟩;obtain⟨al,cm,cn,a8,_,bc,_⟩:=An ah.o Yo;simp only[QH]at a8;obtain⟨rfl,_,rfl⟩:=a8;have V:=Aj ah.o (fun j l=>m.o.ext.block j (ah.o.lt j l).2);have cs:=Ac bc
     have ak:wr.cell? ⟨al,i*3,none⟩=some (string ⟨s.name.toArray⟩):=Af V _ _ (by have:=AV t i s q 0 Yo;rw[JU]at this;rw[this];rfl);have bw:wr.cell? ⟨al,i*3+1,none⟩=some (int i64 s.num):=Af V _ _ (by rw[AV t i s q 1 Yo];rfl);have bx:wr.cell? ⟨al,i*3+2,none⟩=some (int i64 s.args):=Af V _ _ (by rw[AV t i s q 2 Yo];rfl);have cd:=bq.o s (Qh q);have U:AC (t.take (i+1)) met=(if s.name=[]then(c++[⟨[],a.idxOf s.num,s.args⟩],Ep s.num a)else(c++[s],a)):=by
      rw[QU,q];simp only[Option.toList];rw[Ic,<-az.o,<-a3.o];simp only[AC];split<;>rfl
     have a4:=Yh U;clear q V bc U
     cases C:s.name with
     |cons y M=>
      rw[C]at ak;have Q:YH (AC (t.take (i+1)) met=(c++[s],a)):=by show _=_;rw[a4.o,QP (by rw[C];simp)]
      have bs:YH (s=⟨y::M,s.num,s.args⟩):=by show _=_;rw[<-C]
      have v:Ao wr (wr.alloc (.cells #[string ⟨(y::M).toArray⟩,int i64 s.num,int i64 s.args] 133)):=Mxt;have aw:=Yh (m.o.on v);have f:YH ((wr.alloc (.cells #[string ⟨(y::M).toArray⟩,int i64 s.num,int i64 s.args] 133)).ownsRow E.heap.size 133 3 (slice ca i d) i (Aq c)):=by have:=aw.o.chg;rw[F.o]at this;exact this
      clear C v
      go_wp2_with (at_builtin;go_loud (refine Al (wr.alloc (.cells #[string ⟨(y::M).toArray⟩,int i64 s.num,int i64 s.args] 133)) rfl (.tmp 41) (.tmp 43) 105 rfl E.heap.size 133 infoSym underlying105 rfl Yd (slice ca i d) i (Aq c) rfl f.o #[string ⟨(y::M).toArray⟩,int i64 s.num,int i64 s.args] (N:=wr.heap.size+1) rfl Ys rfl (Fq _ _ _) ?_ ?_ ?_))
      ·omega
      ·simp;omega
      intro bi w2 b;obtain⟨H,I,rfl⟩:=Ab b.owns;have J:=aw.o.chApp (s:=s) (cv2:=slice H (i+1) I) (w2:=w2) (by rw[F.o,bs.o];simpa[Bw]using b);have bl:=Yh J;clear b J;go_wp2
      go_roundg (t.length-i)
      case measure=>omega
      case rel=>exact⟨i+1,Yg,Yo,Yo,by rw[Q.o];exact bl.o⟩
     |nil=>
      rw[C]at ak;obtain⟨P,L⟩:∃p,p=a.idxOf s.num:=⟨_,rfl⟩;have co:P<=a.length:=by rw[L];exact List.idxOf_le_length
      have v:∀o,Ao wr (wr.alloc o):=fun o=>Mxt;have ay:=Yh (OV (wr.alloc (.cells #[string ⟨#[]⟩,int i64 s.num,int i64 s.args] 133)) s.num (slice na a.length Y) a (AI (m.o.on (v _)).met (Qm _)) Yo cd);rw[<-L]at ay;have Q:YH (AC (t.take (i+1)) met=(c++[⟨[],P,s.args⟩],Ep s.num a)):=by show _=_;rw[a4.o,QQ C,<-L]
      have a1:YH (Ep s.num a=if P=a.length then a++[s.num]else a):=by show _=_;unfold Ep;rw[<-L]
      have bm:=Yh v;have ax:=Yh (m.o.on (v (.cells #[string ⟨#[]⟩,int i64 s.num,int i64 s.args] 133)));clear C v L;go_wp2_with fail;apply ay.o.mono;rintro e w1 ⟨rfl,rfl⟩
      by_cases ao:P=a.length
      ·subst ao;have hz:((a.length:Int)==(a.length:Int))=true:=Ys
       have a2:YH ((wr.alloc (.cells #[string ⟨#[]⟩,int i64 s.num,int i64 s.args] 133)).ownsRow w.heap.size 3 1 (slice na a.length Y) a.length (AM a)):=ax.o.met
       go_wp2_with (at_builtin;go_loud (refine Al (wr.alloc (.cells #[string ⟨#[]⟩,int i64 s.num,int i64 s.args] 133)) rfl (.tmp 34) (.tmp 37) 25 rfl w.heap.size 3 infoInt underlying25 rfl Yd (slice na a.length Y) a.length (AM a) rfl a2.o #[int i64 s.num] (N:=wr.heap.size+1) rfl Ys rfl (DT _) ?_ ?_ ?_))
       ·omega
       ·simp;omega
       intro bi w2 b;obtain⟨H,I,rfl⟩:=Ab b.owns;have J:=ax.o.metApp (n:=s.num) b;have z:w2.heap[wr.heap.size]?=some (.cells #[string ⟨#[]⟩,int i64 s.num,int i64 s.args] 133 (0,0)):=(b.kept.block _ Ys (Ai a2.o Yd (QL wr _))).trans (QL wr _);have a6:Ad (fun k=>k=wr.heap.size) w2 (w2.setCell ⟨wr.heap.size,1,none⟩ (int i64 a.length)):=(Ad.refl (only wr.heap.size) w2).put 1 _;have am:=J.box z b4 (fun j l=>by have:=(m.o.chg.lt j l).2;omega) a6;have c6:=Aa z 0 _ rfl;have c7:=Aa z 1 _ rfl;have c8:=Aa z 2 _ rfl;have c9:=fun i=>Ag z i;have da:=Ac z;have ce:=b.kept.size;simp at ce;have O:=Yh am;have f:YH ((w2.setCell ⟨wr.heap.size,1,none⟩ (int i64 a.length)).ownsRow E.heap.size 133 3 (slice ca i d) i (Aq c)):=by have:=am.chg;rw[F.o]at this;exact this
       have ag:YH (Ep s.num a=a++[s.num]):=by show _=_;rw[a1.o];simp
       clear b J z a6 am ak bw bx
       go_wp2_with (at_builtin;go_loud (refine Al (w2.setCell ⟨wr.heap.size,1,none⟩ (int i64 a.length)) rfl (.tmp 41) (.tmp 43) 105 rfl E.heap.size 133 infoSym underlying105 rfl Yd (slice ca i d) i (Aq c) rfl f.o #[string ⟨#[]⟩,int i64 a.length,int i64 s.args] (N:=w2.heap.size) rfl Ys rfl (Fq _ _ _) ?_ ?_ ?_))
       ·omega
       ·simp;omega
       intro ci w4 b;obtain⟨ai,aj,rfl⟩:=Ab b.owns;have K:=O.o.chApp (s:=⟨[],a.length,s.args⟩) (cv2:=slice ai (i+1) aj) (w2:=w4) (by rw[F.o];simpa[Bw]using b);have af:=Yh K;clear b K;go_wp2
       go_roundg (t.length-i)
       case measure=>omega
       case rel=>exact⟨i+1,Yg,Yo,Yo,by rw[Q.o,ag.o];exact af.o⟩
      ·have hz:((P:Int)==(a.length:Int))=false:=by rw[Qu];omega
       have ag:YH (Ep s.num a=a):=by show _=_;rw[a1.o,QP ao]
       have O:=Yh (m.o.on (bm.o (.cells #[string ⟨#[]⟩,int i64 P,int i64 s.args] 133)));have f:YH ((wr.alloc (.cells #[string ⟨#[]⟩,int i64 P,int i64 s.args] 133)).ownsRow E.heap.size 133 3 (slice ca i d) i (Aq c)):=by have:=O.o.chg;rw[F.o]at this;exact this
       clear ao
       go_wp2_with (at_builtin;go_loud (refine Al (wr.alloc (.cells #[string ⟨#[]⟩,int i64 P,int i64 s.args] 133)) rfl (.tmp 41) (.tmp 43) 105 rfl E.heap.size 133 infoSym underlying105 rfl Yd (slice ca i d) i (Aq c) rfl f.o #[string ⟨#[]⟩,int i64 P,int i64 s.args] (N:=wr.heap.size+1) rfl Ys rfl (Fq _ _ _) ?_ ?_ ?_))
       ·omega
       ·simp;omega
       intro ci w4 b;obtain⟨ai,aj,rfl⟩:=Ab b.owns;have K:=O.o.chApp (s:=⟨[],P,s.args⟩) (cv2:=slice ai (i+1) aj) (w2:=w4) (by rw[F.o];simpa[Bw]using b);have af:=Yh K;clear b K;go_wp2
       go_roundg (t.length-i)
       case measure=>omega
       case rel=>exact⟨i+1,Yg,Yo,Yo,by rw[Q.o,ag.o];exact af.o⟩
    ·have b6:i=t.length:=Yo
     subst b6;have f:YH (wr.ownsRow w.heap.size 105 1 (slice ab k ac) k xs):=by have:=m.o.row.owns;rw[a0.o]at this;exact this
     go_wp2_with (at_builtin;go_loud (refine Al wr rfl (.tmp 46) (.tmp 48) 85 rfl w.heap.size 105 infoSyms underlying85 rfl Yd (slice ab k ac) k xs rfl f.o #[slice ca t.length d] (N:=wr.heap.size) rfl Ys rfl (Dw _ _ _) ?_ ?_ ?_))
     ·omega
     ·omega
     intro bi w2 b;obtain⟨H,I,rfl⟩:=Ab b.owns;have ba:Iu w w2.heap.size (Aw (ts.take (k+1)) []).1 (slice H (k+1) I) (xs++[slice ca t.length d]) (Aw (ts.take (k+1)) []).2 (slice na a.length Y) [] Nl w2:=by
      have A:=az.o;have B:=a3.o;rw[QT]at A B;have U:Aw (ts.take (k+1)) []=(av++[c],a):=by
       rw[QU,bt.o];simp only[Option.toList];rw[ML,<-a5.o,<-bp.o];simp only[Aw];rw[A,B]
      rw[U];obtain⟨Z,aa,c1,bh,c2,c3,cg⟩:=m.o;have cx:=b.kept.size;have X:BI wr (slice ca t.length d) c:=AI cg (Qm _);have D:AK w2 w.heap.size (slice H (k+1) I) (av++[c]) (xs++[slice ca t.length d]):=aa.snoc (by rw[a0.o];exact b) X;refine⟨Z.trans (b.kept.below Z.size (fun j l=>(f.o.lt j l).1)),D,D.words,b.kept.owns bh (fun j l b3=> ?_),Yo,Qe _,Q2 _ _ _ _⟩;obtain⟨bu,b5⟩:=Ay f.o j b3;exact Ai bh Yd b5 l
     have bo:=Yh ba;clear b ba;go_wp2
     go_roundg (ts.length-k)
     case measure=>omega
     case rel=>exact⟨k+1,_,Yg,Yo,Yo,bo.o⟩
  ·have b7:k=ts.length:=Yo
   subst b7;go_wp2;go_ret;have be:=a5.o;rw[QT]at be;obtain⟨Z,aa,_⟩:=ae.o;rw[be]at aa;exact⟨Z,ab,ac,rfl,aa.inn⟩
structure WA(ts:List (List BJ)):Prop where
 len:ts.length<=1000
 all:ts.flatten.length<=8000
 ok:∀t∈ts,Iv t
 sym:∀t∈(Aw ts []).1,G5 t
 txt:∀t∈(Aw ts []).1,(A3 t []).length<=1000000
def GZ(ts:Ll):List (Lu):=(Aw ts []).1.map (fun t=>A3 t [])
def Pk(ts:Ll)(w:World)(e:Ending)(w':World):Prop:=Ao w w'/\∃x c,e= .returned (.slice x ts.length c)/\w'.ownsRow 0 9 1 (.slice x ts.length c) ts.length (Ba (GZ ts))
theorem Nv(w:World)(tv:Value)(ts:Ll)(h:AF w tv ts)(a:WA ts):Calls prog 79 #[tv] w (Pk ts w):=by
 obtain⟨ta,ax,rfl⟩:=h.shape;have K:=Yh (Rs w _ ts h a.len a.all a.ok);have M:=Yh a;have hl:=a.len;have v:(Aw ts []).1.length=ts.length:=ET _ _;obtain⟨C,f⟩:=Ex ((Aw ts []).1);have ad:YH (GZ ts=C.map (fun t=>A3 t [])):=by show _=_;unfold GZ;rw[f]
 rw[<-f]at v;have J:=Yh f;have d:=Yh v;clear h a f v;go_enter func79,ntmps79;go_wp2_with fail;apply K.o.mono;rintro e w1 ⟨u,a0,a1,rfl,b⟩;rw[<-J.o]at b;obtain⟨ay,b⟩:=b;have am:=u.size;have Y:=Yh u;have L:=Yh b;clear u b K;go_wp2
 go_loopg [3,9] (ts.length+1) (fun gk ao an wr=>∃(k:Nat),an=int i64 k/\k<=ts.length/\ts.length-k<gk/\Ao w1 wr/\wr.ownsRow w1.heap.size 9 1 ao k (Ba ((C.take k).map (fun t=>A3 t []))))
 case atStart=>exact⟨0,Yg,Qm _,Yo,Jc _ _,Q2 _ _ _ _⟩
 case round=>
  obtain⟨k,rfl,av,au,s,z⟩:=hrel;obtain⟨G,H,rfl⟩:=Ab z;have ak:=s.size;have c:=Yh s;have q:=Yh z;clear s z
  by_cases aj:k<ts.length
  ·have ai:k<C.length:=by rw[d.o];exact aj
   obtain⟨t,n⟩:∃t,C[k]?=some t:=⟨_,Qb ai⟩;obtain⟨y,U,F⟩:=L.o.all _ t n;obtain⟨V,W,rfl⟩:=Ab F;have m:=L.o.owns;rw[d.o]at m;obtain⟨g,aq,ar,Q,_,R,_⟩:=An m Yo;simp only[QH]at Q;obtain⟨rfl,_,rfl⟩:=Q;have ah:=Ac R
   have ap:wr.cell? ⟨g,k,none⟩=some (slice V t.length W):=(c.o.cell (p:=⟨g,k,none⟩) ah).trans (Af m _ _ U);have E:t∈(Aw ts []).1:=by rw[<-J.o];exact Qh n
   have D:=M.o.sym t E;have al:=M.o.txt t E;have I:=Yh (GY wr 0 (slice V t.length W) t (BI.ext F c.o) D.1 D.2 Yo);have S:C.take (k+1)=C.take k++[t]:=by rw[QU,n];rfl
   obtain⟨A,r⟩:=Ex (A3 t []);rw[<-r]at I al;have X:=Yh r;have ab:=Yh S;clear n U F m R E D S r;go_wp2_with fail;apply I.o.mono;rintro e w2 ⟨rfl,i⟩;have aw:=i.size;have Z:YH (Ao w1 w2):=c.o.trans (i.mono ak);have O:YH (w2.ownsRow w1.heap.size 9 1 (slice G k H) k (Ba ((C.take k).map (fun t=>A3 t [])))):=Aj q.o (fun j x=>i.block j (q.o.lt j x).2);clear i ap
   go_wp2_with (at_builtin;go_loud (refine Al w2 rfl (.tmp 13) (.tmp 16) 47 rfl w1.heap.size 9 infoStr underlying47 rfl Yd (slice G k H) k (Ba ((C.take k).map (fun t=>A3 t []))) rfl O.o #[string ⟨A.toArray⟩] (N:=w2.heap.size) rfl Ys rfl (OJ _) ?_ ?_ ?_))
   ·omega
   ·omega
   intro az w3 l;obtain⟨ae,af,rfl⟩:=Ab l.owns;have P:Ao w1 w3:=Z.o.trans (l.kept.below Yo (fun j x=>(O.o.lt j x).1));have T:w3.ownsRow w1.heap.size 9 1 (slice ae (k+1) af) (k+1) (Ba ((C.take (k+1)).map (fun t=>A3 t []))):=by
    have:=l.owns;rw[ab.o,Qr];simp only[Qx,QX,Ba,Qr];rw[<-X.o];rw[<-List.map_take]at this;exact this
   have aa:=Yh P;have ac:=Yh T;clear l P T;go_wp2
   go_roundg (ts.length-k)
   case measure=>omega
   case rel=>exact⟨k+1,Yg,Yo,Yo,aa.o,ac.o⟩
  ·have ag:k=ts.length:=Yo
   subst ag;go_wp2;go_ret;have B:=q.o;rw[<-d.o,QT]at B;rw[<-ad.o,d.o]at B;exact⟨Y.o.trans (c.o.mono am),G,H,rfl,AI B (Qm _)⟩
theorem FG(w:World)(nv S:Value)(names:At)(ts:Ll)(hn:w.ownsRow 0 9 1 nv names.length (Ba names))(h:AF w S ts)(j:WA ts)(hl:names.length=ts.length)(v:(DF [] names (Aw ts []).1).length<=100000000):
  Calls prog 70 #[nv,S] w fun e w'=>Ao w w'/\e=returned (string ⟨(if names=[]then[121,101,115]else DF [] names (Aw ts []).1).toArray⟩):=by
 obtain⟨na,ad,rfl⟩:=Ab hn;obtain⟨ta,ar,rfl⟩:=h.shape
 by_cases h0:names=[]
 ·subst h0;clear hn h j hl v;go_enter func70,ntmps70;go_wp2;go_ret;exact⟨Jc _ _,Ys⟩
 ·have ab:0<names.length:=List.length_pos_iff.2 h0;rw[QP h0];have m:=Yh (Nv w _ ts h j);have z:(Aw ts []).1.length=ts.length:=ET _ _;have ap:=j.len;obtain⟨C,r⟩:=Ex ((Aw ts []).1);have W:YH (GZ ts=C.map (fun t=>A3 t [])):=by show _=_;unfold GZ;rw[r]
  rw[<-r]at z v⊢;obtain⟨c,u⟩:=Ex (DF [] names C);rw[<-u]at v⊢;have T:=Yh u;have V:=Yh hn;have U:=Yh z;have af:((names.length:Int)==0)=false:=by rw[Qu];omega
  obtain⟨N,y⟩:=Ex names.length;rw[<-y]at af ab⊢;have ak:N<=1000:=Yo
  have l:ts.length=N:=Yo
  rw[l];have HN:=Yh y;have I:=Yh l;rw[l]at m;clear hn h j r u z hl h0 y l;go_enter func70,ntmps70;go_wp2_with fail;apply m.o.mono;rintro e w1 ⟨s,av,aw,rfl,f⟩;rw[I.o]at f⊢;rw[W.o]at f;have aq:=s.size;have G:=Yh s;have H:=Yh f;clear s f m;go_wp2
  go_loopg [5,14] (N+1) (fun gk ae ac wr=>∃(k:Nat)(a:Lu),ac=int i64 k/\k<=N/\N-k<gk/\ae=string ⟨a.toArray⟩/\a++DF (if k=0 then[]else[44]) (names.drop k) (C.drop k)=c/\wr=w1)
  case atStart=>exact⟨0,[],Yg,Qm _,Yo,rfl,by rw[T.o];rfl,rfl⟩
  case round=>
   obtain⟨k,a,rfl,am,al,rfl,b,rfl⟩:=hrel
   by_cases R:k<N
   ·have Q:k<names.length:=by rw[<-HN.o];exact R
    have P:k<C.length:=by rw[U.o,I.o];exact R
    obtain⟨x,F⟩:∃x,names[k]?=some x:=⟨_,Qb Q⟩;obtain⟨t,E⟩:∃t,C[k]?=some t:=⟨_,Qb P⟩;have K:names.drop k=x::names.drop (k+1):=by rw[QC Q,(Qa.1 F).2]
    have J:C.drop k=t::C.drop (k+1):=by rw[QC P,(Qa.1 E).2]
    rw[K,J,DF]at b;have D:w.ownsRow 0 9 1 (slice na N ad) N (Ba names):=by have:=V.o;rw[<-HN.o]at this;exact this
    obtain⟨g,ag,ai,L,_,O,_⟩:=An D Yo;simp only[QH]at L;obtain⟨rfl,_,rfl⟩:=L;have aa:=Ac O
    have au:wr.cell? ⟨g,k,none⟩=some (string ⟨x.toArray⟩):=(G.o.cell (p:=⟨g,k,none⟩) aa).trans (Af D _ _ (by simp[Ba,F]));obtain⟨X,ah,aj,M,_,Z,_⟩:=An H.o Yo;simp only[QH]at M;obtain⟨rfl,_,rfl⟩:=M;obtain⟨A,q⟩:=Ex (A3 t []);have ax:wr.cell? ⟨X,k,none⟩=some (string ⟨A.toArray⟩):=Af H.o _ _ (by simp[Ba,E,q]);rw[<-q]at b;have i:=H1 b;simp only[Qg,Qf]at i;have d:=Yh b;have ao:¬((N:Int)<=(k:Int)):=Yo
    clear b K J F E D O Z q
    by_cases B:k=0
    ·subst B;have n:YH (a++(x++[61]++A)++DF [44] (names.drop (0+1)) (C.drop (0+1))=c):=by show _=_;rw[<-d.o];simp
     simp only[QQ,Qt]at i;go_wp2
     go_roundg (N-0)
     case measure=>omega
     case rel=>
      refine⟨0+1,a++(x++[61]++A),Yg,Yo,Yo,?_,n.o,rfl⟩;show Value.string (_++(_++(⟨[61].toArray⟩:ByteArray)++_))=_;rw[AA,AA,AA]
    ·have n:YH (a++[44]++(x++[61]++A)++DF [44] (names.drop (k+1)) (C.drop (k+1))=c):=by show _=_;rw[<-d.o,QP B];simp
     rw[QP B]at i;simp only[Qf,Qt]at i;have an:(0:Int)<(k:Int):=Yo
     go_wp2
     go_roundg (N-k)
     case measure=>omega
     case rel=>
      refine⟨k+1,a++[44]++(x++[61]++A),Yg,Yo,Yo,?_,by rw[QP Yo];exact n.o,rfl⟩;show Value.string (_++(⟨[44].toArray⟩:ByteArray)++(_++(⟨[61].toArray⟩:ByteArray)++_))=_;rw[AA,AA,AA,AA]
   ·have Y:k=N:=Yo
    subst Y;have d:YH (a=c):=by
     show _=_;rw[QW (by rw[<-HN.o];exact Qe _)]at b;simpa[DF]using b
    clear b;go_wp2;go_ret;rw[<-d.o];exact⟨G.o,rfl⟩
end Go.Proofs.YtlmjilpjmgjjcaaGreatDoor
