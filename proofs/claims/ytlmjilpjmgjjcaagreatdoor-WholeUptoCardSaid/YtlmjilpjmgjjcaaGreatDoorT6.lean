/-
  PROVED HERE: what the reference's 'Explain' writes (the conditions stand in each statement).
-/
import Derived.Test.YtlmjilpjmgjjcaaGreatDoorT5
import Derived.Deep.CutRange
set_option linter.unusedSimpArgs false
set_option linter.unusedVariables false
set_option maxRecDepth 10000
set_option maxHeartbeats 4000000
namespace Go.Proofs.YtlmjilpjmgjjcaaGreatDoor
open Go.RowKit
open Tryz
variable{w w' w1 w2 w0 wr:World}{n k B b i p size cap M rb bW x:Nat}{v cv gv vv lv:Value}{xs ys vs:Lv}{X Y S:Np}{s:ByteArray}{t e:TypeId}{fr:Nat×Nat}{P:Program}{l:Ly}{ls ts:Ll}{ρ:Nat->Nat}{σ:Nat->Ly}{cs:Lc}{c:Dt}{a:Ll×At}{ds r:Ln}{st:RS}{L:Bj}{G:Gr}{A:List Lu}
attribute [local simp] XQ El Hq pa Ph.kd Ph.val Kd.val
def NF(v:Value):Prop:=∃a0 l0 c0 a1 l1 c1 a2 l2 c2 a3 l3 c3,∃v4:Int,v= .agg #[.slice a0 l0 c0,.slice a1 l1 c1,.slice a2 l2 c2,.slice a3 l3 c3,.int .i64 v4]
def XR(B:Nat)(m0 m1 m2 m3:Value):Prop:=∀k,Ak m0 k\/Ak m1 k\/Ak m2 k\/Ak m3 k->B<=k
theorem Vs(d:Nat)(h:d<=1000):IntKind.i64.wrap ((d:Int)+1)=(d:Int)+1:=by
 have e:IntKind.i64.bits=64:=rfl;rw[IntKind.wrap];simp[e];omega
theorem K1.shape{m:Ly}{r:Value}(h:K1 X l m w w' r):∃a q,r= .tuple #[a,Vi q]:=by
 rcases h with⟨rfl,_⟩|⟨rfl,_⟩|⟨a,L,xs,rfl,_⟩
 ·exact⟨_,_,rfl⟩
 ·exact⟨_,_,rfl⟩
 ·exact⟨_,_,rfl⟩
set_option maxHeartbeats 8000000 in
theorem WX(w:World)(X:Np)(jg hs jv hr jq:Value)(cs:Lc)(xs:Lv)(n:ND)(k:Nat)(c:Dt)(g:Ly×Nat)(gs:List (Ly×Nat))(ad:Gg X w jg cs xs)(cb:IR X w hs jv hr jq n)(ib:∀k,X k->k<w.hz)
    (ce:cs[k]?=some c) (fs:n.goals=g::gs) (mz:cs.length<=4000) (lv:n.goals.length<=40) (m1:n.done.length<=100) (no:n.used.length<=100) (nq:n.vals.length<=1000) (np:n.vars<=500000) (m0:c.n<=1000)
    (f3:∀g∈n.goals,g.1.length<=30) (f4:∀g∈n.done,g.1.length<=30) (f5:∀t∈n.vals,t.length<=30) (m5:c.head.length<=30) (hb:∀t∈c.body,t.length<=30) (mv:c.body.length<=100) (ir:∀s∈c.head,s.num<=1000) (ii:∀t∈c.body,∀s∈t,s.num<=1000) (iq:∀g∈n.goals,g.2<=1000):
    Calls prog 147 #[jg,.agg #[hs,jv,hr,jq,Vi n.vars],Vi k] w fun e w'=>∃(bb dx dy dz f8:Value)(q:Nat),e=Rq #[.agg #[bb,dx,dy,dz,f8],Vi q]/\NF (.agg #[bb,dx,dy,dz,f8])/\Ao w w'/\
      ((q=0/\Dg g.1 (ap (AX n.vars) c.head))\/(q=3/\Hp g.1 (ap (AX n.vars) c.head))\/
       (∃σ,I5 σ g.1 (ap (AX n.vars) c.head)/\(ap σ g.1).length<=30/\q=Cy (Au σ n c k g gs)/\f8=Vi (n.vars+c.n:Nat)/\IR X w' bb dx dy dz (Au σ n c k g gs)/\XR w.hz bb dx dy dz)):=by
  obtain⟨c8,C⟩:=cb.goals;obtain⟨n0,b4⟩:=cb.vals;obtain⟨e7,e9⟩:=cb.done;have fa:=cb.used;rw[fs]at C;obtain⟨z,ac,ms,rfl,m2,lr,ls⟩:=An C.owns Ys;obtain⟨va,ju,rfl⟩:=Ac b4.1;obtain⟨da,ho,rfl⟩:=Ac e9.owns;obtain⟨jo,jp,rfl⟩:=Ac fa;have m6:=(Qa.1 ce).1;obtain⟨la,nu,nv,rfl,m8,iu,na⟩:=An ad.owns Yo;obtain⟨a,b,d,mm,jz,ah,ai,aj,jx,jy,fv,fp⟩:=ad.all k c ce;obtain⟨gf,f9,e2,e4,e3,rfl,rfl,rfl⟩:=fv.shape;obtain⟨eu,c5,rfl⟩:=Ac fp.1;have bl:w.cell? ⟨la,k*5,none⟩=some (.string gf):=Ag ad.owns _ _ ah;have ak:w.cell? ⟨la,k*5+1,none⟩=some (Vi f9):=Ag ad.owns _ _ ai;have al:w.cell? ⟨la,k*5+2,none⟩=some (.slice e2 e4 e3):=Ag ad.owns _ _ aj;have gi:w.cell? ⟨la,k*5+3,none⟩=some (.slice eu c.body.length c5):=Ag ad.owns _ _ jx;have mg:w.cell? ⟨la,k*5+4,none⟩=some (Vi c.n):=Ag ad.owns _ _ jy;have m9:=Ab iu;have gz:=hd fv;have c2:=hd fp;have d7:=hd C;have gj:=hd b4;have j3:=hd e9;have gl:=hd fa;have c1:=hd ib;have br:=hd fs;have er:=hd f3;have g5:=hd f4;have k0:=hd f5;have eh:=hd hb;have g0:=hd ir;have gy:=hd ii;have kl:=hd iq;clear ad cb ce fs fv fp C b4 e9 fa ib f3 f4 f5 hb ir ii iq ah ai aj jx jy iu lr;simp only[Qf]at ls⊢;go_enter func147,ntmps147;go_wp2_with fail;obtain⟨ab,an⟩:∃ab,ab=(((w.alloc (.cells #[.slice (some ⟨z,0,none⟩) (gs.length+1) ac,.slice va n.vals.length ju,.slice da n.done.length ho,.slice jo n.used.length jp,Vi n.vars] 152)).alloc (.cells #[Nl,Nl,Nl,Nl,Vi 0] 152)).alloc
    (.cells #[.string gf,Vi f9,.slice e2 e4 e3,.slice eu c.body.length c5,Vi c.n] 185)):=⟨_,rfl⟩
  have hv:Ao w ab:=by rw[an];exact Mxt
  have nh:ab.hz=w.hz+3:=by rw[an];simp
  have ij:ab.heap[w.hz]?=some (.cells #[.slice (some ⟨z,0,none⟩) (gs.length+1) ac,.slice va n.vals.length ju,.slice da n.done.length ho,.slice jo n.used.length jp,Vi n.vars] 152 (0,0)):=by
    rw[an];exact Ah (Ah (QL w _) _) _
  have il:ab.heap[w.hz+1]?=some (.cells #[Nl,Nl,Nl,Nl,Vi 0] 152 (0,0)):=by
    rw[an];simpa using Ah (QL (w.alloc _) _) _
  have ih:ab.heap[w.hz+1+1]?=some (.cells #[.string gf,Vi f9,.slice e2 e4 e3,.slice eu c.body.length c5,Vi c.n] 185 (0,0)):=by
    rw[an];simpa using QL ((w.alloc _).alloc _) _
  rw[<-an];have d8:=hd hv;have ej:=hd ij;have el:=hd il;have gx:=hd ih;clear an hv ij il ih;refine(J8 c.head.length ab X _ _ _ c.head n.vars (Qe _) Yo (gz.o.ext d8.o (fun _ _ h=>h)) (fun k h=>by have:=c1.o k h;omega) Yo (fun s h=>by have:=g0.o s h;omega)).mono ?_;rintro e w1 ⟨mj,b1,mn,rfl,cc,fz⟩;obtain⟨jm,ji,g8,ha,g9,rfl,rfl,rfl⟩:=fz.shape;have f3:=cc.size;have R:Ao w w1:=d8.o.trans (cc.mono Yo);obtain⟨ck,d0,d1,d2,d3,d4⟩:=C5 ((cc.block _ Yo).trans ej.o);have M:=d7.o.ext (Y:=X) (B':=0) R (fun _ _ h=>h) (Qe _);obtain⟨k2,k4,cg,bz,b0,b2,b3,ag⟩:=M.all 0 g rfl;obtain⟨ge,ng,ez,e1,e0,rfl,rfl,rfl⟩:=ag.shape;have c7:w1.cell? ⟨z,0,none⟩=some (.string ge):=Ag M.owns _ _ bz;have a2:w1.cell? ⟨z,1,none⟩=some (Vi ng):=Ag M.owns _ _ b0;have a3:w1.cell? ⟨z,2,none⟩=some (.slice ez e1 e0):=Ag M.owns _ _ b2;have a4:w1.cell? ⟨z,3,none⟩=some (Vi g.2):=Ag M.owns _ _ b3;have bb:w.hz<w1.hz:=Yo
  have jh:z<w1.hz:=by
    have:=(M.owns.lt z rfl).2;exact this
  have lm:(ap (AX n.vars) c.head).length<=30:=by
    have:=Gv (σ:=AX n.vars) (k:=1) (Qe _) (fun n=>by simp[AX,vr]) c.head;omega
  have fu:g.1.length<=30:=er.o g (by rw[br.o];simp);have gu:=hd (fun u (l:Ao w1 u)=>WU u X _ _ _ _ _ _ g.1 (ap (AX n.vars) c.head) (ag.ext l (fun _ _ h=>h)) (fz.ext l (fun _ _ h=>h)) (fun k h=>by have:=c1.o k h;have:=l.size;omega) fu lm);have cv:=hd R;have bq:=hd cc;have c3:=hd ag;clear R cc M ag fz bz b0 b2 b3 bl ak al gi mg;go_wp2_with fail;refine Fp Yk [.pur (Pt w.hz),.pur (.slice (some ⟨z,0,none⟩) (gs.length+1) ac),.pur (Pt z),.pur (Pt z),.pur (.agg #[.string ge,Vi ng,.slice ez e1 e0]),.pur (.agg #[.string jm,Vi ji,.slice g8 ha g9]),
    .cal,.post (fun v=>v),.post (A7 0),.post (A7 1),.post (A7 0),.post (A7 1)] 6 12 Yk
    (fun v u=>Ao w1 u/\∃N,Ao w1 N/\Ao N u/\K1 X g.1 (ap (AX n.vars) c.head) N u v) (fun v u=>Ao w1 u/\∃N,Ao w1 N/\Ao N u/\K1 X g.1 (ap (AX n.vars) c.head) N u v) 181
    #[.agg #[.string ge,Vi ng,.slice ez e1 e0],.agg #[.string jm,Vi ji,.slice g8 ha g9]] ?_ ?_ rfl Yd (Or.inr ⟨Yd,fun _ _ h=>h⟩) ?_
  · apply(gu.o _ Mxt).mono
    rintro e u ⟨r,rfl,aq,dr⟩;refine⟨r,rfl,Below.trans Mxt (aq.mono (by simp[World.drew])),_,Mxt,aq,dr⟩
  · refine⟨fun vc=> ?_,fun vc=> ?_,fun vc=> ?_,fun vc=> ?_,fun vc=> ?_,fun vc=> ?_,fun vc=> ?_,?_,?_,?_,?_,?_,trivial⟩
    all_goals try(simp[pa,Kd.val,go_sem,ck,c7,a2,a3,bb,jh];done)
    all_goals
      intro vc u di;obtain⟨am,q,rfl⟩:∃am q,vc= .tuple #[am,Vi q]:=by
        rcases di with⟨_,N,_,_,dr⟩|⟨_,N,_,_,dr⟩<;>exact dr.shape
      simp[pa,Kd.val,go_sem,A7]
  rintro vc w2 ⟨a5,N,ll,lk,lq⟩;have Z:=hd a5;have f4:=a5.size;simp only[B4,pa,Kd.val,if_true,Act.put];have dn:=(a5.block (w.hz+1) Yo).trans ((bq.o.block _ Yo).trans el.o);obtain⟨cm,cn,co,cp,cq,cr⟩:=C5 dn;rcases lq with⟨rfl,i0⟩|⟨rfl,je⟩|⟨am,L,mf,rfl,f6,iy,l4,ix,m7⟩
  · have eo:=hd i0
    clear i0 a5 dn;simp only[A7];go_wp2;refine bodyPost_ret (v:= .tuple #[.agg #[Nl,Nl,Nl,Nl,Vi 0],Vi 0]) (by simp[results,results147,go_sem,cm,cn,co,cp,cq,cr]) rfl ?_;exact⟨_,_,_,_,_,0,rfl,⟨_,_,_,_,_,_,_,_,_,_,_,_,_,rfl⟩,(cv.o.trans (Z.o.mono Yo)).trans (Ad.below (S:=fun k=>w.hz<=k/\k<w.hz+3) Mst Yo (fun j h=>h.1)),Or.inl ⟨rfl,eo.o⟩⟩
  · have eo:=hd je
    clear je a5 dn;simp only[A7];go_wp2;refine bodyPost_ret (v:= .tuple #[.agg #[Nl,Nl,Nl,Nl,Vi 0],Vi 3]) (by simp[results,results147,go_sem,cm,cn,co,cp,cq,cr]) rfl ?_;exact⟨_,_,_,_,_,3,rfl,⟨_,_,_,_,_,_,_,_,_,_,_,_,_,rfl⟩,(cv.o.trans (Z.o.mono Yo)).trans (Ad.below (S:=fun k=>w.hz<=k/\k<w.hz+3) Mst Yo (fun j h=>h.1)),Or.inr (Or.inl ⟨rfl,eo.o⟩)⟩
  · obtain⟨e5,e6,rfl⟩:=Ac f6.owns
    have es:=hd (f6.ext (Y:=X) (B':=0) (Below.refl _ _) (fun _ h=>h) (Qm _));have kv:=hd iy;have ku:=hd ix;clear f6 iy ix a5 dn;have a0:=hd (cv.o.trans (Z.o.mono Yo):Ao w w2);have bp:=hd ((Z.o.block _ Yo).trans ((bq.o.block _ Yo).trans ej.o));have kh:=hd ((Z.o.block _ Yo).trans ((bq.o.block _ Yo).trans el.o));have ei:=hd ((Z.o.block _ Yo).trans ((bq.o.block _ Yo).trans gx.o));have ks:=hd ((Z.o.cell (p:=⟨z,3,none⟩) jh).trans a4);have mw:=c2.o.wf;have lp:g.2<=1000:=kl.o g (by rw[br.o];simp);clear cm cn co cp cq cr ck d0 d1 d2 d3 d4 c7 a2 a3 a4;simp only[A7];go_wp2
    go_loopg [12,13] (c.body.length+1) (fun gk mc i wr=>∃(j:Nat)(zs:Lv),i=Vi j/\j<=c.body.length/\c.body.length-j<gk/\Ao w2 wr/\Dq X wr w2.hz mc j ((c.body.take j).map (fun t=>(ap (AX n.vars) t,g.2+1))) zs)
    case atStart=>exact⟨0,[],Yg,Qm _,Yo,Below.refl _ _,Dq.nil _ _ _⟩
    case round=>
      obtain⟨j,zs,rfl,lw,lu,ar,f1⟩:=hrel;obtain⟨jk,jl,rfl⟩:=Ac f1.owns;have ja:=ar.size;obtain⟨av,bc,bd,be,aw,bf⟩:=C5 ((ar.block _ Yo).trans bp.o);obtain⟨ev,ew,ex,c6,ey,cf⟩:=C5 ((ar.block _ Yo).trans ei.o);have hj:wr.cell? ⟨z,3,none⟩=some (Vi g.2):=(ar.cell (p:=⟨z,3,none⟩) (by show z<_;omega)).trans ks.o;have az:=hd (a0.o.trans (ar.mono a0.o.size):Ao w wr);have em:=hd ar;have ep:=hd f1;clear ar f1
      by_cases dv:j<c.body.length
      · obtain⟨t,A⟩:∃t,c.body[j]?=some t:=⟨_,Qb dv⟩
        obtain⟨k1,k3,k5,ah,ai,aj,au⟩:=c2.o.2.2 j t A;obtain⟨ct,cj,bv,bx,bw,rfl,rfl,rfl⟩:=au.shape;have H:=c2.o.ext (Y:=X) az.o (fun _ _ h=>h);obtain⟨Q,ld,lh,cd,lj,ds,lo⟩:=An H.1 Yo;simp only[QH]at cd;obtain⟨rfl,_,rfl⟩:=cd;have bl:wr.cell? ⟨Q,j*3,none⟩=some (.string ct):=Ag H.1 _ _ ah;have ak:wr.cell? ⟨Q,j*3+1,none⟩=some (Vi cj):=Ag H.1 _ _ ai;have al:wr.cell? ⟨Q,j*3+2,none⟩=some (.slice bv bx bw):=Ag H.1 _ _ aj;have jd:=Qh A;have jc:=eh.o t jd;have eb:Hd (∀bu u,Ao wr.drew u->(∀k,bu k->wr.hz<=k/\k<u.hz)->Calls prog 180 #[.agg #[.string ct,Vi cj,.slice bv bx bw],Vi n.vars] u fun e gg=>∃r,e= .returned r/\Ao u gg/\RT X (ap (AX n.vars) t) bu r gg):=fun bu u l ic=>by
          have jf:Ao w u:=az.o.trans (l.undrew.mono az.o.size);refine(J8 t.length u (fun k=>X k\/bu k) _ _ _ t n.vars (Qe _) Yo (au.ext jf (fun k ce h=> ?_)) ?_ Yo (fun s h=>by have:=gy.o t jd s h;omega)).mono ?_
          · rcases h with h|h
            · exact h
            · have:=(ic k h).1;have:=az.o.size;omega
          · rintro k (h|h)
            · have:=c1.o k h;have:=jf.size;omega
            · exact(ic k h).2
          · rintro e gg ⟨a,b,c,rfl,aq,i4⟩
            exact⟨_,rfl,aq,RT.of i4⟩
        have et:Hd ((c.body.take (j+1)).map (fun t=>(ap (AX n.vars) t,g.2+1))=(c.body.take j).map (fun t=>(ap (AX n.vars) t,g.2+1))++[(ap (AX n.vars) t,g.2+1)]):=by
          show _=_;rw[List.take_add_one,A];simp
        have m3:=Ab ds;clear ds H au ah ai aj A;go_wp2_with fail;refine DM Yk [.pur (.pointer (some ⟨w.hz+1+1,3,none⟩)),.pur (.slice (some ⟨Q,0,none⟩) c.body.length c5),.pur (Vi j),.pur (.pointer (some ⟨Q,j*3,none⟩)),.pur (.agg #[.string ct,Vi cj,.slice bv bx bw]),.pur (.pointer (some ⟨w.hz,4,none⟩)),.pur (Vi n.vars),
          .cal,.alo 183 #[.string ⟨#[]⟩,Vi 0,Nl] 9 cellsOf,.sto 8] 7 Yk (RT X (ap (AX n.vars) t)) 180 _ RT.stable eb.o ?_ rfl Yd ?_
        · refine⟨fun vc β u l=> ?_,fun vc β u l=> ?_,fun vc β u l=> ?_,fun vc β u l=> ?_,fun vc β u l=> ?_,fun vc β u l=> ?_,fun vc β u l=> ?_,fun vc β u=> ?_,fun vc β u=> ?_,?_,trivial⟩
          all_goals try(simp[pa,Kd.val,go_sem,l.up c6,l.up bl,l.up ak,l.up al,l.up aw,dv];done)
          all_goals try(simp[pa,Kd.val,go_sem];done)
          rintro vc β bu u t n1 s cs aq ⟨s2,l9,k6,k8,k7,rfl,i4⟩ hb;simp at aq;obtain⟨rfl,rfl,rfl,rfl⟩:=aq;obtain⟨q0,bg,bh,cl⟩:=BB hb;refine⟨_,?_,GP hb (.string s2) (Vi l9) (.slice k6 k8 k7)⟩;simp[pa,Kd.val,go_sem,q0,bg,bh,cl]
        rintro vc β w3 af ⟨jn,jj,hc,hf,he,rfl,i6⟩ ik _;have af:=af.undrew;have f5:=af.size;obtain⟨mu,im⟩:=ik 8 _ _ _ _ rfl;obtain⟨q0,bg,bh,_⟩:=BB im;have mq:w3.cell? ⟨w.hz,0,none⟩=some (.slice (some ⟨z,0,none⟩) (gs.length+1) ac):=(af.cell (p:=⟨w.hz,0,none⟩) (by show w.hz<_;omega)).trans av;have mr:w3.cell? ⟨z,3,none⟩=some (Vi g.2):=(af.cell (p:=⟨z,3,none⟩) (by show z<_;omega)).trans hj;have eq:=hd (ep.o.ext (Y:=X) (B':=w2.hz) (w':=w3.drewN 1) (af.trans ⟨rfl,rfl,rfl,Qe _,fun _ _=>rfl⟩) (fun _ _ h=>h) (Qe _));have kx:Hd (CH X (w3.drewN 1) (.string jn) (Vi jj) (.slice hc hf he) (ap (AX n.vars) t)):=i6.on (fun k ce hn _=>⟨rfl,fun h=>hn (Or.inl h)⟩);have km:=hd af;clear af ik im i6 av bc bd be aw bf ev ew ex c6 ey cf hj bl ak al;simp only[B4,pa,Kd.val,if_true,Act.put];go_wp2_with fail;have ns:=Vs g.2 lp
        go_region_law (refine BC (w3.drewN 1) rfl (.tmp 58) (.tmp 67) 150 rfl w2.hz 200 infoGoal underlying150 rfl Yd (.slice jk j jl) j zs rfl eq.o.owns #[.string jn,Vi jj,.slice hc hf he,Vi ((g.2:Int)+1)] rfl Ys rfl Jj Yo Yp rfl ?_;intro jr w4 G;obtain⟨js,jt,rfl⟩:=Ac G.owns;have a1:=hd G;clear G)
        all_goals
          go_wp2
          go_roundg (c.body.length-j)
          case measure=>omega
          case rel=>
            have jb:=eq.o.step (d:=g.2+1) kx.o (by simpa using a1.o);rw[<-et.o]at jb;refine⟨j+1,_,Yg,Yo,Yo,?_,jb⟩;have C:Below w2.hz w2 w3:=em.o.trans (km.o.mono ja);exact(C.trans (⟨rfl,rfl,rfl,Qe _,fun _ _=>rfl⟩:Below w2.hz w3 (w3.drewN 1))).trans (a1.o.kept.below (by show w2.hz<=w3.hz;omega) (fun k e=>(eq.o.owns.lt k e).1))
      · have fr:j=c.body.length:=Yo
        subst fr;have f2:=ep.o;rw[List.take_length]at f2;have ht:=d7.o.ext (Y:=X) (B':=0) az.o (fun _ _ h=>h) (Qe _);have hw:Ao w2 wr:=em.o;have my:1<=ac:=Yo
        have m4:gs.length<=39:=by have:=lv;rw[br.o]at this;simpa using this
        have bs:=hd f2;have cu:=hd ht;clear f2 ht
        go_upto_region 12 with fail
        go_cut [12] from 43 (fun v wc=>∃ga gb,v= .slice ga (c.body.length+gs.length) gb/\Ar wr w2.hz 200 4 (.slice jk c.body.length jl) (c.body.length+gs.length) (zs++c8.drop 4) v wc)
        case first=>
          by_cases ln:ac=1
          · subst ln
            have ft:gs.length=0:=Yo
            have di:Jn wr 4 (.slice (some ⟨z,0,none⟩) 0 0) gs.length (c8.drop 4):=by
              have A:=cu.o.ins.tail;refine⟨A.len,A.one,Or.inr ⟨⟨z,0,none⟩,0,by rw[ft],fun j u l=> ?_⟩⟩;have ly:=A.len;rw[ft]at ly;have:=(Qa.1 l).1;omega
            have ee:=hd di;clear di ft
            go_wp2_with (at_builtin;refine BT _ rfl (.tmp 69) (.tmp 72) 150 rfl w2.hz 200 infoGoal underlying150 rfl Yd _ c.body.length zs rfl bs.o.owns _ gs.length (c8.drop 4) rfl ee.o ?_ ?_ ?_)
            · omega
            · omega
            intro jr w3 G;obtain⟨js,jt,rfl⟩:=Ac G.owns;have a1:=hd G;clear G;go_wp2_with fail
            go_meet
            case rel=>exact⟨_,_,rfl,a1.o⟩
          · have ee:=hd (Ra cu.o (ac-1))
            have mx:¬(ac-1=0):=Yo
            go_wp2_with (at_builtin;refine BT _ rfl (.tmp 69) (.tmp 72) 150 rfl w2.hz 200 infoGoal underlying150 rfl Yd _ c.body.length zs rfl bs.o.owns _ gs.length (c8.drop 4) rfl ee.o ?_ ?_ ?_)
            · omega
            · omega
            intro jr w3 G;obtain⟨js,jt,rfl⟩:=Ac G.owns;have a1:=hd G;clear G;go_wp2_with fail
            go_meet
            case rel=>exact⟨_,_,rfl,a1.o⟩
        case rest=>
          obtain⟨ga,gb,rfl,fn⟩:=hcut;have M:=bs.o.more cu.o.ins.tail fn rfl;have R:Ao w2 wc:=hw.trans (fn.kept.below ja (fun k e=>(bs.o.owns.lt k e).1));have i9:=R.size;have fe:Ao w wc:=a0.o.trans (R.mono a0.o.size);have dq:=j3.o.ext (Y:=X) (B':=0) fe (fun _ _ h=>h) (Qe _);have kd:=hd (Gf dq.owns dq.ins.one);obtain⟨av,bc,bd,be,aw,bf⟩:=C5 ((R.block _ Yo).trans bp.o);have kz:=hd M;have gp:=hd R;have cx:=hd fe;have kk:=hd dq;have l5:=a0.o.size;clear M R fe dq fn gu ll lk Z bq cv c3 gz c2 bs cu ep em az hw ej el gx d8 g0 gy
          go_wp2_with (at_builtin;refine BT _ rfl (.tmp 74) (.tmp 76) 150 rfl wc.hz 200 infoGoal underlying150 rfl Yd _ 0 [] rfl (Q2 _ _ _ _) _ n.done.length e7 rfl kd.o ?_ ?_ ?_)
          · omega
          · omega
          intro nw V a9
          try simp only[Nat.zero_add,Qz]at a9
          obtain⟨hk,hp,rfl⟩:=Ac a9.owns;have i7:Dq X V wc.hz (.slice hk n.done.length hp) n.done.length n.done e7:=by
            have:=(Dq.nil X wc wc.hz).more (m:=n.done.length) (cv':= .slice hk n.done.length hp) (w':=V) kk.o.ins (by simpa using a9) rfl;simpa using this
          have b5:Ao wc V:=a9.kept.below (Qe _) (fun k e=>by simp[Ak,Value.ownBlock]at e);have lz:=b5.size;have h2:Ao w V:=cx.o.trans (b5.mono cx.o.size);have hx:Ao w2 V:=gp.o.trans (b5.mono i9);obtain⟨av,bc,bd,be,aw,bf⟩:=C5 ((hx.block _ Yo).trans bp.o);have ba:=d7.o.ext (Y:=X) (B':=0) h2 (fun _ _ h=>h) (Qe _);obtain⟨k2,k4,cg,bz,b0,b2,b3,ag⟩:=ba.all 0 g rfl;obtain⟨me,mb,le,lg,lf,rfl,rfl,rfl⟩:=ag.shape;have c7:V.cell? ⟨z,0,none⟩=some (.string me):=Ag ba.owns _ _ bz;have a2:V.cell? ⟨z,1,none⟩=some (Vi mb):=Ag ba.owns _ _ b0;have a3:V.cell? ⟨z,2,none⟩=some (.slice le lg lf):=Ag ba.owns _ _ b2;have a4:V.cell? ⟨z,3,none⟩=some (Vi g.2):=Ag ba.owns _ _ b3;have g3:=hd i7;have gq:=hd b5;have c3:=hd ag;have eg:=hd a9.owns;clear i7 b5 ag ba a9 bz b0 b2 b3 h2 hx
          go_wp2_with (at_builtin;refine Am _ rfl (.tmp 78) (.tmp 83) 150 rfl wc.hz 200 infoGoal underlying150 rfl Yd _ n.done.length e7 rfl eg.o _ rfl Ys rfl Jj ?_ ?_ ?_)
          · omega
          · omega
          intro nx f dl;obtain⟨hm,hq,rfl⟩:=Ac dl.owns;have i8:Dq X f wc.hz (.slice hm (n.done.length+1) hq) (n.done.length+1) (n.done++[g]) _:=g3.o.step (d:=g.2) c3.o dl;have a7:Ao wc f:=gq.o.trans (dl.kept.below lz (fun k e=>(eg.o.lt k e).1));have l0:=a7.size;have a6:Ao w2 f:=gp.o.trans (a7.mono i9);have h3:Ao w f:=cx.o.trans (a7.mono cx.o.size);have dk:∀k,X k->k<f.hz:=fun k h=>by have:=c1.o k h;omega
          have fw:(c.body.map (fun t=>(ap (AX n.vars) t,g.2+1))++gs).length=c.body.length+gs.length:=Ys
          have dm:∀(t:Ly)(k:Nat),t.length<=30->(ap (Fj (L.take k)) t).length<=4000:=fun t k A=>by
            have:=Gv (σ:=Fj (L.take k)) (k:=30) Yo (fun n=>ku.o.2 k n) t;omega
          have g6:=hd (fun u (l:Ao w2 u)=>es.o.ext (Y:=X) (B':=0) l (fun _ h=>h) (Qe _));have ig:∀k,∀x∈(c.body.map (fun t=>(ap (AX n.vars) t,g.2+1))++gs),(ap (Fj (L.take k)) x.1).length<=4000:=fun k x B=>by
            refine dm x.1 k ?_;rcases Qk.1 B with B|B
            · obtain⟨t,A,rfl⟩:=Q0.1 B
              have C:=eh.o t A;have b4:=Gv (σ:=AX n.vars) (k:=1) (Qe _) (fun n=>by simp[AX,vr]) t;show(ap (AX n.vars) t).length<=30;omega
            · exact er.o x (by rw[br.o];simp[B])
          have ie:∀k,∀x∈(n.done++[g]),(ap (Fj (L.take k)) x.1).length<=4000:=fun k x B=>by
            refine dm x.1 k ?_;rcases Qk.1 B with B|B
            · exact g5.o x B
            · simp at B;subst B;exact fu
          have gm:=hd (fun u (l:Ao f u)=>JX u X w2.hz 0 (.slice ga (c.body.length+gs.length) gb) (.slice e5 L.length e6) (c.body.map (fun t=>(ap (AX n.vars) t,g.2+1))++gs) L _ _
            (by rw[fw];exact kz.o.ext (Y:=X) (B':=w2.hz) (a7.trans (l.mono l0)) (fun _ _ h=>h) (Qe _)) (g6.o u (a6.trans (l.mono a6.size))) (fun k h=>by have:=dk k h;have:=l.size;omega) ig Yo (by rw[fw];omega))
          have gn:=hd (fun u (l:Ao f u)=>JX u X wc.hz 0 (.slice hm (n.done.length+1) hq) (.slice e5 L.length e6) (n.done++[g]) L _ _
            (by have hl:(n.done++[g]).length=n.done.length+1:=Ys
                rw[hl];exact i8.ext (Y:=X) (B':=wc.hz) l (fun _ _ h=>h) (Qe _)) (g6.o u (a6.trans (l.mono a6.size))) (fun k h=>by have:=dk k h;have:=l.size;omega) ie Yo Yp)
          have mh:=hd a7;have d9:=hd a6;have bn:=hd h3;have ef:=hd dk;have ek:=hd dm;clear i8 a7 a6 h3 dl g3 gq c3 eg dk ig ie dm c7 a2 a3 a4;go_wp2_with fail;apply(gm.o _ Mxt).mono;rintro e ax ⟨mt,j1,rfl,db,ch⟩;rw[fw]at ch;obtain⟨I,J,rfl⟩:=Ac ch.owns;have l1:=db.size;simp at l1;have ko:Hd (∀i,Ak (.slice I (c.body.length+gs.length) J) i->w.hz<=i):=fun i e=>by have C:=(ch.owns.lt i e).1;simp at C;have:=bn.o.size;omega
          have fj:ax.heap[f.hz]?=some (.cells #[Nl,Nl,Nl,Nl,Vi 0] 152 (0,0)):=(db.block _ Ys).trans (QL f _);obtain⟨ck,d0,d1,d2,d3,d4⟩:=C5 fj;have hy:Ao f ax:=(Mxt:Ao f (f.alloc _)).trans (db.mono Ys);have ec:=hd fj;have gr:=hd hy;have g4:=hd ch;have nd:f.hz<ax.hz:=Yo
          clear fj hy ch db av bc bd be aw bf;go_wp2_with fail;refine(gn.o _ (gr.o.trans (Ad.below (S:=fun k=>k=f.hz) ((Ad.refl (only f.hz) ax).put 0 _) Yo (fun j h=>by omega)))).mono ?_;rintro e W ⟨mp,j2,rfl,b6,ci⟩;have lx:(n.done++[g]).length=n.done.length+1:=Ys
          rw[lx]at ci;obtain⟨D,E,rfl⟩:=Ac ci.owns;have l2:=b6.size;simp at l2;have kn:Hd (∀i,Ak (.slice D (n.done.length+1) E) i->w.hz<=i):=fun i e=>by have C:=(ci.owns.lt i e).1;simp at C;have:=bn.o.size;omega
          have fh:Ad (fun k=>k=f.hz) ax (ax.setCell ⟨f.hz,0,none⟩ (.slice I (c.body.length+gs.length) J)):=(Ad.refl (only f.hz) ax).put 0 _;have ca:W.heap[f.hz]?=some (.cells #[.slice I (c.body.length+gs.length) J,Nl,Nl,Nl,Vi 0] 152 (0,0)):=(b6.block _ Yp).trans (Af ec.o 0 _);have h5:=(g4.o.box ec.o Yd Yd fh).ext (Y:=X) (B':=0) b6 (fun _ _ h=>h) (Qm _);have h0:Ao f W:=(gr.o.trans (fh.below Yo (fun j h=>by omega))).trans (b6.mono Yp);obtain⟨ck,d0,d1,d2,d3,d4⟩:=C5 ca;have ne:f.hz<W.hz:=Yo
          have dd:Ad (fun k=>k=f.hz) W (W.setCell ⟨f.hz,2,none⟩ (.slice D (n.done.length+1) E)):=(Ad.refl (only f.hz) W).put 2 _;have fg:=h5.box ca Yd Yd dd;have fb:=(ci.box ca Yd Yd dd).ext (Y:=X) (B':=0) (Below.refl _ _) (fun _ _ h=>h) (Qm _);have dg:(W.setCell ⟨f.hz,2,none⟩ (.slice D (n.done.length+1) E)).heap[f.hz]?=some (.cells #[.slice I (c.body.length+gs.length) J,Nl,.slice D (n.done.length+1) E,Nl,Vi 0] 152 (0,0)):=Af ca 2 _;have c9:Ao f (W.setCell ⟨f.hz,2,none⟩ (.slice D (n.done.length+1) E)):=h0.trans (dd.below Yo (fun j h=>by omega));generalize h9:W.setCell ⟨f.hz,2,none⟩ (.slice D (n.done.length+1) E)=U at fg fb dg c9;have l3:=c9.size;have nf:=Ab dg;have j8:=hd fg;have j4:=hd fb;have ed:=hd dg;have j6:=hd c9;have kf:=hd h9;clear ca h5 h0 fh dd fg fb dg c9 b6 ci h9 ec g4 gm gn;go_wp2_with fail
          go_loopg [17] (n.vals.length+1) (fun gk i wr=>∃(k:Nat)(am:Value)(jz:Lv),i=Vi k/\k<=n.vals.length/\n.vals.length-k<gk/\Ad (fun j=>j=f.hz) U wr/\
            wr.heap[f.hz]?=some (.cells #[.slice I (c.body.length+gs.length) J,am,.slice D (n.done.length+1) E,Nl,Vi 0] 152 (0,0))/\
            OM (fun j=>X j\/j=f.hz) wr U.hz am k ((n.vals.take k).map (ap (Fj L))) jz)
          case atStart=>
            rw[kf.o];exact⟨0,Nl,[],Yg,Qm _,Yo,Ad.refl _ _,ed.o,by simpa using OM.nil _ _ _⟩
          case round=>
            obtain⟨j,am,j0,rfl,lw,lu,du,df,ae⟩:=hrel;obtain⟨O,P,rfl⟩:=Ac ae.owns;have nn:=du.size;have fd:Ao f wr:=j6.o.trans (du.below l3 (fun i e=>by omega));have h4:Ao w wr:=bn.o.trans (fd.mono bn.o.size);have fc:Ao w2 wr:=d9.o.trans (fd.mono d9.o.size);obtain⟨av,bc,bd,be,aw,bf⟩:=C5 ((fc.block _ Yo).trans bp.o);obtain⟨ck,d0,d1,d2,d3,d4⟩:=C5 df;have iz:=Ab df;have nr:=d9.o.size;have nt:=bn.o.size;have en:=hd du;have HM:=hd df;have aa:=hd ae;have bm:=hd fc;have cy:=hd h4;clear du df ae fd h4 fc
            by_cases dv:j<n.vals.length
            · obtain⟨t,A⟩:∃t,n.vals[j]?=some t:=⟨_,Qb dv⟩
              obtain⟨k1,k3,k5,ah,ai,aj,au⟩:=gj.o.2.2 j t A;obtain⟨ct,cj,bv,bx,bw,rfl,rfl,rfl⟩:=au.shape;have H:=gj.o.ext (Y:=X) cy.o (fun _ _ h=>h);obtain⟨Q,ld,lh,cd,lj,ds,lo⟩:=An H.1 Yo;simp only[QH]at cd;obtain⟨rfl,_,rfl⟩:=cd;have bl:wr.cell? ⟨Q,j*3,none⟩=some (.string ct):=Ag H.1 _ _ ah;have ak:wr.cell? ⟨Q,j*3+1,none⟩=some (Vi cj):=Ag H.1 _ _ ai;have al:wr.cell? ⟨Q,j*3+2,none⟩=some (.slice bv bx bw):=Ag H.1 _ _ aj;have jc:=k0.o t (Qh A);have i1:∀i,Ak (.slice O j P) i->U.hz<=i:=fun i e=>(aa.o.owns.lt i e).1;have eb:=hd (P1 wr (fun i=>(X i\/i=f.hz)\/Ak (.slice O j P) i) 0 (.slice e5 L.length e6) L mf _ _ _ t
                (au.on (fun i hi hn _=>⟨cy.o.block i hi,fun h=>by
                  rcases h with(h|h)|h
                  · exact hn h
                  · omega
                  · have:=i1 i h;omega⟩))
                (es.o.on (fun i hi=>bm.o.block i (es.o.owns.lt i hi).2) (fun i hi hn _=>⟨bm.o.block i hi,fun h=>by
                  rcases h with(h|h)|h
                  · exact hn h
                  · omega
                  · have:=i1 i h;omega⟩))
                (fun i h=>by
                  rcases h with(h|h)|h
                  · have:=ef.o i h;omega
                  · omega
                  · exact(aa.o.owns.lt i h).2)
                (fun q=>ek.o t q jc) Yo)
              have et:Hd ((n.vals.take (j+1)).map (ap (Fj L))=(n.vals.take j).map (ap (Fj L))++[ap (Fj L) t]):=by
                show _=_;rw[List.take_add_one,A];simp
              clear ds H au ah ai aj A;go_wp2_with fail;apply eb.o.mono;rintro e w7 ⟨mk,ml,mo,rfl,b7,f0⟩;obtain⟨md,ma,k9,lc,lb,rfl,rfl,rfl⟩:=f0.shape;have ni:=b7.size;have fk:=(b7.block _ iz).trans HM.o;have i2:=(Ad.of_below b7).owns aa.o.owns (fun i hi e=>by have:=(aa.o.owns.lt i hi).2;omega);have e8:w7.cell? ⟨f.hz,1,none⟩=some (.slice O j P):=Aa fk 1 _ rfl;have nb:f.hz<w7.hz:=Yo
              have g1:=hd i2;have ea:=hd b7;have ky:=hd f0;have kb:=hd fk;clear i2 b7 f0 fk bl ak al
              go_wp2_with (at_builtin;refine Am _ rfl (.tmp 108) (.tmp 110) 146 rfl U.hz 183 infoTerm underlying146 rfl Yd _ j j0 rfl (g1.o.alloc _) _ rfl Ys rfl Gw ?_ ?_ ?_)
              · omega
              · simp;omega
              intro cv' jw K;obtain⟨hg,hh,rfl⟩:=Ac K.owns;have T:=(K.kept.block _ Yp (fun e=>by have:=(g1.o.lt _ e).1;omega)).trans (Ah kb.o _);obtain⟨q0,bg,bh,gc,gd,cl⟩:=C5 T;have bo:=hd T;have gw:=hd K;clear T K e8;go_wp2
              go_roundg (n.vals.length-j)
              case measure=>omega
              case rel=>
                obtain⟨id,_⟩:=aa.o.step (w4:=jw.setCell ⟨f.hz,1,none⟩ (.slice hg (j+1) hh)) (ea.o.alloc ea.o.size _) (ky.o.ext Mxt (fun _ _ h=>h)) gw.o
                  (Ad.setCell (Ad.refl _ jw) (p:=⟨f.hz,1,none⟩) (fun _=>Or.inr rfl) _) (fun i h=>by
                    rcases h with h|h
                    · have:=ef.o i h;omega
                    · omega)
                rw[<-et.o]at id;have l6:Ad (fun i=>i=f.hz\/U.hz<=i) wr (w7.alloc (.cells #[.string md,Vi ma,.slice k9 lc lb] 183)):=((Ad.of_below ea.o).alloc _).mono (fun i hi h=>by omega);have l7:=l6.then gw.o.kept (fun i hi e=>Or.inr (aa.o.owns.lt i e).1)
                have l8:=l7.setCell (p:=⟨f.hz,1,none⟩) (fun _=>Or.inl rfl) (.slice hg (j+1) hh);exact⟨j+1,_,_,Yg,Yo,Yo,en.o.then l8 (fun i hi h=>by omega),Af bo.o 1 _,id⟩
            · have fr:j=n.vals.length:=Yo
              subst fr;have ae:=aa.o;rw[List.take_length]at ae;have kr:Hd (∀i,Ak (.slice O n.vals.length P) i->w.hz<=i):=fun i e=>by have C:=(ae.owns.lt i e).1;omega
              have ia:=ae.row (X:=X) (Ad.refl _ _) (fun i h=>Or.inl h) (fun i h=>by
                rcases h with h|h
                · have:=ef.o i h;omega
                · omega)
              have h6:=j8.o.box ed.o Yd Yd en.o;have hu:=j4.o.box ed.o Yd Yd en.o;have fm:=Aj gl.o (fun i hi=>cy.o.block i (gl.o.lt i hi).2);have ke:=hd (Gf fm (fun u l=>by
                simp only[AM,Q0]at l;obtain⟨x,_,rfl⟩:=l;rfl))
              obtain⟨ev,ew,ex,c6,ey,cf⟩:=C5 ((bm.o.block _ Yo).trans ei.o);have kg:=hd ia;have j9:=hd h6;have j5:=hd hu;have mi:=hd fm;clear ae ia h6 hu fm aa
              go_wp2_with (at_builtin;refine BT _ rfl (.tmp 114) (.tmp 116) 25 rfl wr.hz 3 infoInt underlying25 rfl Yd _ 0 [] rfl (Q2 _ _ _ _) _ n.used.length (AM n.used) rfl ke.o ?_ ?_ ?_)
              · omega
              · omega
              intro ny bi K
              try simp only[Nat.zero_add,Qz]at K
              obtain⟨d5,d6,rfl⟩:=Ac K.owns;have dc:Ao wr bi:=K.kept.below (Qe _) (fun i e=>by simp[Ak,Value.ownBlock]at e);have T:=(dc.block _ iz).trans HM.o;have b9:Ad (fun i=>i=f.hz) bi (bi.setCell ⟨f.hz,3,none⟩ (.slice d5 n.used.length d6)):=(Ad.refl (only f.hz) bi).put 3 _;have i3:=By K.owns T Yd b9;obtain⟨q0,bg,bh,gc,gd,cl⟩:=C5 T;have nj:=dc.size;have nc:f.hz<bi.hz:=Yo
              obtain⟨bt,dj⟩:=Ex (bi.setCell ⟨f.hz,3,none⟩ (.slice d5 n.used.length d6));have h8:bt.heap[f.hz]?=some (.cells #[.slice I (c.body.length+gs.length) J,.slice O n.vals.length P,.slice D (n.done.length+1) E,.slice d5 n.used.length d6,Vi 0] 152 (0,0)):=by rw[dj];exact Af T 3 _
              rw[<-dj]at b9;have cw:=hd dc;have bo:=hd T;have cz:=hd b9;have c4:=hd i3;have kc:=hd h8;have c0:=hd dj;have nm:=b9.size;clear K dc T b9 i3 h8 dj
              go_wp2_with (at_builtin;refine Am _ rfl (.tmp 120) (.tmp 122) 25 rfl wr.hz 3 infoInt underlying25 rfl Yd _ n.used.length (AM n.used) rfl c4.o _ rfl Ys rfl (DT _) ?_ ?_ ?_)
              · omega
              · simp;omega
              rw[<-c0.o];intro nz ay ao;obtain⟨bj,bk,rfl⟩:=Ac ao.owns;have dt:Ad (fun i=>wr.hz<=i) bt ay:=ao.kept.mono (fun i _ e=>by have:=c4.o;rw[<-c0.o]at this;exact(this.lt i e).1);have dh:=(dt.block _ Yo Yo).trans kc.o;obtain⟨q0,bg,bh,gc,gd,cl⟩:=C5 dh;have nk:=dt.size;have b8:Ao w2 ay:=((bm.o.trans (cw.o.mono bm.o.size)).trans (cz.o.below Yo (fun i e=>by omega))).trans (dt.below Yo (fun i e=>by omega));obtain⟨av,bc,bd,be,aw,bf⟩:=C5 ((b8.block _ Yo).trans bp.o);obtain⟨ev,ew,ex,c6,ey,cf⟩:=C5 ((b8.block _ Yo).trans ei.o);have fx:=(b8.block _ (show w.hz+1<w2.hz by omega)).trans kh.o;have fo:=ao.owns;have kp:Hd (∀i,Ak (.slice bj (n.used.length+1) bk) i->w.hz<=i):=fun i e=>by have C:=(fo.lt i e).1;have:=cy.o.size;omega
              have dp:IR X bt (.slice I (c.body.length+gs.length) J) (.slice O n.vals.length P) (.slice D (n.done.length+1) E) (.slice d5 n.used.length d6) {Au (Fj L) n c k g gs with used:=n.used}:=by
                have e8:(Au (Fj L) n c k g gs).goals.length=c.body.length+gs.length:=by simp[Au,Fo]
                have li:(Au (Fj L) n c k g gs).done.length=n.done.length+1:=by simp[Au,Fo]
                refine⟨⟨j1,?_⟩,⟨j0,?_⟩,⟨j2,?_⟩,?_⟩
                · show Dq X bt 0 _ (Au (Fj L) n c k g gs).goals.length _ j1
                  rw[e8];exact(j9.o.ext (Y:=X) (B':=0) cw.o (fun _ _ h=>h) (Qe _)).box bo.o Yd Yd cz.o
                · exact(kg.o.ext (Y:=X) cw.o (fun _ _ h=>h)).box bo.o Yd cz.o
                · show Dq X bt 0 _ (Au (Fj L) n c k g gs).done.length _ j2
                  rw[li];exact(j5.o.ext (Y:=X) (B':=0) cw.o (fun _ _ h=>h) (Qe _)).box bo.o Yd Yd cz.o
                · have:=c4.o
                  rw[<-c0.o]at this;exact AI this (Qm _)
              have ip:IR X ay (.slice I (c.body.length+gs.length) J) (.slice O n.vals.length P) (.slice D (n.done.length+1) E) (.slice bj (n.used.length+1) bk) (Au (Fj L) n c k g gs):=by
                have dw:=c4.o;rw[<-c0.o]at dw;obtain⟨ak,a2⟩:=dp.goals;obtain⟨al,a3⟩:=dp.vals;obtain⟨gi,a4⟩:=dp.done;refine⟨⟨ak,a2.aside dw Yd Yd ao.kept⟩,⟨al,a3.aside dw Yd ao.kept⟩,⟨gi,a4.aside dw Yd Yd ao.kept⟩,?_⟩;have:=AI fo (Qm _);simpa[Au,AM]using this
              have de:Ad (fun i=>i=f.hz) ay ((ay.setCell ⟨f.hz,3,none⟩ (.slice bj (n.used.length+1) bk)).setCell ⟨f.hz,4,none⟩ (Vi (Au (Fj L) n c k g gs).vars)):=((Ad.refl (only f.hz) ay).put 3 _).put 4 _;have fq:=ip.box dh Yd Yd Yd de;have h7:((ay.setCell ⟨f.hz,3,none⟩ (.slice bj (n.used.length+1) bk)).setCell ⟨f.hz,4,none⟩ (Vi (Au (Fj L) n c k g gs).vars)).heap[f.hz]?=some (.cells #[.slice I (c.body.length+gs.length) J,.slice O n.vals.length P,.slice D (n.done.length+1) E,.slice bj (n.used.length+1) bk,Vi (Au (Fj L) n c k g gs).vars] 152 (0,0)):=Af (Af dh 3 _) 4 _;have i5:=(de.block _ (Ab fx) Yo).trans fx;have h1:=(b8.trans (de.below Yo (fun i e=>by omega)));have iv:∀x∈(Au (Fj L) n c k g gs).goals,x.1.length<=4000:=fun x B=>by
                simp only[Au,Fo,Q0]at B;obtain⟨y,F,rfl⟩:=B;show(ap (Fj L) y.1).length<=4000;have hb:=ek.o y.1 L.length (by
                  rcases Qk.1 F with F|F
                  · obtain⟨t,A,rfl⟩:=Q0.1 F
                    have C:=eh.o t A;have b4:=Gv (σ:=AX n.vars) (k:=1) (Qe _) (fun n=>by simp[AX,vr]) t;show(ap (AX n.vars) t).length<=30;omega
                  · exact er.o y (by rw[br.o];simp[F]))
                rw[List.take_length]at hb;exact hb
              have iw:∀x∈(Au (Fj L) n c k g gs).done,x.1.length<=4000:=fun x B=>by
                simp only[Au,Fo,Q0]at B;obtain⟨y,F,rfl⟩:=B;show(ap (Fj L) y.1).length<=4000;have hb:=ek.o y.1 L.length (by
                  rcases Qk.1 F with F|F
                  · exact g5.o y F
                  · simp at F;subst F;exact fu)
                rw[List.take_length]at hb;exact hb
              have fi:=VB _ X _ _ _ _ (Au (Fj L) n c k g gs) fq (by simp[Au,Fo];omega) (by simp[Au,Fo];omega) (by simp[Au];omega) iv iw;have f7:((Au (Fj L) n c k g gs).vars:Int)=(n.vars:Int)+c.n:=by simp[Au]
              have gt:=hd h1;have gv:=hd h7;have g2:=hd i5;have kj:=hd fq;rw[f7]at fi;have ka:=hd fi;have g7:=hd f7;clear dp ip de fq h7 i5 h1 iv iw fi f7 ao fo dh fx b8 dt;go_wp2_with fail;apply ka.o.mono;rintro e gh ⟨rfl,a8⟩;rw[<-g7.o]at a8;have fl:=(a8.block _ (Ab gv.o)).trans gv.o;have fy:=(a8.block _ (Ab g2.o)).trans g2.o;rw[g7.o]at fl;obtain⟨q0,bg,bh,gc,gd,cl⟩:=C5 fl;obtain⟨cm,cn,co,cp,cq,cr⟩:=C5 fy;have io:=kj.o.ext (Y:=X) a8 (fun _ _ h=>h);have ff:Ao w gh:=a0.o.trans ((gt.o.mono l5).trans (a8.mono (by have:=gt.o.size;omega)));have ki:=hd io;have j7:=hd ff;have kw:=hd fy;have nl:=ff.size;clear fl fy io ff a8;generalize it:Cy (Au (Fj L) n c k g gs)=kq;have kt:=hd it;clear it;go_wp2;refine bodyPost_ret (v:= .tuple #[.agg #[.slice I (c.body.length+gs.length) J,.slice O n.vals.length P,.slice D (n.done.length+1) E,.slice bj (n.used.length+1) bk,Vi ((n.vars:Int)+c.n)],Vi kq]) (by simp[results,results147,go_sem,cm,cn,co,cp,cq,cr]) rfl ?_;refine⟨_,_,_,_,_,kq,rfl,⟨_,_,_,_,_,_,_,_,_,_,_,_,_,rfl⟩,j7.o.trans (Ad.below (S:=fun i=>i=w.hz+1) ((((((Ad.refl (only (w.hz+1)) gh).put 0 _).put 1 _).put 2 _).put 3 _).put 4 _) Yo (fun i e=>by omega)),Or.inr (Or.inr ⟨Fj L,kv.o,l4,kt.o.symm,Ys,?_,?_⟩)⟩
              rotate_left
              · rintro i (h|h|h|h)
                · exact ko.o i h
                · exact kr.o i h
                · exact kn.o i h
                · exact kp.o i h
              exact ki.o.box kw.o Yd Yd Yd ((((((Ad.refl (only (w.hz+1)) gh).put 0 _).put 1 _).put 2 _).put 3 _).put 4 _)
theorem RX{q:Ll}{t:Ly}(h:q[k]?=some t):(q.take (k+1)).map (fun t=>(t,0))=(q.take k).map (fun t=>(t,0))++[(t,(0:Nat))]:=by
 rw[List.take_add_one,h];simp
theorem WI(w:World)(X:Np)(av nv:Value)(q:Ll×At)(a7:Lv)(O:Eh X w av q.1 a7)(P:∃na u,nv= .slice na q.2.length u)(ap:∀k,X k->k<w.hz)(hl:q.1.length<=100)(hn:q.2.length<=1000):
  Calls prog 120 #[.agg #[av,nv]] w fun e w'=>∃C D,e= .returned (.agg #[C,D,Nl,Nl,Vi (AN q).vars])/\Ao w w'/\IR X w' C D Nl Nl (AN q):=by
 obtain⟨na,u,rfl⟩:=P;obtain⟨aa,K,rfl⟩:=Ac O.1;have af:=hd O;have ag:=hd ap;clear O ap;go_enter func120,cd;go_wp2
 go_loopg [4] (q.1.length+1) (fun gk i wr=>∃(k:Nat)(N:Value)(zs:Lv),i=Vi k/\k<=q.1.length/\q.1.length-k<gk/\Ao w wr/\
   wr.heap[w.hz]?=some (.cells #[.slice aa q.1.length K,.slice na q.2.length u] 148 (0,0))/\
   wr.heap[w.hz+1]?=some (.cells #[Nl,Nl,Nl,Nl,Vi 0] 152 (0,0))/\
   wr.heap[w.hz+1+1]?=some (.cells #[N,Nl,Nl,Nl,Vi 0] 152 (0,0))/\
   Dq X wr (w.hz+3) N k ((q.1.take k).map (fun t=>(t,0))) zs)
 case atStart=>
  refine⟨0,Nl,[],Yg,Qm _,Yo,Mxt,?_,?_,?_,Dq.nil _ _ _⟩
  ·exact Ah (Ah (QL w _) _) _
  ·simpa using Ah (QL (w.alloc _) _) _
  ·simpa using QL ((w.alloc _).alloc _) _
 case round=>
  obtain⟨k,N,zs,rfl,bf,bd,ar,h0,n,a,W⟩:=hrel;obtain⟨A,B,rfl⟩:=Ac W.owns;have cc:=Ab a;obtain⟨a8,b1,a9⟩:wr.cell? ⟨w.hz,0,none⟩=some (.slice aa q.1.length K)/\wr.cell? ⟨w.hz,1,none⟩=some (.slice na q.2.length u)/\∀i,wr.frozen? ⟨w.hz,i,none⟩=false:=
   ⟨Aa h0 0 _ rfl,Aa h0 1 _ rfl,fun i=>Ae h0 i⟩
  obtain⟨C,D,bi,bj,bk,bl⟩:=C5 a;have y:=hd ar;have ac:=hd h0;have ad:=hd n;have I:=hd a;have ai:=hd W;clear ar h0 n a W
  by_cases aw:k<q.1.length
  ·obtain⟨t,ab⟩:∃t,q.1[k]?=some t:=⟨_,Qb aw⟩;obtain⟨bu,bv,bw,a0,a1,a2,Z⟩:=af.o.2.2 k t ab;obtain⟨az,ay,aj,al,ak,rfl,rfl,rfl⟩:=Z.shape;have s:=af.o.ext (Y:=X) y.o (fun _ _ h=>h);obtain⟨M,bx,bz,au,b7,be,b8⟩:=An s.1 Yo;simp only[QH]at au;obtain⟨rfl,_,rfl⟩:=au;have ck:wr.cell? ⟨M,k*3,none⟩=some (.string az):=Ag s.1 _ _ a0;have cl:wr.cell? ⟨M,k*3+1,none⟩=some (Vi ay):=Ag s.1 _ _ a1;have cm:wr.cell? ⟨M,k*3+2,none⟩=some (.slice aj al ak):=Ag s.1 _ _ a2;have a5:=hd (Z.ext (Y:=X) y.o (fun _ _ h=>h));have a6:=hd (RX ab);have z:=hd (ai.o.ext (Y:=X) (B':=w.hz+3) (w':=wr.drewN 1) ⟨rfl,rfl,rfl,Qe _,fun _ _=>rfl⟩ (fun _ _ h=>h) (Qe _));clear be s Z a0 a1 a2 ab;go_wp2_with fail
   go_region_law (refine BC (wr.drewN 1) rfl (.tmp 14) (.tmp 21) 150 rfl (w.hz+3) 200 infoGoal underlying150 rfl Yd (.slice A k B) k zs rfl z.o.owns #[.string az,Vi ay,.slice aj al ak,Vi 0] rfl Ys rfl Jj Yo (by show w.hz+3<=wr.hz;omega) rfl ?_;intro bs w2 b;obtain⟨E,F,rfl⟩:=Ac b.owns;have R:=(b.kept.block _ (show w.hz+1+1<wr.hz by omega) (fun e=>by have:=(z.o.owns.lt _ e).1;omega)).trans I.o;obtain⟨b0,b2,b3,b4,b5,b6⟩:=C5 R;have ah:=hd R;have c:=hd b;clear b R)
   all_goals
    go_wp2
    go_roundg (q.1.length-k)
    case measure=>omega
    case rel=>
     have ax:=z.o.step (d:=0) (a5.o.on (fun k _ hn _=>⟨rfl,hn⟩)) c.o;rw[<-a6.o]at ax;have g:Below (w.hz+1+1) wr w2:=(⟨rfl,rfl,rfl,Qe _,fun _ _=>rfl⟩:Below _ wr (wr.drewN 1)).trans (c.o.kept.below (by show _<=wr.hz;omega) (fun j e=>by have:=(z.o.owns.lt j e).1;omega));have cb:=c.o.kept.size;have f:Ad (fun j=>j=w.hz+1+1) w2 (w2.setCell ⟨w.hz+1+1,0,none⟩ (.slice E (k+1) F)):=(Ad.refl (only (w.hz+1+1)) w2).put 0 _;refine⟨k+1,_,_,Yg,Yo,Yo,?_,?_,?_,Af ah.o 0 _,ax.box ah.o Yd Yd f⟩
     ·exact y.o.trans ((g.mono Yo).trans (f.below (by have:=g.size;omega) (fun j e=>by omega)))
     ·exact(f.block _ (by have:=g.size;omega) Yo).trans ((g.block _ Yo).trans ac.o)
     ·exact(f.block _ (by have:=g.size;omega) Yo).trans ((g.block _ Yo).trans ad.o)
  ·have U:k=q.1.length:=Yo
   subst U;have V:=ai.o;rw[List.take_length]at V;have a4:=hd V;clear V;obtain⟨l,bh⟩:∃x,x=wr:=⟨_,rfl⟩;subst bh;go_wp2
   go_loopg [5] (q.2.length+1) (fun gk i wr=>∃(k:Nat)(L:Value)(G:Lv),i=Vi k/\k<=q.2.length/\q.2.length-k<gk/\Ad (fun j=>j=w.hz+1+1) l wr/\
    wr.heap[w.hz+1+1]?=some (.cells #[.slice A q.1.length B,L,Nl,Nl,Vi 0] 152 (0,0))/\
    OM (fun j=>X j\/j=w.hz+1+1) wr l.hz L k ((List.range k).map vr) G)
   case atStart=>exact⟨0,Nl,[],Yg,Qm _,Yo,Ad.refl _ _,I.o,OM.nil _ _ _⟩
   case round=>
    obtain⟨k,L,G,rfl,bf,bd,r,a,Q⟩:=hrel;obtain⟨am,an,rfl⟩:=Ac Q.owns;have ca:=r.size;have h0:=(r.block _ (show w.hz<l.hz by omega) Yo).trans ac.o;have n:=(r.block _ (show w.hz+1<l.hz by omega) Yo).trans ad.o;obtain⟨a8,b1,a9⟩:wr.cell? ⟨w.hz,0,none⟩=some (.slice aa q.1.length K)/\wr.cell? ⟨w.hz,1,none⟩=some (.slice na q.2.length u)/\∀i,wr.frozen? ⟨w.hz,i,none⟩=false:=
     ⟨Aa h0 0 _ rfl,Aa h0 1 _ rfl,fun i=>Ae h0 i⟩
    obtain⟨C,D,bi,bj,bk,bl⟩:=C5 a;have bg:=Ab a;have J:=hd r;have bt:=hd h0;have H:=hd n;have ae:=hd a;have m:=hd Q;clear r h0 n a Q
    by_cases aw:k<q.2.length
    ·go_wp2_with (at_builtin;refine Am _ rfl (.tmp 32) (.tmp 35) 146 rfl l.hz 183 infoTerm underlying146 rfl Yd _ k G rfl m.o.owns _ rfl rfl rfl Gw ?_ ?_ ?_)
     ·omega
     ·omega
     intro bs w3 b;obtain⟨E,F,rfl⟩:=Ac b.owns;have T:=(b.kept.block _ bg (fun e=>by have:=(m.o.owns.lt _ e).1;omega)).trans ae.o;obtain⟨ce,cf,cg,ch,ci,cj⟩:=C5 T;have a3:=hd T;have c:=hd b;clear b T;go_wp2
     go_roundg (q.2.length-k)
     case measure=>omega
     case rel=>
      have f:Ad (fun j=>X j\/j=w.hz+1+1) w3 (w3.setCell ⟨w.hz+1+1,1,none⟩ (.slice E (k+1) F)):=Ad.setCell (Ad.refl _ w3) (p:=⟨w.hz+1+1,1,none⟩) (fun _=>Or.inr rfl) _;have ba:Ad (fun j=>j=w.hz+1+1) w3 (w3.setCell ⟨w.hz+1+1,1,none⟩ (.slice E (k+1) F)):=(Ad.refl (only (w.hz+1+1)) w3).put 1 _;obtain⟨aq,_⟩:=m.o.step (Below.refl _ _) (CH.var _ wr k) c.o f (fun j h=>by
       rcases h with h|h
       ·have:=ag.o j h;omega
       ·omega)
      have e:(List.range (k+1)).map vr=(List.range k).map vr++[vr k]:=by rw[List.range_succ];simp
      rw[<-e]at aq;refine⟨k+1,_,_,Yg,Yo,Yo,?_,Af a3.o 1 _,aq⟩;exact J.o.then (S':=fun j=>j=w.hz+1+1\/l.hz<=j) ((c.o.kept.mono (fun j _ e=>Or.inr (m.o.owns.lt j e).1)).then ba (fun _ _ e=>Or.inl e)) (fun j b9 h=>by omega)
    ·have U:k=q.2.length:=Yo
     subst U;obtain⟨bm,bn,bo,bp,bq,br⟩:=C5 H.o;go_wp2;refine bodyPost_ret (v:= .agg #[.slice A q.1.length B,.slice am q.2.length an,Nl,Nl,Vi q.2.length]) (by simp[results,results120,go_sem,bm,bn,bo,bp,bq,br]) rfl ?_;have P:IR X wr (.slice A q.1.length B) (.slice am q.2.length an) Nl Nl (AN q):=by
      refine⟨⟨zs,?_⟩,⟨G,?_⟩,⟨[],Dq.nil _ _ _⟩,Q2 _ _ _ _⟩
      ·have:=a4.o.box I.o Yd Yd J.o;have e:(AN q).goals.length=q.1.length:=by simp[AN]
       rw[e];exact⟨AI this.owns (Qm _),this.len,this.all⟩
      ·exact m.o.row (Ad.refl _ _) (fun j h=>Or.inl h) (fun j h=>by
        rcases h with h|h
        ·have:=ag.o j h;omega
        ·omega)
     have ao:Ad (fun j=>j=w.hz+1+1) wr (wr.setCell ⟨w.hz+1+1,4,none⟩ (Vi q.2.length)):=(Ad.refl (only (w.hz+1+1)) wr).put 4 _;have bc:=(ao.block _ (Ab H.o) Yo).trans H.o;have bb:=P.box ae.o Yd Yd Yd ao;refine⟨_,_,rfl,?_,bb.box bc Yd Yd Yd (((((((Ad.refl (only (w.hz+1)) _).put 0 _).put 1 _).put 2 _).put 3 _).put 4 _))⟩;refine(y.o.trans (J.o.below Yo (fun j e=>by omega))).trans (Ad.below (S:=fun k=>w.hz<=k/\k<w.hz+3) Mst Yo (fun j h=>h.1))
structure Bx(X:Nat->Prop)(w:World)(m0 m1 m2 m3 m4:Value)(n0:ND):Prop where
 node:∃n,IR X w m0 m1 m2 m3 n/\FU n/\NK n/\Co n n0/\m4= .int .i64 n.vars
 off:∀k,Ak m0 k\/Ak m1 k\/Ak m2 k\/Ak m3 k->¬X k
theorem Bx.val{b c d e f:Value}{k:ND}(h:Bx X w b c d e f k):NF (.agg #[b,c,d,e,f]):=by
 obtain⟨n,a,_,_,_,rfl⟩:=h.node;obtain⟨xs,g⟩:=a.goals;obtain⟨s,i⟩:=a.vals;obtain⟨zs,j⟩:=a.done;obtain⟨m,o,rfl⟩:=Ac g.owns;obtain⟨va,r,rfl⟩:=Ac i.1;obtain⟨da,l,rfl⟩:=Ac j.owns;obtain⟨p,q,rfl⟩:=Ac a.used;exact⟨_,_,_,_,_,_,_,_,_,_,_,_,_,rfl⟩
theorem Bx.on{l m o p q:Value}{r:ND}(h:Bx X w l m o p q r)(c:∀k,k<w.hz->¬X k->w'.heap[k]?=w.heap[k]?)(j:∀k,k<w.hz->Y k->X k):Bx Y w' l m o p q r:=by
 obtain⟨n,b,s,t,u,v⟩:=h.node;obtain⟨xs,d⟩:=b.goals;obtain⟨A,g⟩:=b.vals;obtain⟨zs,e⟩:=b.done;have f:∀k,k<w.hz->¬X k->CG w k->w'.heap[k]?=w.heap[k]?/\¬Y k:=fun k a i _=>⟨c k a i,fun z=>i (j k a z)⟩;refine⟨⟨n,⟨⟨xs,d.on (fun k a=>c k (d.owns.lt k a).2 (h.off k (Or.inl a))) f⟩,⟨A,g.on f⟩,⟨zs,e.on (fun k a=>c k (e.owns.lt k a).2 (h.off k (Or.inr (Or.inr (Or.inl a))))) f⟩,Aj b.used (fun k a=>c k (b.used.lt k a).2 (h.off k (Or.inr (Or.inr (Or.inr a)))))⟩,s,t,u,v⟩,?_⟩;intro k a x;have y:k<w.hz:=by
  rcases a with a|a|a|a
  ·exact(d.owns.lt k a).2
  ·exact(g.1.lt k a).2
  ·exact(e.owns.lt k a).2
  ·exact(b.used.lt k a).2
 exact h.off k a (j k y x)
theorem Bx.ext{a b c d f:Value}{g:ND}(h:Bx X w a b c d f g)(e:Ao w w')(j:∀k,k<w.hz->Y k->X k):Bx Y w' a b c d f g:=h.on (fun k i _=>e.block k i) j
theorem Bx.box{cs:Av}{a b c d e:Value}{f:ND}(h:Bx X w a b c d e f)(i:w.heap[M]?=some (.cells cs t fr))(m:t≠183)(o:200≠t)(p:3≠t)(l:Ad (fun k=>k=M) w w'):Bx X w' a b c d e f:=by
 obtain⟨n,j,g⟩:=h.node;exact⟨⟨n,j.box i m o p l,g⟩,h.off⟩
def SE(n0:ND)(c:Dt)(k:Nat):(Nat->Prop)->Value->World->Prop:=fun Z v u=>∃m0 m1 m2 m3 m4:Value,∃q:Nat,v= .tuple #[.agg #[m0,m1,m2,m3,m4],.int .i64 q]/\NF (.agg #[m0,m1,m2,m3,m4])/\q=(Ax n0 c k).2/\(q=1\/q=2->Bx Z u m0 m1 m2 m3 m4 (Ax n0 c k).1)
theorem SE.stable{d:ND}:∀X b v u a,SE d c k X v u->(∀k,k<u.hz->¬X k->a.heap[k]?=u.heap[k]?)->u.hz<=a.hz->(∀k,k<u.hz->b k->X k)->SE d c k b v a:=by
 rintro X b v u a ⟨l,m,n,o,p,q,rfl,e,f,g⟩ i _ j;exact⟨l,m,n,o,p,q,rfl,e,f,fun h=>(g h).on i j⟩
theorem UZ:∀{l:Ly}{k N:Nat},Wf k l->(∀v,Cj v l->v<N)->∀s∈l,s.num<=N:=by
 intro l k N h b s a
 by_cases hn:s.name=[]
 ·exact Nat.le_of_lt (b s.num ⟨s,a,hn,rfl⟩)
 ·obtain⟨i,hi⟩:=List.mem_iff_getElem?.1 a;clear b
  induction l generalizing k i with
  |nil=>simp at a
  |cons t l e=>
   obtain⟨_,_,c,d⟩:=h
   cases i with
   |zero=>simp at hi;subst hi;rw[c hn];omega
   |succ i=>exact e d (Qh (by simpa using hi)) i (by simpa using hi)
theorem IQ(w:World)(X:Np)(z:Value)(cs:Lc)(xs:Lv)(A B C D J:Value)(E:ND)(k:Nat)(c:Dt)(R:Gg X w z cs xs)(W:∀c∈cs,Kl c/\QU c)(ah:cs.length<=24)(S:Bx X w A B C D J E)
  (G:∀k,X k->k<w.hz) (H:cs[k]?=some c) (d:E.goals≠[]):
  Calls prog 147 #[z,.agg #[A,B,C,D,J],Vi k] w fun e w'=>∃r,e= .returned r/\Ao w w'/\SE E c k X r w':=by
 obtain⟨n,U,a,T,l,rfl⟩:=S.node;obtain⟨b,K⟩:=W c (Qh H);obtain⟨g,gs,m⟩:∃g gs,n.goals=g::gs:=by
  cases h:n.goals with
  |nil=>exact absurd (List.eq_nil_of_length_eq_zero (by rw[<-l.gl,h];rfl)) d
  |cons x y=>exact⟨x,y,rfl⟩
 have ai:=a.vars;have I:=a.ul;have p:=b.n;refine(WX w X z A B C D cs xs n k c g gs R U G H m Yo a.gl (by rw[a.dl];exact I) I a.vl Yo p (fun g d=>(a.gs g d).1) (fun g d=>(a.ds g d).1) (fun t o=>a.vsize o) b.hl b.bl (by have:=b.bn;omega)
  (fun s v=>Qq (UZ b.wfh b.och s v) p) (fun t o s v=>Qq (UZ (b.wfb t o) (b.ocb t o) s v) p) (fun g d=>by have:=(a.gs g d).2;omega)).mono ?_
 rintro e w' ⟨ac,ad,ae,af,ag,q,rfl,aa,Y,V⟩;refine⟨_,rfl,Y,ac,ad,ae,af,ag,q,rfl,aa,?_⟩;rcases V with⟨rfl,h⟩|⟨rfl,h⟩|⟨σ,L,M,N,O,P,Q⟩
 ·have f:Kb n c k 0 n:=⟨g,gs,m,Or.inl ⟨rfl,h⟩⟩;obtain⟨i,_⟩:=Ef a l b f;exact⟨i,fun h=>by omega⟩
 ·have f:Kb n c k 3 n:=⟨g,gs,m,Or.inr (Or.inl ⟨rfl,h⟩)⟩;obtain⟨i,_⟩:=Ef a l b f;exact⟨i,fun h=>by omega⟩
 ·have f:Kb n c k q (Au σ n c k g gs):=⟨g,gs,m,Or.inr (Or.inr ⟨σ,L,M,N,rfl⟩)⟩;obtain⟨i,F⟩:=Ef a l b f;refine⟨i,fun u=>⟨⟨_,P,(F u).1,Ol f u T K,(F u).2,O⟩,fun j Z ab=> ?_⟩⟩;have:=Q j Z;have:=G j ab;omega
theorem own_ty{e:Nat}(h:w.ownsRow B e size v n xs):∀k,Ak v k->∃cl fr,w.heap[k]?=some (.cells cl e fr):=fun k a=>by
 rcases h.2 with⟨rfl,_⟩|⟨g,c,d,rfl,_,b,_⟩
 ·simp[Ak,Value.ownBlock]at a
 ·simp[Ak,Value.ownBlock]at a;subst a;exact⟨_,_,b⟩
def L8(X:Np)(w:World):Prop:=∀k,X k->∃cl fr,w.heap[k]?=some (.cells cl 3 fr)
theorem L8.lt(h:L8 X w)(b:X k):k<w.hz:=by
 obtain⟨cl,fr,a⟩:=h k b;exact Ab a
theorem L8.ext(h:L8 X w)(e:Ao w w'):L8 X w':=fun k b=>by
 obtain⟨cl,fr,a⟩:=h k b;exact⟨cl,fr,(e.block k (Ab a)).trans a⟩
theorem L8.ty(h:L8 X w){cl:Av}(b:w.heap[k]?=some (.cells cl t fr))(d:t≠3):¬X k:=fun c=>by
 obtain⟨e,f,a⟩:=h k c;rw[b]at a;simp at a;exact d a.2.1
theorem L8.own(h:L8 X w){e:Nat}(a:w.ownsRow B e size v n xs)(d:e≠3):∀k,Ak v k->¬X k:=fun k c=>by
 obtain⟨cl,fr,b⟩:=own_ty a k c;exact h.ty b d
theorem L8.terms(h:L8 X w):∀k,k<w.hz->¬(fun _:Nat=>False) k->CG w k->w.heap[k]?=w.heap[k]?/\¬X k:=fun k _ _ b=>by
 obtain⟨c,a⟩:=b;exact⟨rfl,h.ty a Yd⟩
theorem Gg.toX(h:Gg (fun _=>False) w lv cs xs)(e:L8 X w):Gg X w lv cs xs:=
 ⟨h.owns,fun i c k=>by
  obtain⟨a,b,d,f,q,l,m,n,o,p,g,j⟩:=h.all i c k;exact⟨a,b,d,f,q,l,m,n,o,p,g.on e.terms,j.on e.terms⟩⟩
theorem Jh(w:World)(f:L8 X w)(av nv:Value)(q:Ll×At)(g:Lv)(s:Eh (fun _=>False) w av q.1 g)(t:∃na v,nv= .slice na q.2.length v)(j:FU (AN q))(u:NK (AN q))(hl:q.1.length<=6)(hn:q.2.length<=121):
  Calls prog 120 #[.agg #[av,nv]] w fun e w'=>∃b c m n o,e= .returned (.agg #[b,c,m,n,o])/\Ao w w'/\Bx X w' b c m n o (AN q):=by
 refine(WI w X av nv q g (s.on f.terms) t (fun _ h=>f.lt h) Yo Yo).mono ?_;rintro e w' ⟨b,c,rfl,i,d⟩;refine⟨b,c,_,_,_,rfl,i,⟨AN q,d,j,u,Co.refl j,rfl⟩,fun k a=> ?_⟩;have l:=f.ext i;obtain⟨xs,p⟩:=d.goals;obtain⟨x,r⟩:=d.vals;rcases a with a|a|a|a
 ·exact l.own p.owns Yd k a
 ·exact l.own r.1 Yd k a
 ·simp[Ak,Value.ownBlock]at a
 ·simp[Ak,Value.ownBlock]at a
structure Fi(w:World)(av nv:Value)(a:List (List BL)×At):Prop where
 atoms:∃xs,Eh (fun _=>False) w av a.1 xs
 names:w.ownsRow 0 9 1 nv a.2.length (Ba a.2)
theorem Fi.ext{av nv:Value}(h:Fi w av nv a)(e:Ao w w'):Fi w' av nv a:=by
 obtain⟨xs,b⟩:=h.atoms;exact⟨⟨xs,b.ext e (fun _ _ h=>h)⟩,Aj h.names (fun k c=>e.block k (h.names.lt k c).2)⟩
theorem Gg.box{cl:Av}(h:Gg X w lv cs xs)(e:w.heap[M]?=some (.cells cl t fr))(g:t≠183)(o:185≠t)(f:Ad (fun k=>k=M) w w'):Gg X w' lv cs xs:=
 ⟨By h.owns e o f,fun i c n=>by
  obtain⟨a,b,d,j,v,p,q,r,s,u,l,m⟩:=h.all i c n;exact⟨a,b,d,j,v,p,q,r,s,u,l.box e g f,m.box e g f⟩⟩
theorem Fi.box{cl:Av}{av nv:Value}(h:Fi w av nv a)(b:w.heap[M]?=some (.cells cl t fr))(e:t≠183)(f:9≠t)(c:Ad (fun k=>k=M) w w'):Fi w' av nv a:=by
 obtain⟨xs,d⟩:=h.atoms;exact⟨⟨xs,d.box b e c⟩,By h.names b f c⟩
theorem Kr(s:ByteArray)(w:World)(g:s.size<=maxLen):Calls prog 106 #[.string s] w fun e w'=>Ao w w'/\
  ((BD s=none/\∃f i:Nat,f≠0/\e=Rq #[Nl,Vi f,Vi i])\/(∃cs c xs,BD s=some cs/\e=Rq #[c,Vi 0,Vi 0]/\Gg (fun _=>False) w' c cs xs)):=by
 by_cases b:800<s.size
 ·apply(GG s w g b).mono;rintro e w' ⟨rfl,hb⟩;exact⟨hb,Or.inl ⟨by simp[BD,b],1,0,Yo,rfl⟩⟩
 ·by_cases a:(Bb (Ap s) (AD false)).1=0
  ·have h0:(Ct s false).1=0:=by rw[(BV s false).1];exact a
   obtain⟨cs,d,_⟩:=Jx s Yo h0;apply(Hx s w cs Yo a d).mono;rintro e w' ⟨c,xs,rfl,h,hb⟩;exact⟨hb,Or.inr ⟨cs,c,_,by simp[BD,b,a,d],rfl,h.rowC⟩⟩
  ·apply(Hf s w Yo a).mono;rintro e w' ⟨rfl,hb⟩;exact⟨hb,Or.inl ⟨by simp[BD,b,a],_,_,a,rfl⟩⟩
theorem Mr(s:ByteArray)(w:World)(h:s.size<=maxLen):Calls prog 110 #[.string s] w fun e w'=>Ao w w'/\
  ((Cr s=none/\∃f j:Nat,f≠0/\e=Rq #[.agg #[Nl,Nl],Vi f,Vi j])\/(∃a av nv,Cr s=some a/\e=Rq #[.agg #[av,nv],Vi 0,Vi 0]/\Fi w' av nv a)):=by
 by_cases c:120<s.size
 ·apply(HP s w h c).mono;rintro e w' ⟨rfl,hb⟩;exact⟨hb,Or.inl ⟨by simp[Cr,c],1,0,Yo,rfl⟩⟩
 ·by_cases b:(Bb (Ap s) (AD true)).1=0
  ·have h0:(Ct s true).1=0:=by rw[(BV s true).1];exact b
   obtain⟨q,d,_⟩:=Ek s Yo h0;apply(IN s w q Yo b d).mono;rintro e w' ⟨i,nv,lo,xs,rfl,_,_,g,hn,hb⟩;exact⟨hb,Or.inr ⟨(q.1,q.2.2),i,nv,by simp[Cr,c,b,d],rfl,⟨xs,g.rowT⟩,AI hn (Qm _)⟩⟩
  ·apply(Ix s w Yo b).mono;rintro e w' ⟨rfl,hb⟩;exact⟨hb,Or.inl ⟨by simp[Cr,c,b],_,_,b,rfl⟩⟩
def WO(p q:ByteArray)(e:Ending)(w':World):Prop:=
 (BD p=none/\e= .returned (.tuple #[.slice none 0 0,.agg #[.slice none 0 0,.slice none 0 0],.int .i64 4]))\/
 ((∃cs,BD p=some cs)/\Cr q=none/\e= .returned (.tuple #[.slice none 0 0,.agg #[.slice none 0 0,.slice none 0 0],.int .i64 5]))\/
 (∃cs a lv av nv xs,BD p=some cs/\Cr q=some a/\e= .returned (.tuple #[lv,.agg #[av,nv],.int .i64 0])/\Gg (fun _=>False) w' lv cs xs/\Fi w' av nv a)
theorem HS(p q:ByteArray)(w:World)(E:p.size<=maxLen)(F:q.size<=maxLen):Calls prog 118 #[.string p,.string q] w fun e w'=>Ao w w'/\WO p q e w':=by
 have J:=hd (fun u=>Kr p u E);have K:=hd (fun u=>Mr q u F);clear E F;go_enter func118,ntmps118;go_wp2_with fail;apply(J.o _).mono;rintro e w1 ⟨f,r⟩;have Q:=f.size;simp at Q;have c:w1.heap[w.hz]?=some (.cells #[Nl,Nl] 148 (0,0)):=(f.block _ Ys).trans (QL w _);obtain⟨j,b1,k⟩:w1.cell? ⟨w.hz,0,none⟩=some Nl/\w1.cell? ⟨w.hz,1,none⟩=some Nl/\∀i,w1.frozen? ⟨w.hz,i,none⟩=false:=⟨Aa c 0 _ rfl,Aa c 1 _ rfl,fun i=>Ae c i⟩;have C:w.hz<w1.hz:=Yo
 have t:Hd (Ao w w1):=(Mxt:Ao w (w.alloc _)).trans (f.mono Ys);have M:=hd c;rcases r with⟨g,n,U,P,rfl⟩|⟨cs,X,xs,G,rfl,s⟩
 ·have hb:((n:Int) !=0)=true:=by rw[bne_iff_ne];omega
  have m:=hd g;clear g f c;go_wp2;refine bodyPost_ret (v:= .tuple #[Nl,.agg #[Nl,Nl],Vi 4]) (by simp[results,results118,go_sem,j,b1,k,C]) rfl ?_;exact⟨t.o.trans (Ad.below (S:=fun i=>i=w.hz) (((Ad.refl (only w.hz) w1).put 0 _).put 1 _) Yo (fun i e=>by omega)),Or.inl ⟨m.o,rfl⟩⟩
 ·obtain⟨la,R,rfl⟩:=Ac s.owns;have N:=hd s;have z:=hd G;clear s G f c;go_wp2_with fail;apply(K.o _).mono;rintro e w2 ⟨b,r⟩;have W:=b.size;have d:=(b.block _ C).trans M.o;obtain⟨j,b1,k⟩:w2.cell? ⟨w.hz,0,none⟩=some Nl/\w2.cell? ⟨w.hz,1,none⟩=some Nl/\∀i,w2.frozen? ⟨w.hz,i,none⟩=false:=⟨Aa d 0 _ rfl,Aa d 1 _ rfl,fun i=>Ae d i⟩;have D:w.hz<w2.hz:=Yo
  have x:Hd (Ao w w2):=t.o.trans (b.mono Yo);have y:=hd d;have I:=hd b;rcases r with⟨g,n,U,P,rfl⟩|⟨a,av,nv,B,rfl,l⟩
  ·have hb:((n:Int) !=0)=true:=by rw[bne_iff_ne];omega
   have m:=hd g;clear g b d;go_wp2;refine bodyPost_ret (v:= .tuple #[Nl,.agg #[Nl,Nl],Vi 5]) (by simp[results,results118,go_sem,j,b1,k,D]) rfl ?_;refine⟨x.o.trans (Ad.below (S:=fun i=>w.hz<=i) Mst Yo (fun i e=>e)),Or.inr (Or.inl ⟨⟨cs,z.o⟩,m.o,rfl⟩)⟩
  ·obtain⟨V,A⟩:=l.atoms;obtain⟨aa,O,rfl⟩:=Ac A.1;obtain⟨na,T,rfl⟩:=Ac l.names;have H:=hd l;have L:=hd B;clear l A B b d;go_wp2_with fail;go_region
   all_goals
    go_wp2;refine bodyPost_ret (v:= .tuple #[.slice la cs.length R,.agg #[.slice aa a.1.length O,.slice na a.2.length T],Vi 0]) (by simp[results,results118,go_sem,j,b1,k,D]) rfl ?_;refine⟨x.o.trans (Ad.below (S:=fun i=>w.hz<=i) Mst Yo (fun i e=>e)),Or.inr (Or.inr ⟨cs,a,_,_,_,xs,z.o,L.o,rfl,?_,?_⟩)⟩
    ·exact((N.o.ext I.o (fun _ _ h=>h)).box y.o Yd Yd (((Ad.refl (only w.hz) w2).put 0 _).put 1 _)).ext Mxt (fun _ _ h=>h)
    ·exact(H.o.box y.o Yd Yd (((Ad.refl (only w.hz) w2).put 0 _).put 1 _)).ext Mxt
theorem Gu{a c:Value}(h:w.heap[b]?=some (.cells #[a,c] t (0,0))):
  w.cell? ⟨b,0,none⟩=some a/\w.cell? ⟨b,1,none⟩=some c/\∀i,w.frozen? ⟨b,i,none⟩=false:=
 ⟨Aa h 0 _ rfl,Aa h 1 _ rfl,fun i=>Ae h i⟩
theorem Bx.len{b c d e f:Value}{g:ND}(h:Bx X w b c d e f g):∃a0 l i u m j v o k x p,∃y:Int,b= .slice a0 g.goals.length l/\c= .slice i u m/\d= .slice j v o/\e= .slice k x p/\f=Vi y:=by
 obtain⟨n,a,_,_,t,rfl⟩:=h.node;obtain⟨xs,q⟩:=a.goals;obtain⟨F,r⟩:=a.vals;obtain⟨zs,s⟩:=a.done;obtain⟨A,B,rfl⟩:=Ac q.owns;obtain⟨va,E,rfl⟩:=Ac r.1;obtain⟨da,z,rfl⟩:=Ac s.owns;obtain⟨C,D,rfl⟩:=Ac a.used;rw[t.gl];exact⟨_,_,_,_,_,_,_,_,_,_,_,_,rfl,rfl,rfl,rfl,rfl⟩
theorem Fi.keep{av nv:Value}(h:Fi w av nv a)(f:Ad S w w')(d:∀k,S k->∃cl t fr,w.heap[k]?=some (.cells cl t fr)/\t≠183/\t≠9):Fi w' av nv a:=by
 obtain⟨xs,g⟩:=h.atoms;refine⟨⟨xs,g.on (fun k j m l=>⟨f.block k j (fun c=> ?_),m⟩)⟩,f.owns h.names (fun k i c=> ?_)⟩
 ·obtain⟨cl,t,fr,hb,b,_⟩:=d k c;exact Ia hb b l rfl
 ·obtain⟨cl,t,fr,hb,_,b⟩:=d k c;exact Ai h.names (fun e=>b e.symm) hb i
theorem Bx.keep{r s u v x:Value}{y:ND}(h:Bx X w r s u v x y)(i:Ad S w w')(f:∀k,S k->∃cl t fr,w.heap[k]?=some (.cells cl t fr)/\t≠183/\t≠200/\t≠3):Bx X w' r s u v x y:=by
 obtain⟨n,b,a⟩:=h.node;obtain⟨xs,m⟩:=b.goals;obtain⟨j,z⟩:=b.vals;obtain⟨zs,o⟩:=b.done;have g:∀k,k<w.hz->¬X k->CG w k->w'.heap[k]?=w.heap[k]?/\¬X k:=fun k A D C=>⟨i.block k A (fun c=>by
  obtain⟨cl,t,fr,hb,a,_⟩:=f k c;exact Ia hb a C rfl),D⟩
 have p:∀{B n:Nat}{l:Value}{j:Lv},w.ownsRow B 200 4 l n j->∀k,l.ownBlock=some k->w'.heap[k]?=w.heap[k]?:=fun q k d=>i.block k (q.lt k d).2 (fun c=>by
  obtain⟨cl,t,fr,hb,_,a,_⟩:=f k c;exact Ai q (fun e=>a e.symm) hb d)
 refine⟨⟨n,⟨⟨xs,m.on (p m.owns) g⟩,⟨j,z.on g⟩,⟨zs,o.on (p o.owns) g⟩,i.owns b.used (fun k d c=> ?_)⟩,a⟩,h.off⟩;obtain⟨cl,t,fr,hb,_,_,a⟩:=f k c;exact Ai b.used (fun e=>a e.symm) hb d
def M0(p q x:ByteArray)(e:Ending)(w':World):Prop:=
 (∃er pl:Nat,er≠0/\(Bo p q x).2.2=(er,pl)/\∃(a0:Oa)(l0 c0:Nat)(a1:Oa)(l1 c1:Nat),e= .returned (.tuple #[.agg #[.slice a0 l0 c0,.slice a1 l1 c1],.agg #[.slice none 0 0,.slice none 0 0,.slice none 0 0,.slice none 0 0,.int .i64 0],.int .i64 er,.int .i64 pl]))\/
 (∃a av nv m0 m1 m2 m3 m4 n0,Bo p q x=(a.2,n0,0,0)/\Cr q=some a/\e= .returned (.tuple #[.agg #[av,nv],.agg #[m0,m1,m2,m3,m4],.int .i64 0,.int .i64 0])/\Fi w' av nv a/\Bx (fun _=>False) w' m0 m1 m2 m3 m4 n0)
theorem Ch{n:ND}{ks:List Nat}(h:n.goals=[]\/cs.length<=k):(AA cs n (k::ks) i).2=(7,i):=by
 unfold AA;split
 ·rfl
 ·rename_i c a;rcases h with h|h
  ·rw[if_pos h]
  ·rw[List.getElem?_eq_none h]at a;simp at a
theorem Eo{n:ND}{ks:List Nat}(b:cs[k]?=some c)(h:¬((Ax n c k).2=1\/(Ax n c k).2=2)):(AA cs n (k::ks) i).2=(7,i):=by
 unfold AA;simp only[b]
 by_cases a:n.goals=[]
 ·rw[if_pos a]
 ·rw[if_neg a,if_neg h]
theorem FP{n:ND}{ks:List Nat}(a:cs[k]?=some c)(b:n.goals≠[])(h:(Ax n c k).2=1\/(Ax n c k).2=2):AA cs n (k::ks) i=AA cs (Ax n c k).1 ks (i+1):=by
 conv=>lhs;unfold AA
 simp only[a];rw[if_neg b,if_pos h]
set_option maxHeartbeats 8000000 in
theorem Il(p q x:ByteArray)(w:World)(d1:p.size<=maxLen)(d2:q.size<=maxLen)(ft:x.size<=maxLen):Calls prog 115 #[.string p,.string q,.string x] w fun e w'=>Ao w w'/\M0 p q x e w':=by
 have eq:=hd (fun u=>HS p q u d1 d2);have ey:=hd (fun u (fp:x.size<=400)=>OI x u fp);unfold maxLen at ft;clear d1 d2;go_enter func115,ntmps115;go_wp2_with fail;apply(eq.o _).mono;rintro e w1 ⟨V,fc⟩;have fq:=V.size;simp at fq;have bl:w1.heap[w.hz]?=some (.cells #[Nl,Nl] 148 (0,0)):=(V.block _ Yp).trans (Ah (QL w _) _);have br:w1.heap[w.hz+1]?=some (.cells #[Nl,Nl,Nl,Nl,Vi 0] 152 (0,0)):=(V.block _ Ys).trans (by simpa using QL (w.alloc _) _);obtain⟨m,b1,n⟩:=Gu bl;obtain⟨s,y,z,A,B,C⟩:=C5 br;have db:Ao w w1:=(Mxt:Ao w ((w.alloc (.cells #[Nl,Nl] 148)).alloc (.cells #[Nl,Nl,Nl,Nl,Vi 0] 152))).trans (V.mono Yp);have b5:w.hz<w1.hz:=Yo
 have b6:w.hz+1<w1.hz:=Yo
 have T:=hd db;have eo:=hd bl;have es:=hd br;clear V bl br db;rcases fc with⟨ac,rfl⟩|⟨⟨cs,Q⟩,ac,rfl⟩|⟨cs,a,gf,av,nv,xs,Q,b0,rfl,b9,ak⟩
 ·have E:Hd ((Bo p q x).2.2=(4,0)):=by show _=_;simp[Bo,ac]
  clear ac;go_wp2;refine bodyPost_ret (v:= .tuple #[.agg #[Nl,Nl],.agg #[Nl,Nl,Nl,Nl,Vi 0],Vi 4,Vi 0]) (by simp[results,results115,go_sem,m,b1,n,s,y,z,A,B,C,b5,b6]) rfl ?_;exact⟨T.o.trans (Ad.below (S:=fun i=>w.hz<=i) Mst Yo (fun i e=>e)),Or.inl ⟨4,0,Yo,E.o,_,_,_,_,_,_,rfl⟩⟩
 ·have E:Hd ((Bo p q x).2.2=(5,0)):=by show _=_;simp[Bo,ac,Q]
  clear ac Q;go_wp2;refine bodyPost_ret (v:= .tuple #[.agg #[Nl,Nl],.agg #[Nl,Nl,Nl,Nl,Vi 0],Vi 5,Vi 0]) (by simp[results,results115,go_sem,m,b1,n,s,y,z,A,B,C,b5,b6]) rfl ?_;exact⟨T.o.trans (Ad.below (S:=fun i=>w.hz<=i) Mst Yo (fun i e=>e)),Or.inl ⟨5,0,Yo,E.o,_,_,_,_,_,_,rfl⟩⟩
 ·obtain⟨cv,c8⟩:=ak.atoms;obtain⟨la,d6,rfl⟩:=Ac b9.owns;obtain⟨aa,F,rfl⟩:=Ac c8.1;obtain⟨na,D,rfl⟩:=Ac ak.names;obtain⟨_,_,_,dl,fi⟩:=CA Q;obtain⟨_,_,_,dg,df,fe,ff,fg,_⟩:=Cs b0;have fb:=hd b9;have cf:=hd ak;have e1:=hd dl;have ev:=hd dg;have eu:=hd df;have aw:=hd Q;have ah:=hd b0;clear b9 ak c8 dl dg df Q b0 ff
  by_cases ca:400<x.size
  ·have E:Hd ((Bo p q x).2.2=(1,0)):=by show _=_;simp[Bo,aw.o,ah.o,ca]
   go_wp2;refine bodyPost_ret (v:= .tuple #[.agg #[.slice aa a.1.length F,.slice na a.2.length D],.agg #[Nl,Nl,Nl,Nl,Vi 0],Vi 1,Vi 0]) (by simp[results,results115,go_sem,m,b1,n,s,y,z,A,B,C,b5,b6]) rfl ?_;exact⟨T.o.trans (Ad.below (S:=fun i=>w.hz<=i) Mst Yo (fun i e=>e)),Or.inl ⟨1,0,Yo,E.o,_,_,_,_,_,_,rfl⟩⟩
  ·have ez:=hd (fun u=>ey.o u Yo);go_wp2_with fail;apply(ez.o _).mono;rintro e w2 ⟨O,fd⟩;have fr:=O.size;simp at fr;have bm:=(O.block _ (show w.hz<(w1.alloc _).hz by simp;omega)).trans (Ah eo.o _);have bs:=(O.block _ (show w.hz+1<(w1.alloc _).hz by simp;omega)).trans (Ah es.o _);have bw:w2.heap[w1.hz]?=some (.cells #[.slice aa a.1.length F,.slice na a.2.length D] 148 (0,0)):=(O.block _ Ys).trans (QL w1 _);obtain⟨m,b1,n⟩:=Gu bm;obtain⟨s,y,z,A,B,C⟩:=C5 bs;obtain⟨q0,cd,fw⟩:=Gu bw;have da:Ao w1 w2:=(Mxt:Ao w1 (w1.alloc _)).trans (O.mono Ys);have du:w.hz<w2.hz:=Yo
   have dv:w.hz+1<w2.hz:=Yo
   have dw:w1.hz<w2.hz:=Yo
   have af:=hd da;have ep:=hd bm;have et:=hd bs;have ew:=hd bw;clear O da bm bs bw;rcases fd with⟨ks,ge,ad,rfl,b3,f7,dq⟩|⟨cc,ad,rfl⟩
   ·obtain⟨gb,fu,rfl⟩:=Ac b3;have E:Hd (Bo p q x=(a.2,AA cs (AN a) ks 0)):=by show _=_;simp[Bo,aw.o,ah.o,ca,ad]
    have cp:=hd b3;have e4:=hd dq;have ex:=hd (fun u (l:Ao w1 u)=>by
     obtain⟨cv,g⟩:=(cf.o.ext l).atoms;exact Jh u (X:=fun _=>False) (fun _ h=>h.elim) _ (.slice na a.2.length D) a cv g ⟨_,_,rfl⟩ ev.o eu.o fe fg)
    clear b3 ad dq;go_wp2_with fail;apply(ex.o _ af.o).mono;rintro e w3 ⟨al,am,an,ao,ap,rfl,J,L⟩;obtain⟨cw,cx,cy,c0,cz,c1,c3,c2,c4,c6,c5,c7,rfl,rfl,rfl,rfl,rfl⟩:=L.len;have fs:=J.size;have bp:Ao w1 w3:=af.o.trans (J.mono af.o.size);have bn:=(J.block _ du).trans ep.o;have bu:=(J.block _ dv).trans et.o;have bx:=(J.block _ dw).trans ew.o;obtain⟨U,W⟩:=Ex (w3.alloc (.cells #[.slice cw (AN a).goals.length cx,.slice cy c0 cz,.slice c1 c3 c2,.slice c4 c6 c5,Vi c7] 152));have K:Ao w3 U:=by rw[W];exact Mxt
    have f9:U.hz=w3.hz+1:=by rw[W];simp
    have dy:U.heap[w3.hz]?=some (.cells #[.slice cw (AN a).goals.length cx,.slice cy c0 cz,.slice c1 c3 c2,.slice c4 c6 c5,Vi c7] 152 (0,0)):=by rw[W];exact QL w3 _
    have ch:=hd (bp.trans (K.mono bp.size));have e5:=hd (Aj cp.o (fun i hi=>((J.trans (K.mono fs)):Ao w2 U).block i (cp.o.lt i hi).2));have fa:=hd (L.ext (Y:=fun _=>False) K (fun _ _ h=>h));have cg:=hd ((K.block _ (Ab bn)).trans bn);have cj:=hd ((K.block _ (Ab bu)).trans bu);have ck:=hd ((K.block _ (Ab bx)).trans bx);have cr:=hd dy;have e0:=hd W;clear J L bp bn bu bx K dy W;go_wp2_with fail
    go_loopg [16] (ks.length+1) (fun gk i wr=>∃(j:Nat)(d:ND)(al am an ao ap:Value),i=Vi j/\j<=ks.length/\ks.length-j<gk/\Ad (fun b=>b=w3.hz) U wr/\wr.heap[w3.hz]?=some (.cells #[al,am,an,ao,ap] 152 (0,0))/\
     Bx (fun _=>False) wr al am an ao ap d/\AA cs (AN a) ks 0=AA cs d (ks.drop j) j)
    case atStart=>
     rw[<-e0.o];exact⟨0,AN a,_,_,_,_,_,Yg,Qm _,Yo,Ad.refl _ _,cr.o,fa.o,Ys⟩
    case round=>
     obtain⟨j,d,al,am,an,ao,ap,rfl,f2,f1,I,b8,L,dp⟩:=hrel;obtain⟨a9,ba,bb,bd,bc,be,bg,bf,bh,bj,bi,bk,rfl,rfl,rfl,rfl,rfl⟩:=L.len;obtain⟨d7,d8,d9,ea,eb,fv⟩:=C5 b8;have ga:=I.size;have bo:=(I.block _ (Ab cg.o) Yo).trans cg.o;have bv:=(I.block _ (Ab cj.o) Yo).trans cj.o;have dh:=(I.block _ (Ab ck.o) Yo).trans ck.o;obtain⟨m,b1,n⟩:=Gu bo;obtain⟨s,y,z,A,B,C⟩:=C5 bv;obtain⟨q0,cd,fw⟩:=Gu dh;have dt:=By e5.o cr.o Yd I;have bq:Ao w1 wr:=ch.o.trans (I.below (by have:=ch.o.size;omega) (fun i e=>by omega));have dc:Ao w wr:=T.o.trans (bq.mono Yo);have Z:w.hz<wr.hz:=Yo
     have ab:w.hz+1<wr.hz:=Yo
     have dx:w1.hz<wr.hz:=Yo
     have fm:w3.hz<wr.hz:=Yo
     have e6:=hd I;have e7:=hd b8;have ct:=hd L;have au:=hd dp;have co:=hd dt;have ag:=hd bq;have ci:=hd dc;have aq:=hd bo;have ar:=hd bv;clear I b8 L dp dt bq dc bo bv dh;have aj:Hd (∀(k:Nat)(w':World),(AA cs d (ks.drop j) j).2=(7,k)->Ad (fun b=>w.hz<=b) wr w'->Ao w w'/\M0 p q x (Rq #[.agg #[.slice aa a.1.length F,.slice na a.2.length D],.agg #[Nl,Nl,Nl,Nl,Vi 0],Vi 7,Vi k]) w'):=fun k w' fk P=>by
      refine⟨ci.o.trans (P.below Yo (fun _ h=>h)),Or.inl ⟨7,k,Yo,?_,_,_,_,_,_,_,rfl⟩⟩;rw[E.o,au.o];exact fk
     by_cases b4:j<ks.length
     ·obtain⟨k,P⟩:∃k,ks[j]?=some k:=⟨_,Qb b4⟩;have dm:ks.drop j=k::ks.drop (j+1):=by rw[QC b4,(Qa.1 P).2]
      have f3:=e4.o k (Qh P);obtain⟨cb,gc,gd,ds,fx,dr,f5⟩:=An co.o Yo;simp only[QH]at ds;obtain⟨rfl,_,rfl⟩:=ds;have d5:wr.cell? ⟨cb,j,none⟩=some (Vi k):=Ag co.o j _ (by simp only[AM,Qj,P,Option.map_some]);have f4:=Ab dr;have ai:=hd dm;clear dm dr P
      by_cases f:d.goals=[]
      ·have hz:(((d.goals.length:Nat):Int)==0)=true:=by rw[f];rfl
       have H:Hd ((AA cs d (ks.drop j) j).2=(7,j)):=by show _=_;rw[ai.o];exact Ch (Or.inl f)
       clear f;go_wp2;refine bodyPost_ret (v:= .tuple #[.agg #[.slice aa a.1.length F,.slice na a.2.length D],.agg #[Nl,Nl,Nl,Nl,Vi 0],Vi 7,Vi j]) (by simp[results,results115,go_sem,m,b1,n,s,y,z,A,B,C,Z,ab]) rfl ?_;exact aj.o j _ H.o Mst
      ·have hz:(((d.goals.length:Nat):Int)==0)=false:=by
        rw[Qu];intro e;exact f (List.eq_nil_of_length_eq_zero Yo)
       by_cases fl:k<cs.length
       ·obtain⟨c,b2⟩:∃c,cs[k]?=some c:=⟨_,Qb fl⟩;have er:Hd (∀N u,Ao wr.drew u->(∀k,N k->wr.hz<=k/\k<u.hz)->Calls prog 147 #[.slice la cs.length d6,.agg #[.slice a9 d.goals.length ba,.slice bb bd bc,.slice be bg bf,.slice bh bj bi,Vi bk],Vi k] u fun e eh=>∃r,e= .returned r/\Ao u eh/\SE d c k N r eh):=fun N u l bz=>by
         have d4:Ao wr u:=l.undrew;refine IQ u N _ cs xs _ _ _ _ _ d k c (fb.o.ext (ag.o.trans (d4.mono ag.o.size)) (fun i hi h=> ?_)) e1.o fi (ct.o.ext d4 (fun i hi h=> ?_)) (fun i h=>(bz i h).2) b2 f
         ·have:=(bz i h).1;have:=ag.o.size;omega
         ·have:=(bz i h).1;omega
        have cm:=hd b2;have e3:=hd f;clear b2 f;go_wp2_with fail;refine DM Yk [.pur (.slice la cs.length d6),.pur (.agg #[.slice a9 d.goals.length ba,.slice bb bd bc,.slice be bg bf,.slice bh bj bi,Vi bk]),.pur (.slice (some ⟨cb,0,none⟩) ks.length fu),.pur (Vi j),.pur (.pointer (some ⟨cb,j,none⟩)),.pur (Vi k),
         .cal,.post (fun v=>v),.post (A7 0),.post (A7 1),.alo 152 #[Nl,Nl,Nl,Nl,Vi 0] 11 (fun v=>cellsOf (A7 0 v)),.sto 10,.post (A7 1)] 6 Yk (SE d c k) 147 _ SE.stable er.o ?_ rfl Yd ?_
        ·refine⟨fun vc β u l=> ?_,fun vc β u l=> ?_,fun vc β u l=> ?_,fun vc β u l=> ?_,fun vc β u l=> ?_,fun vc β u l=> ?_,fun vc β u=> ?_,?_,?_,?_,fun vc β u=> ?_,?_,?_,trivial⟩
         all_goals try(simp[pa,Kd.val,go_sem,l.up d7,l.up d8,l.up d9,l.up ea,l.up eb,l.up d5,b4];done)
         all_goals try(simp[pa,Kd.val,go_sem];done)
         all_goals try(rintro vc β N u ⟨ec,ed,ee,ef,eg,R,rfl,_⟩;simp[pa,Kd.val,go_sem,A7];done)
         rintro vc β N u t gh gg cl dn ⟨ec,ed,ee,ef,eg,R,rfl,⟨a1,a5,ax,a2,a6,ay,a3,a7,az,a4,a8,a0,ce,M⟩,_⟩ hb;simp only[Value.agg.injEq]at M;simp at M;obtain⟨rfl,rfl,rfl,rfl,rfl⟩:=M;simp at dn;obtain⟨rfl,rfl,rfl,rfl⟩:=dn;obtain⟨ei,ej,ek,el,em,en⟩:=C5 hb;refine⟨_,?_,Af (Af (Af (Af (Af hb 0 _) 1 _) 2 _) 3 _) 4 _,(((((Ad.refl (only (β 10)) u).put 0 _).put 1 _).put 2 _).put 3 _).put 4 _⟩;simp[pa,Kd.val,go_sem,ei,ej,ek,el,em,en,A7]
        rintro vc β w4 G ⟨ec,ed,ee,ef,eg,R,rfl,⟨a1,a5,ax,a2,a6,ay,a3,a7,az,a4,a8,a0,ce,M⟩,d3,dz⟩ di _;simp only[Value.agg.injEq]at M;simp at M;obtain⟨rfl,rfl,rfl,rfl,rfl⟩:=M;have G:=G.undrew;have f8:=G.size;obtain⟨fy,dj⟩:=di 10 _ _ _ _ rfl;have dk:w4.heap[β 10]?=some (.cells #[.slice a1 a5 ax,.slice a2 a6 ay,.slice a3 a7 az,.slice a4 a8 a0,Vi ce] 152 (0,0)):=dj;obtain⟨ei,ej,ek,el,em,en⟩:=C5 dk;have b7:=(G.block _ fm).trans e7.o;have c9:=(G.block _ Z).trans aq.o;have de:=(G.block _ ab).trans ar.o;obtain⟨d7,d8,d9,ea,eb,fv⟩:=C5 b7;obtain⟨m,b1,n⟩:=Gu c9;obtain⟨s,y,z,A,B,C⟩:=C5 de;have q0:w4.cell? ⟨w1.hz,0,none⟩=some (.slice aa a.1.length F):=(G.cell (p:=⟨w1.hz,0,none⟩) dx).trans q0;have cd:w4.cell? ⟨w1.hz,1,none⟩=some (.slice na a.2.length D):=(G.cell (p:=⟨w1.hz,1,none⟩) dx).trans cd;have fn:w.hz<w4.hz:=Yo
        have fo:w.hz+1<w4.hz:=Yo
        have cq:=hd b7;have cn:=hd G;have e8:=hd dz;have cu:=hd d3;generalize fh:β 10=bt at*;clear dj dk b7 c9 de G dz d3 di d5;simp only[B4,pa,Kd.val,if_true,Act.put,A7];rw[fh]
        by_cases ae:R=1\/R=2
        ·have d0:=(e8.o ae).ext (Y:=fun _=>False) (Below.refl _ w4) (fun _ _ h=>h.elim);have e9:=hd d0;have e2:Hd (AA cs (AN a) ks 0=AA cs (Ax d c k).1 (ks.drop (j+1)) (j+1)):=by
          show _=_;rw[au.o,ai.o];exact FP cm.o e3.o (by rw[<-cu.o];exact ae)
         clear d0;rcases ae with rfl|rfl
         all_goals
          go_wp2
          go_roundg (ks.length-j)
          case measure=>omega
          case rel=>
           have dd:Ad (fun b=>b=w3.hz) w4 (((((w4.setCell ⟨w3.hz,0,none⟩ (.slice a1 a5 ax)).setCell ⟨w3.hz,1,none⟩ (.slice a2 a6 ay)).setCell ⟨w3.hz,2,none⟩ (.slice a3 a7 az)).setCell ⟨w3.hz,3,none⟩ (.slice a4 a8 a0)).setCell ⟨w3.hz,4,none⟩ (Vi ce)):=(((((Ad.refl (only w3.hz) w4).put 0 _).put 1 _).put 2 _).put 3 _).put 4 _;exact⟨j+1,(Ax d c k).1,_,_,_,_,_,Yg,Yo,Yo,e6.o.then (S':=fun b=>b=w3.hz\/wr.hz<=b) (((Ad.of_below cn.o).mono (fun _ _ h=>Or.inr h)).then dd (fun _ _ h=>Or.inl h)) (fun i hi h=>by omega),Af (Af (Af (Af (Af cq.o 0 _) 1 _) 2 _) 3 _) 4 _,e9.o.box cq.o Yd Yd Yd dd,e2.o⟩
        ·have fz:((R:Int) !=1)=true:=by rw[bne_iff_ne];omega
         have f0:((R:Int) !=2)=true:=by rw[bne_iff_ne];omega
         have H:Hd ((AA cs d (ks.drop j) j).2=(7,j)):=by show _=_;rw[ai.o];exact Eo cm.o (by rw[<-cu.o];exact ae)
         clear ae;go_wp2;refine bodyPost_ret (v:= .tuple #[.agg #[.slice aa a.1.length F,.slice na a.2.length D],.agg #[Nl,Nl,Nl,Nl,Vi 0],Vi 7,Vi j]) (by simp[results,results115,go_sem,m,b1,n,s,y,z,A,B,C,fn,fo]) rfl ?_;exact aj.o j _ H.o (((Ad.of_below cn.o).mono (fun i hi h=>by omega)).trans Mst)
       ·have f6:¬((k:Int)<(cs.length:Int)):=Yo
        have H:Hd ((AA cs d (ks.drop j) j).2=(7,j)):=by show _=_;rw[ai.o];exact Ch (Or.inr Yo)
        clear f;go_wp2;refine bodyPost_ret (v:= .tuple #[.agg #[.slice aa a.1.length F,.slice na a.2.length D],.agg #[Nl,Nl,Nl,Nl,Vi 0],Vi 7,Vi j]) (by simp[results,results115,go_sem,m,b1,n,s,y,z,A,B,C,Z,ab]) rfl ?_;exact aj.o j _ H.o Mst
     ·have fj:j=ks.length:=Yo
      subst fj
      by_cases f:d.goals=[]
      ·have hz:¬(0:Int)<((d.goals.length:Nat):Int):=by rw[f];simp
       have H:Hd (Bo p q x=(a.2,d,0,0)):=by
        show _=_;rw[E.o,au.o,List.drop_eq_nil_of_le (Qe _)];unfold AA;rw[if_pos f]
       clear f;go_wp2_with fail;go_region
       all_goals
        go_wp2;refine bodyPost_ret (v:= .tuple #[.agg #[.slice aa a.1.length F,.slice na a.2.length D],.agg #[.slice a9 d.goals.length ba,.slice bb bd bc,.slice be bg bf,.slice bh bj bi,Vi bk],Vi 0,Vi 0]) (by simp[results,results115,go_sem,m,b1,n,s,y,z,A,B,C,Z,ab]) rfl ?_;refine⟨ci.o.trans (Ad.below (S:=fun b=>w.hz<=b) Mst Yo (fun _ h=>h)),Or.inr ⟨a,_,_,_,_,_,_,_,d,H.o,ah.o,rfl,?_,?_⟩⟩
        ·exact(cf.o.ext ag.o).keep (S:=fun b=>w.hz<=b/\b<w.hz+2) Mst (fun b hb=>by
          have hb:b=w.hz\/b=w.hz+1:=Yo
          rcases hb with rfl|rfl
          ·exact⟨_,_,_,aq.o,Yd,Yd⟩
          ·exact⟨_,_,_,ar.o,Yd,Yd⟩)
        ·exact ct.o.keep (S:=fun b=>w.hz<=b/\b<w.hz+2) Mst (fun b hb=>by
          have hb:b=w.hz\/b=w.hz+1:=Yo
          rcases hb with rfl|rfl
          ·exact⟨_,_,_,aq.o,Yd,Yd,Yd⟩
          ·exact⟨_,_,_,ar.o,Yd,Yd,Yd⟩)
      ·have hz:(0:Int)<((d.goals.length:Nat):Int):=by
        have:d.goals.length≠0:=fun e=>f (List.eq_nil_of_length_eq_zero e);omega
       have H:Hd ((AA cs d (ks.drop ks.length) ks.length).2=(7,ks.length)):=by
        show _=_;rw[List.drop_eq_nil_of_le (Qe _)];unfold AA;rw[if_neg f]
       clear f;go_wp2;refine bodyPost_ret (v:= .tuple #[.agg #[.slice aa a.1.length F,.slice na a.2.length D],.agg #[Nl,Nl,Nl,Nl,Vi 0],Vi 7,Vi ks.length]) (by simp[results,results115,go_sem,m,b1,n,s,y,z,A,B,C,Z,ab]) rfl ?_;exact aj.o ks.length _ H.o Mst
   ·have E:Hd ((Bo p q x).2.2=(6,cc)):=by show _=_;simp[Bo,aw.o,ah.o,ca,ad]
    clear ad;go_wp2;refine bodyPost_ret (v:= .tuple #[.agg #[.slice aa a.1.length F,.slice na a.2.length D],.agg #[Nl,Nl,Nl,Nl,Vi 0],Vi 6,Vi cc]) (by simp[results,results115,go_sem,m,b1,n,s,y,z,A,B,C,du,dv,dw]) rfl ?_;exact⟨T.o.trans ((af.o.mono Yo).trans (Ad.below (S:=fun i=>w.hz<=i) Mst Yo (fun i e=>e))),Or.inl ⟨6,cc,Yo,E.o,_,_,_,_,_,_,rfl⟩⟩
def Jy(N:List (Lu×Nat))(s:BL):BL:=if s.name=[]\/(s.name,s.args)∈N then s else⟨s.name++[0],s.num,s.args⟩
theorem W5{N:List (Lu×Nat)}:∀{l:Ly}{k:Nat},Wf k l->Wf k (l.map (Jy N)):=by
 intro l
 induction l with
 |nil=>intro k h;exact h
 |cons s l j=>
  intro k h;obtain⟨e,f,g,i⟩:=h;have a:(Jy N s).args=s.args:=by unfold Jy;split<;>rfl
  have b:(Jy N s).name=[]↔s.name=[]:=by
   unfold Jy;split
   ·exact Iff.rfl
   ·rename_i h;simp at h⊢;exact h.1
  have c:(Jy N s).num=s.num:=by unfold Jy;split<;>rfl
  refine⟨e,fun h=>by rw[a];exact f (b.1 h),fun h=>by rw[c];exact g (fun d=>h (b.2 d)),?_⟩;rw[a];exact j i
theorem I5.nma{a b:Ly}(h:I5 σ a b)(n:Nat):∀s∈σ n,s.name≠[]->∃t∈a++b,t.name=s.name/\t.args=s.args:=by
 intro s m hn;refine Classical.byContradiction (fun g=> ?_);have g:∀t∈a++b,¬(t.name=s.name/\t.args=s.args):=fun t c e=>g ⟨t,c,e⟩;obtain⟨N,d⟩:=Ex ((a++b).map (fun t=>(t.name,t.args)));have i:Ts (fun n=>(σ n).map (Jy N)):=fun n=>W5 (h.ts n);have j:∀l:Ly,(∀t∈l,(t.name,t.args)∈N)->ap (fun n=>(σ n).map (Jy N)) l=(ap σ l).map (Jy N):=by
  intro l
  induction l with
  |nil=>intro _;rfl
  |cons t l q=>
   intro c;rw[Bw,Bw,Qr,q (fun u o=>c u (by simp[o]))]
   congr 1
   unfold EG;split
   ·rfl
   ·have:Jy N t=t:=by unfold Jy;rw[if_pos (Or.inr (c t Ys))]
    simp[this]
 have ha:=j a (fun t c=>by rw[d];exact Q0.2 ⟨t,by simp[c],rfl⟩);have hb:=j b (fun t c=>by rw[d];exact Q0.2 ⟨t,by simp[c],rfl⟩);have p:=h.wide _ i (by rw[ha,hb,h.unif]) n;have f:=KQ i p s m hn;have k:¬(s.name=[]\/(s.name,s.args)∈N):=by
  rintro(h|h)
  ·exact hn h
  ·rw[d]at h;obtain⟨t,c,e⟩:=Q0.1 h;simp only[Prod.mk.injEq]at e;exact g t c e
 unfold Jy at f;rw[if_neg k]at f;have:=congrArg (fun s=>s.name.length) f;simp at this
def IL(l:Ly):Prop:=∀s∈l,s.args<=4
def Mk(n:ND):Prop:=∀t∈n.terms,IL t
def Ma(c:Dt):Prop:=IL c.head/\∀t∈c.body,IL t
theorem UT(n:Nat):IL (vr n):=fun s a=>by simp[vr]at a;subst a;simp
theorem IL.ap(h:IL l)(c:∀n,IL (σ n)):IL (ap σ l):=by
 intro s a;simp only[YtlmjilpjmgjjcaaGreatDoor.ap,List.mem_flatMap]at a;obtain⟨t,b,a⟩:=a;unfold EG at a;split at a
 ·exact c _ s a
 ·simp at a;subst a;exact h s b
theorem M5(v n:Nat):IL (AX v n):=UT _
theorem I5.few{a b:Ly}(h:I5 σ a b)(ha:IL a)(hb:IL b)(n:Nat):IL (σ n):=by
 intro s d
 by_cases hn:s.name=[]
 ·rw[Nv (h.ts n) s d hn];omega
 ·obtain⟨t,c,_,e⟩:=h.nma n s d hn;rw[<-e];rcases Qk.1 c with c|c
  ·exact ha t c
  ·exact hb t c
theorem NU{n:ND}{q:Nat}{i:ND}(h:Kb n c k q i)(r:q=1\/q=2)(hn:Mk n)(j:Ma c):Mk i:=by
 obtain⟨g,gs,l,h⟩:=h;rcases h with⟨rfl,_⟩|⟨rfl,_⟩|⟨σ,o,_,_,rfl⟩
 ·omega
 ·omega
 ·have m:IL g.1:=hn g.1 (by simp[ND.terms,l]);have p:IL (ap (AX n.vars) c.head):=j.1.ap (M5 _);have d:=o.few m p;intro t e;rw[E5]at e;simp only[Qk,Q0]at e;rcases e with⟨u,a,rfl⟩|⟨u,a,rfl⟩|⟨u,a,rfl⟩
  ·rcases a with⟨b,hb,rfl⟩|⟨x,f,rfl⟩
   ·exact((j.2 b hb).ap (M5 _)).ap d
   ·exact(hn x.1 (by simp only[ND.terms,l,Qx,Qy,Qp,Qk,Q0];exact Or.inr (Or.inl ⟨x,f,rfl⟩))).ap d
  ·exact(hn u (by simp[ND.terms,a])).ap d
  ·rcases a with⟨x,f,rfl⟩|a
   ·exact(hn x.1 (by simp only[ND.terms,Qk,Q0];exact Or.inr (Or.inr ⟨x,f,rfl⟩))).ap d
   ·simp at a;subst a;exact m.ap d
def OT(l:Ly):Nat:=(l.filter (fun s=>s.name.isEmpty)).length
theorem Vw:∀{l:Ly}{k:Nat},Wf k l->IL l->4*OT l<=3*l.length+k:=by
 intro l
 induction l with
 |nil=>intro k h _;simp[OT]
 |cons s l e=>
  intro k h a;obtain⟨f,b,g,c⟩:=h;have:=e c (fun t d=>a t (by simp[d]));have i:=a s Ys;unfold OT at this⊢
  by_cases hn:s.name=[]
  ·have:=b hn;rw[List.filter_cons_of_pos (by simp[hn])];simp only[Qf];omega
  ·rw[List.filter_cons_of_neg (by simp[hn])];simp only[Qf];omega
theorem Rl:∀(l:Ly)(met:List Nat),(AC l met).2.length<=met.length+OT l:=by
 intro l
 induction l with
 |nil=>intro met;simp[AC]
 |cons s l b=>
  intro met;simp only[AC];unfold OT;split
  ·rename_i hn;have a:=b (Ev s.num met);have c:(Ev s.num met).length<=met.length+1:=by unfold Ev;split<;>simp
   unfold OT at a;rw[List.filter_cons_of_pos (by simp[hn])];simp only[Qf];omega
  ·rename_i hn;have a:=b met;unfold OT at a;rw[List.filter_cons_of_neg (by simp[hn])];exact a
theorem SM:∀(ts:Ll)(met:List Nat),(∀t∈ts,OT t<=22)->(Aw ts met).2.length<=met.length+22*ts.length:=by
 intro ts
 induction ts with
 |nil=>intro met _;simp[Aw]
 |cons t ts b=>
  intro met h;simp only[Aw,Qf];have c:=b (AC t met).2 (fun u a=>h u (by simp[a]));have d:=Rl t met;have e:=h t Ys;omega
structure SF(st:RS):Prop where
 sb:SB st
 atom:IL st.atom
 head:IL st.head
 body:∀l∈st.body,IL l
 cls:∀c∈st.clauses,IL c.head/\∀l∈c.body,IL l
theorem OL{s:BL}(h:IL l)(b:s.args<=4):IL (l++[s]):=fun t a=>by
 rcases Qk.1 a with a|a
 ·exact h t a
 ·simp at a;subst a;exact b
theorem Nw:IL []:=fun s a=>by simp at a
theorem QN:∀l∈([]:Ll),IL l:=fun l hl=>by simp at hl
theorem P6(h:SF st)(b:Di st=false)(hn:st.next=0\/st.next=1\/st.next=2):IL (Br st):=by
 unfold Br
 cases f:st.opn with
 |nil=>exact h.atom
 |cons n r=>
  simp only
  by_cases d:st.next=2
  ·have ha:Gq st<4:=by
    unfold Di at b;rw[if_neg Yo,if_neg Yo,if_pos d]at b;simp at b;omega
   intro s c;obtain⟨i,hi⟩:=List.mem_iff_getElem?.1 c;rw[List.getElem?_modify]at hi
   cases a:st.atom[i]? with
   |none=>rw[a]at hi;simp at hi
   |some x=>
    rw[a]at hi;simp at hi;subst hi;split
    ·rename_i e;subst e;have:Gq st=x.args:=by unfold Gq;rw[f];simp[a]
     simp only;omega
    ·exact h.atom x (Qh a)
  ·have:=h.sb.empty d Yo Yo;rw[this];intro s c;simp at c
theorem SF.endAtom(h:SF st):IL (AG st).atom/\IL (AG st).head/\(∀l∈(AG st).body,IL l)/\∀c∈(AG st).clauses,IL c.head/\∀l∈c.body,IL l:=by
 unfold AG;split
 ·refine⟨fun s a=>by simp at a,h.head,fun l hl=> ?_,h.cls⟩;simp at hl;rcases hl with hl|rfl
  ·exact h.body l hl
  ·exact h.atom
 ·exact⟨fun s a=>by simp at a,h.atom,h.body,h.cls⟩
theorem SF.take{kd len:Nat}{t:Lu}(h:SF st)(b:Bi st kd len=0)(p:len=t.length):SF (AT st kd t):=by
 have a:=Hw b;have m:=h.sb.take b p;have j:kd=1\/kd=2->Di st=false:=by
  intro d;unfold Bi at b;rw[if_neg (by simp[a])]at b;split at b
  ·omega
  ·rename_i n
   cases o:Di st with
   |false=>rfl
   |true=>exact absurd ⟨d,Or.inr o⟩ n
 have k:kd=1\/kd=2->st.next=0\/st.next=1\/st.next=2:=by
  intro d;unfold A2 at a;split at a
  ·omega
  ·split at a
   ·omega
   ·split at a
    ·rcases d with rfl|rfl
     ·simp[Bp]at a
     ·simp[Bp]at a
    ·split at a
     ·rcases d with rfl|rfl
      ·simp[Bp]at a
      ·simp[Bp]at a
     ·simp at a
 obtain⟨e,f,g,i⟩:=h.endAtom;refine⟨m,?_,?_,?_,?_⟩
 all_goals clear m
 all_goals
  unfold AT;split
  ·rename_i d
   first
    |exact OL (P6 h (j (Or.inl d)) (k (Or.inl d))) Ys
    |exact h.head
    |exact h.body
    |exact h.cls
  split
  ·rename_i _ d
   first
    |exact OL (l:=Br st) (P6 h (j (Or.inr d)) (k (Or.inr d))) Ys
    |exact h.head
    |exact h.body
    |exact h.cls
  split
  ·first|exact h.atom|exact h.head|exact h.body|exact h.cls
  split
  ·unfold F7
   first|exact h.atom|exact h.head|exact h.body|exact h.cls
  split
  ·unfold EB;split
   ·first|exact e|exact f|exact g|exact i
   ·first|exact h.atom|exact h.head|exact h.body|exact h.cls
  split
  ·first|exact e|exact f|exact g|exact i
  split
  ·unfold AE
   first
    |exact e
    |exact Nw
    |exact QN
    |exact(fun c b=>by
      simp only[Qk,List.mem_singleton]at b;rcases b with b|rfl
      ·exact i c b
      ·exact⟨f,g⟩)
  ·first|exact h.atom|exact h.head|exact h.body|exact h.cls
theorem SF.run{e:Nat}:∀{ts:List BZ}{st:RS},SF st->(ET e ts st).1=0->SF (ET e ts st).2.2:=by
 intro ts
 induction ts with
 |nil=>intro st h _;unfold ET;split<;>exact h
 |cons t ts b=>
  intro st h h0;unfold ET at h0⊢;split at h0
  ·rename_i a;exact absurd h0 a
  ·rename_i a;rw[if_neg a];exact b (h.take (len:=t.text.length) Yo rfl) h0
theorem SF.start(q:Bool):SF ⟨q,if q then 1 else 0,q,[],[],[],[],[],[]⟩:=⟨SB.start q,Nw,Nw,QN,fun c a=>by simp at a⟩
theorem LX(h:BD s=some cs):∀c∈cs,Ma c:=by
 obtain⟨_,h0,e,_⟩:=CA h;have a:SF (Ct s false).2.2:=(SF.start false).run h0;intro c b;exact a.cls c (by rw[e];exact b)
theorem N0(h:Cr s=some a):Mk (AN a):=by
 obtain⟨_,h0,e,_⟩:=Cs h;have c:SF (Ct s true).2.2:=(SF.start true).run h0;have d:=(c.cls ⟨[],a.1,a.2⟩ (by rw[e];simp)).2;intro t b;simp only[ND.terms,AN,QK,List.map_nil,Qs,Qk,Q0,Function.comp]at b;rcases b with⟨u,f,rfl⟩|⟨i,_,rfl⟩
 ·exact d u f
 ·exact UT i
def Jt(n:ND)(c:Dt)(k:Nat)(X:Np)(v:Value)(u:World):Prop:=∃g1 g2 g3 v1 v2 v3 r1 r2 r3,∃uu q:Nat,v= .tuple #[.agg #[.slice g1 g2 g3,.slice v1 v2 v3,.slice r1 r2 r3,.int .i64 uu],.int .i64 q]/\
 ((q=0/\(n.goals=[]\/Kb n c k 0 n))\/(q=2/\∃ch,Kb n c k 3 ch)\/(q=1/\∃ch qq,(qq=1\/qq=2)/\Kb n c k qq ch/\uu=ch.vars/\g2=ch.goals.length/\
  (∃vs,AK u 0 (.slice g1 g2 g3) (ch.goals.map (·.1)) vs/\(∀j,(Value.slice g1 g2 g3).ownBlock=some j->¬X j)/\∀x∈vs,∀j,x.ownBlock=some j->¬X j)/\
  (∃vs,AK u 0 (.slice v1 v2 v3) ch.vals vs/\(∀j,(Value.slice v1 v2 v3).ownBlock=some j->¬X j)/\∀x∈vs,∀j,x.ownBlock=some j->¬X j)/\
  (∃vs,AK u 0 (.slice r1 r2 r3) (ch.done.map (·.1)) vs/\(∀j,(Value.slice r1 r2 r3).ownBlock=some j->¬X j)/\∀x∈vs,∀j,x.ownBlock=some j->¬X j)))
theorem Ga{e:Np}{u n:World}(h:∃vs,AK u 0 v ls vs/\(∀j,v.ownBlock=some j->¬X j)/\∀x∈vs,∀j,x.ownBlock=some j->¬X j)(hb:∀k,k<u.hz->¬X k->n.heap[k]?=u.heap[k]?)(m:∀k,k<u.hz->e k->X k):
  ∃vs,AK n 0 v ls vs/\(∀j,v.ownBlock=some j->¬e j)/\∀x∈vs,∀j,x.ownBlock=some j->¬e j:=by
 obtain⟨vs,h,f,g⟩:=h;have r:vs.length=ls.length:=by have:=h.owns.1;omega
 have o:∀x∈vs,∃l,BJ u x l:=fun x c=>by
  obtain⟨i,hi⟩:=List.mem_iff_getElem?.1 c;have q:=(Qa.1 hi).1;obtain⟨y,b,d⟩:=h.all i _ (Qb Yo);rw[hi]at b;simp only[Qo]at b;subst b;exact⟨_,d⟩
 refine⟨vs,⟨Aj h.owns (fun j a=>hb j (h.owns.lt j a).2 (f j a)),fun i l hi=> ?_⟩,fun j a c=>f j a (m j (h.owns.lt j a).2 c),fun x c j a p=> ?_⟩
 ·obtain⟨y,b,d⟩:=h.all i l hi;exact⟨y,b,Aj d (fun j a=>hb j (d.lt j a).2 (g y (Qh b) j a))⟩
 ·obtain⟨l,hl⟩:=o x c;exact g x c j a (m j (hl.lt j a).2 p)
theorem Jt.stable{n:ND}:∀X b v u a,Jt n c k X v u->(∀k,k<u.hz->¬X k->a.heap[k]?=u.heap[k]?)->u.hz<=a.hz->(∀k,k<u.hz->b k->X k)->Jt n c k b v a:=by
 rintro X b v u a ⟨f,g,i,A,B,C,w,x,y,z,q,rfl,h⟩ hb _ d;refine⟨f,g,i,A,B,C,w,x,y,z,q,rfl,?_⟩;rcases h with h|h|⟨rfl,e,t,j,l,m,o,p,r,s⟩
 ·exact Or.inl h
 ·exact Or.inr (Or.inl h)
 ·exact Or.inr (Or.inr ⟨rfl,e,t,j,l,m,o,Ga p hb d,Ga r hb d,Ga s hb d⟩)
theorem NG.toX{n:ND}{e:Ending}(h:NG n c k w e w')(l:∀j,X j->j<w.hz):∃v,e= .returned v/\Ao w w'/\Jt n c k X v w':=by
 obtain⟨u,o,p,r,E,F,G,A,B,C,D,q,rfl,h⟩:=h;refine⟨_,rfl,u,o,p,r,E,F,G,A,B,C,D,q,rfl,?_⟩;have i:∀{v:Value}{ls:Ll},BO w.hz w' v ls->∃vs,AK w' 0 v ls vs/\(∀j,v.ownBlock=some j->¬X j)/\∀x∈vs,∀j,x.ownBlock=some j->¬X j:=fun{v ls} h=>by
  obtain⟨vs,b,d,a⟩:=h;exact⟨vs,b,fun j f g=>by have:=d j f;have:=l j g;omega,fun x g j f y=>by have:=a x g j f;have:=l j y;omega⟩
 rcases h with h|h|⟨rfl,m,z,b,d,a,s,t⟩
 ·exact Or.inl h
 ·exact Or.inr (Or.inl h)
 ·exact Or.inr (Or.inr ⟨rfl,m,z,b,d,s,t,i a.goals,i a.vals,i a.done⟩)
def GW(cs:Lc)(a:Ll×At)(ks:List Nat)(w:World)(e:Ending)(w':World):Prop:=Ao w w'/\
 (((AA cs (AN a) ks 0).2.1≠0/\e= .returned (.tuple #[.agg #[.slice none 0 0,.slice none 0 0,.slice none 0 0,.int .i64 0],.agg #[.int .i64 (AA cs (AN a) ks 0).2.1,.int .i64 (AA cs (AN a) ks 0).2.2]]))\/
  ((AA cs (AN a) ks 0).2=(0,0)/\∃g1 g2 g3 v1 v2 v3 r1 r2 r3,∃uu:Nat,∃n,e= .returned (.tuple #[.agg #[.slice g1 g2 g3,.slice v1 v2 v3,.slice r1 r2 r3,.int .i64 uu],.agg #[.int .i64 0,.int .i64 0]])/\Gd w' (.slice g1 g2 g3) (.slice v1 v2 v3) (.slice r1 r2 r3) n/\FU n/\NK n/\Mk n/\Co n (AA cs (AN a) ks 0).1))
theorem DD.cell{lb:Nat}{xs:List (Lv)}(h:DD w (.slice (some ⟨lb,0,none⟩) cs.length cap) cs xs)(g:cs[k]?=some c):∃b a nv,w.cell? ⟨lb,k*3,none⟩=some b/\w.cell? ⟨lb,k*3+1,none⟩=some a/\w.cell? ⟨lb,k*3+2,none⟩=some nv/\MV w b a nv c:=by
 obtain⟨b,a,nv,m,i⟩:=h.all k c g;have q:∀(xs:List (Lv))(k:Nat),(∀x∈xs,x.length=3)->xs[k]?=some [b,a,nv]->∀j,j<3->xs.flatten[k*3+j]?=[b,a,nv][j]?:=by
  intro xs
  induction xs with
  |nil=>intro k _ h;simp at h
  |cons x xs p=>
   intro k f d j l;rw[Q4];have n:=f x Ys
   cases k with
   |zero=>
    simp at d;subst d;rw[Qc Yp];simp
   |succ k=>
    rw[Qd Yo,n];have:=p k (fun y o=>f y (by simp[o])) (by simpa using d) j l;rw[<-this]
    congr 1
    omega
 have e:=q xs k h.three m;refine⟨b,a,nv,Ag h.owns _ _ ?_,Ag h.owns _ _ ?_,Ag h.owns _ _ ?_,i⟩
 ·have:=e 0 Yo;simpa using this
 ·have:=e 1 Yo;simpa using this
 ·have:=e 2 Yo;simpa using this
structure Vt(w:World)(nb:Nat)(cs:List Dt)(a:List (List BL)×At)(ks:List Nat)(i:Nat)(n m:ND)(gv vv rv:Value)(wr:World):Prop where
 ext:Ao w wr
 res:NB wr (w.heap.size+1) (.slice none 0 0) (.slice none 0 0) (.slice none 0 0) 0
 flt:wr.heap[w.heap.size+2]?=some (.cells #[.int .i64 0,.int .i64 0] 91 (0,0))
 box:NB wr nb gv vv rv n.vars
 node:Gd wr gv vv rv n
 ok:FU n
 nm:NK n
 few:Mk n
 same:Co n m
 fol:AA cs (AN a) ks 0=AA cs m (ks.drop i) i
theorem PZ(w:World)(b4 ay b3 nv dc:Value)(cs:Lc)(xs:List (Lv))(a:Ll×At)(ks:List Nat)(bn:DD w b4 cs xs)(em:∃a n x,ay= .slice a n x)(hb:AF w b3 a.1)(bc:w.ownsRow 0 9 1 nv a.2.length (Ba a.2))(J:w.ownsRow 0 3 1 dc ks.length (AM ks))
  (ct:∀c∈cs,Kl c/\QU c) (cp:∀c∈cs,Ma c) (e6:cs.length<=24) (ap:FU (AN a)) (ck:NK (AN a)) (cj:Mk (AN a)) (e3:a.1.length<=6) (e4:a.2.length<=121) (fb:ks.length<=400) (cx:∀k∈ks,k<=99):
  Calls prog 68 #[b4,.agg #[ay,b3,nv],dc] w (GW cs a ks w):=by
 obtain⟨a5,a6,a7,rfl⟩:=em;obtain⟨b1,b2,rfl⟩:=hb.shape;obtain⟨na,dk,rfl⟩:=Ac bc;obtain⟨fg,fh,rfl⟩:=Ac J;obtain⟨la,et,rfl⟩:=Ac bn.owns;obtain⟨ah,Q⟩:=Ex (((w.alloc (.cells #[.slice a5 a6 a7,.slice b1 a.1.length b2,.slice na a.2.length dk] 107)).alloc (.cells #[Nl,Nl,Nl,Vi 0] 87)).alloc (.cells #[Vi 0,Vi 0] 91));have a9:Ao w ah:=by rw[Q];exact Mxt
 have eg:ah.hz=w.hz+3:=by rw[Q];simp
 have bo:NB ah (w.hz+1) Nl Nl Nl 0:=by rw[Q];exact Ah (CU Ys _) _
 have cm:ah.heap[w.hz+2]?=some (.cells #[Vi 0,Vi 0] 91 (0,0)):=by rw[Q];exact CU Ys _
 have da:∀l∈a.1,IG l:=fun l hl=>by
  have aw:l∈(AN a).terms:=by
   unfold ND.terms AN;refine Q9 _ ?_;simp;exact hl
  have aa:=(ap.gs (l,0) (by unfold AN;simp;exact hl)).1;exact Hs (ap.wf l aw) (by have e1:l.length<=30:=aa;omega) (ap.occ l aw) (by have:(AN a).vars=a.2.length:=rfl;omega)
 have bx:=hd (Lj ah (.slice a5 a6 a7) (.slice b1 a.1.length b2) (.slice na a.2.length dk) a.1 a.2 ⟨_,_,_,rfl⟩ (hb.ext a9) (Aj bc (fun j av=>a9.block j (bc.lt j av).2)) Yo Yo da);have bw:=hd bn;have bz:=hd J;have d3:=hd ct;have d6:=hd cx;have HN:=hd ap;have dy:=hd ck;have dx:=hd cj;have d1:=hd cp;have dv:=hd a9;have dz:=hd bo;have d0:=hd cm;clear bn hb bc J ct cx ap ck cj cp a9 bo cm da;go_enter func68,ntmps68;go_wp2_with fail;rw[<-Q];have ex:=hd Q;clear Q;apply bx.o.mono;rintro e w1 ⟨an,F,bk,G,vc,rfl,aa,ay⟩;have eq:=an.size;have bl:Ao w w1:=dv.o.trans (an.mono Yo);have f:Vt w w1.hz cs a ks 0 (AN a) (AN a) (.slice F a.1.length bk) (.slice G a.2.length vc) Nl (w1.alloc (.cells #[.slice F a.1.length bk,.slice G a.2.length vc,Nl,Vi a.2.length] 87)):=by
  have ao:Ao w1 (w1.alloc (.cells #[.slice F a.1.length bk,.slice G a.2.length vc,Nl,Vi a.2.length] 87)):=Mxt;refine⟨bl.trans (ao.mono Yo),(ao.block _ Yo).trans ((an.block _ Yo).trans dz.o),(ao.block _ Yo).trans ((an.block _ Yo).trans d0.o),QL w1 _,⟨?_,ay.ext ao,?_⟩,HN.o,dy.o,dx.o,Co.refl HN.o,Ys⟩
  ·have:(AN a).goals.map (·.1)=a.1:=by unfold AN;rw[QK];exact(List.map_congr_left (fun _ _=>rfl)).trans (List.map_id _)
   rw[this];exact aa.ext ao
  ·exact⟨[],AK.nil _ _⟩
 have d:=hd f;have fe:w.hz+3<=w1.hz:=Yo
 have ey:Hd (Ao w w1):=bl;clear an bl aa ay f bx eq eg;go_wp2
 go_loopg [17] (ks.length+1) (fun gk er wr=>∃(i:Nat)(n m:ND)(cf ds dn:Value),er=Vi i/\i<=ks.length/\ks.length-i<gk/\Vt w w1.hz cs a ks i n m cf ds dn wr)
 case atStart=>exact⟨0,AN a,AN a,_,_,_,Yg,Qm _,Yo,d.o⟩
 case round=>
  obtain⟨j,n,m,cf,ds,dn,rfl,av,e7,f⟩:=hrel;obtain⟨W,X,rfl⟩:=f.node.goals.shape;obtain⟨va,af,rfl⟩:=f.node.vals.shape;obtain⟨ad,ae,rfl⟩:=f.node.done.shape;simp only[Ql]at f
  try simp only[Ql]
  have c9:=f.ext.size;have dg:wr.cell? ⟨w1.hz,0,none⟩=some (.slice W n.goals.length X):=Aa f.box 0 _ rfl;have dh:wr.cell? ⟨w1.hz,1,none⟩=some (.slice va n.vals.length af):=Aa f.box 1 _ rfl;have di:wr.cell? ⟨w1.hz,2,none⟩=some (.slice ad n.done.length ae):=Aa f.box 2 _ rfl;have dj:wr.cell? ⟨w1.hz,3,none⟩=some (Vi n.vars):=Aa f.box 3 _ rfl;have eu:=fun i=>Ae f.box i;have ev:=Ab f.box;have az:=Aa f.res 0 _ rfl;have a0:=Aa f.res 1 _ rfl;have a1:=Aa f.res 2 _ rfl;have a2:=Aa f.res 3 _ rfl;have a3:=fun i=>Ae f.res i;have bd:=Ab f.res;have aj:=Aa f.flt 0 _ rfl;have ak:=Aa f.flt 1 _ rfl;have al:=fun i=>Ae f.flt i;have fl:=Ab f.flt;have d:=hd f;clear f;have bj:Hd (∀(p:Nat)(y:World) z A B C q s,Ao w y->(AA cs m (ks.drop j) j).2=(7,p)->GW cs a ks w (Rq #[.agg #[Nl,Nl,Nl,Vi 0],.agg #[Vi 7,Vi p]]) ((((((y.setCell ⟨w.hz+1,0,none⟩ z).setCell ⟨w.hz+1,1,none⟩ A).setCell ⟨w.hz+1,2,none⟩ B).setCell ⟨w.hz+1,3,none⟩ C).setCell ⟨w.hz+2,0,none⟩ q).setCell ⟨w.hz+2,1,none⟩ s)):=fun p y z A B C q s a8 ek=>by
   refine⟨(((((a8.setCell (p:=⟨w.hz+1,0,none⟩) Ys _).setCell (p:=⟨w.hz+1,1,none⟩) Ys _).setCell (p:=⟨w.hz+1,2,none⟩) Ys _).setCell (p:=⟨w.hz+1,3,none⟩) Ys _).setCell (p:=⟨w.hz+2,0,none⟩) Ys _).setCell (p:=⟨w.hz+2,1,none⟩) Ys _,Or.inl ?_⟩;rw[d.o.fol,ek];exact⟨Ys,rfl⟩
  by_cases aw:j<ks.length
  ·obtain⟨k,J⟩:∃k,ks[j]?=some k:=⟨_,Qb aw⟩;have cu:ks.drop j=k::ks.drop (j+1):=by rw[QC aw,(Qa.1 J).2]
   have e8:=d6.o k (Qh J);obtain⟨bs,fi,fj,c0,e2,cy,fa⟩:=An bz.o Yo;simp only[QH]at c0;obtain⟨rfl,_,rfl⟩:=c0;have en:=Ab cy;have es:wr.cell? ⟨bs,j,none⟩=some (Vi k):=(d.o.ext.cell (p:=⟨bs,j,none⟩) en).trans (Ag bz.o j _ (by simp only[AM,Qj,J,Option.map_some]));have e9:bs<wr.hz:=Yo
   have bi:=hd cu;have fc:¬((k:Int)<0):=Yo
   clear cu cy J
   by_cases cz:k<cs.length
   ·have eo:¬((cs.length:Int)<=(k:Int)):=Yo
    obtain⟨c,aq⟩:∃c,cs[k]?=some c:=⟨_,Qb cz⟩;obtain⟨lb,fk,fm,c2,_,c1,_⟩:=An bw.o.owns Yo;simp only[QH]at c2;obtain⟨rfl,_,rfl⟩:=c2;have bq:=Ab c1;obtain⟨ez,e0,cv2,cb,cc,cd,ar⟩:=bw.o.cell aq;have dd:=(d.o.ext.cell (p:=⟨lb,k*3,none⟩) bq).trans cb;have de:=(d.o.ext.cell (p:=⟨lb,k*3+1,none⟩) bq).trans cc;have df:=(d.o.ext.cell (p:=⟨lb,k*3+2,none⟩) bq).trans cd;obtain⟨b5,b6,rfl⟩:=Ac ar.head;obtain⟨b7,b8,rfl⟩:=ar.body.shape;obtain⟨b9,ca,rfl⟩:=Ac ar.names;have fd:lb<wr.hz:=Yo
    obtain⟨bp,cr⟩:=d3.o c (Qh aq);have d2:=hd cr;have d4:Hd (Ma c):=d1.o c (Qh aq);have bv:Hd (∀ai u,Ao wr.drew u->(∀k,ai k->wr.hz<=k/\k<u.hz)->Calls prog 97 #[.agg #[.slice W n.goals.length X,.slice va n.vals.length af,.slice ad n.done.length ae,Vi n.vars],.agg #[.slice b5 c.head.length b6,.slice b7 c.body.length b8,.slice b9 c.names.length ca]] u fun e bu=>∃r,e= .returned r/\Ao u bu/\Jt n c k ai r bu):=fun ai u E eh=>by
     have db:Ao wr u:=E.undrew;apply(KH u _ _ _ _ _ _ n c k d.o.ok bp (d.o.node.ext db) (ar.ext (d.o.ext.trans (db.mono c9)))).mono;intro e bu h;exact h.toX (fun j av=>(eh j av).2)
    have bg:=hd aq;have bh:=hd bp;clear aq c1 cb cc cd ar bp cr;go_wp2_with fail;refine DM Yk [.pur (.agg #[.slice W n.goals.length X,.slice va n.vals.length af,.slice ad n.done.length ae,Vi n.vars]),.pur (.slice (some ⟨lb,0,none⟩) cs.length et),.pur (Vi k),.pur (.pointer (some ⟨lb,k*3,none⟩)),.pur (.agg #[.slice b5 c.head.length b6,.slice b7 c.body.length b8,.slice b9 c.names.length ca]),
     .cal,.post (fun v=>v),.post (A7 0),.post (A7 1),.alo 87 #[Nl,Nl,Nl,Vi 0] 10 (fun v=>cellsOf (A7 0 v)),.sto 9,.post (A7 1)] 5 Yk (Jt n c k) 97 _ Jt.stable bv.o ?_ rfl Yd ?_
    ·refine⟨fun vc β u E=> ?_,fun vc β u E=> ?_,fun vc β u E=> ?_,fun vc β u E=> ?_,fun vc β u E=> ?_,fun vc β u=> ?_,?_,?_,?_,fun vc β u=> ?_,?_,?_,trivial⟩
     all_goals try(simp[pa,Kd.val,go_sem,E.up dg,E.up dh,E.up di,E.up dj,E.up dd,E.up de,E.up df,cz];done)
     all_goals try(simp[pa,Kd.val,go_sem];done)
     all_goals try(rintro vc β ai u ⟨F,H,O,G,U,V,R,S,T,be,N,rfl,_⟩;simp[pa,Kd.val,go_sem,A7];done)
     rintro vc β ai u t fp fo cl cv ⟨F,H,O,G,U,V,R,S,T,be,N,rfl,_⟩ hb;simp at cv;obtain⟨rfl,rfl,rfl,rfl⟩:=cv;have q:=Aa hb 0 _ rfl;have s:=Aa hb 1 _ rfl;have dt:=Aa hb 2 _ rfl;have du:=Aa hb 3 _ rfl;have ew:=fun i=>Ae hb i;refine⟨_,?_,Af (Af (Af (Af hb 0 _) 1 _) 2 _) 3 _,((((Ad.refl (only (β 9)) u).put 0 _).put 1 _).put 2 _).put 3 _⟩;simp[pa,Kd.val,go_sem,q,s,dt,du,ew,A7]
    rintro vc β w4 I ⟨F,H,O,G,U,V,R,S,T,be,N,rfl,c7⟩ cn _;have I:=I.undrew;have ff:=I.size;obtain⟨e5,co⟩:=cn 9 _ _ _ _ rfl;have Y:w4.heap[β 9]?=some (.cells #[.slice F H O,.slice G U V,.slice R S T,Vi be] 87 (0,0)):=co;generalize ei:β 9=bt at*;have q:=Aa Y 0 _ rfl;have s:=Aa Y 1 _ rfl;have dt:=Aa Y 2 _ rfl;have du:=Aa Y 3 _ rfl;have fq:=Ab Y;have K:=(I.block _ ev).trans d.o.box;have M:=(I.block _ bd).trans d.o.res;have Z:=(I.block _ fl).trans d.o.flt;have dg:=Aa K 0 _ rfl;have dh:=Aa K 1 _ rfl;have di:=Aa K 2 _ rfl;have dj:=Aa K 3 _ rfl;have eu:=fun i=>Ae K i;have fn:=Ab K;have az:=Aa M 0 _ rfl;have a0:=Aa M 1 _ rfl;have a1:=Aa M 2 _ rfl;have a2:=Aa M 3 _ rfl;have a3:=fun i=>Ae M i;have dm:=Ab M;have aj:=Aa Z 0 _ rfl;have ak:=Aa Z 1 _ rfl;have al:=fun i=>Ae Z i;have ce:=Ab Z;have cg:Ao w w4:=d.o.ext.trans (I.mono c9);have a4:=hd K;have d8:=hd M;have d5:=hd Z;have bf:=hd cg;have b0:=hd c7;clear co Y K M Z I c7 cn es cg bv dd de df;simp only[B4,pa,Kd.val,if_true,Act.put,A7];rw[ei]
    by_cases br:N=1
    ·subst br;obtain⟨D,dl,am,L,ep,el,dp,dq,dr⟩:∃D N,(N=1\/N=2)/\Kb n c k N D/\be=D.vars/\H=D.goals.length/\AF w4 (.slice F H O) (D.goals.map (·.1))/\AF w4 (.slice G U V) D.vals/\AF w4 (.slice R S T) (D.done.map (·.1)):=by
      rcases b0.o with⟨h,_⟩|⟨h,_⟩|⟨_,D,dl,a5,a6,a7,ec,⟨d9,ed,_⟩,⟨ea,ee,_⟩,⟨eb,ef,_⟩⟩
      ·omega
      ·omega
      ·exact⟨D,dl,a5,a6,a7,ec,⟨d9,ed⟩,⟨ea,ee⟩,⟨eb,ef⟩⟩
     obtain⟨c6,cq⟩:=Ef d.o.ok d.o.same bh.o L;obtain⟨c5,c8⟩:=cq am;have c4:=Ol L am d.o.nm d2.o;have cw:=NU L am d.o.few d4.o;have c3:m.goals≠[]:=by
      obtain⟨g,gs,aa,_⟩:=L;have:=d.o.same.gl;intro e;rw[aa,e]at this;simp at this
     have au:AA cs (AN a) ks 0=AA cs (Ax m c k).1 (ks.drop (j+1)) (j+1):=by
      rw[d.o.fol,bi.o];exact FP bg.o c3 (by rw[<-c6];exact am)
     subst ep;have P:Ad (fun b=>b=w1.hz) w4 ((((w4.setCell ⟨w1.hz,0,none⟩ (.slice F H O)).setCell ⟨w1.hz,1,none⟩ (.slice G U V)).setCell ⟨w1.hz,2,none⟩ (.slice R S T)).setCell ⟨w1.hz,3,none⟩ (Vi D.vars)):=((((Ad.refl (only w1.hz) w4).put 0 _).put 1 _).put 2 _).put 3 _;have ch:Vt w w1.hz cs a ks (j+1) D (Ax m c k).1 (.slice F H O) (.slice G U V) (.slice R S T) ((((w4.setCell ⟨w1.hz,0,none⟩ (.slice F H O)).setCell ⟨w1.hz,1,none⟩ (.slice G U V)).setCell ⟨w1.hz,2,none⟩ (.slice R S T)).setCell ⟨w1.hz,3,none⟩ (Vi D.vars)):=
      ⟨bf.o.trans (P.below bf.o.size (fun j av=>by omega)),(P.block _ dm Yo).trans d8.o,(P.block _ ce Yo).trans d5.o,Af (Af (Af (Af a4.o 0 _) 1 _) 2 _) 3 _,⟨dp.box a4.o Yd Yd P,dq.box a4.o Yd Yd P,dr.box a4.o Yd Yd P⟩,c5,c4,cw,c8,au⟩
     have dw:=hd ch;clear ch P au c3 c5 c4 cw c8 cq c6 L dp dq dr el am;go_wp2
     go_roundg (ks.length-j)
     case measure=>omega
     case rel=>exact⟨j+1,D,_,_,_,_,Yg,Yo,Yo,dw.o⟩
    ·have bo:((N:Int) !=1)=true:=by rw[bne_iff_ne];omega
     have ag:Hd ((AA cs m (ks.drop j) j).2=(7,j)):=by
      show _=_;rw[bi.o];rcases b0.o with⟨_,h⟩|⟨_,D,h⟩|⟨h,_⟩
      ·rcases h with h|h
       ·refine Ch (Or.inl ?_);have:=d.o.same.gl;rw[h]at this;exact List.eq_nil_of_length_eq_zero (by simpa using this.symm)
       ·refine Eo bg.o ?_;have:=(Ef d.o.ok d.o.same bh.o h).1;omega
      ·refine Eo bg.o ?_;have:=(Ef d.o.ok d.o.same bh.o h).1;omega
      ·exact absurd h br
     clear br;go_wp2;refine bodyPost_ret (v:= .tuple #[.agg #[Nl,Nl,Nl,Vi 0],.agg #[Vi 7,Vi j]]) (by simp[results,results68,go_sem,az,a0,a1,a2,a3,dm,aj,ak,al,ce]) rfl ?_;exact bj.o j w4 _ _ _ _ _ _ bf.o ag.o
   ·have eo:(cs.length:Int)<=(k:Int):=Yo
    have ag:Hd ((AA cs m (ks.drop j) j).2=(7,j)):=by show _=_;rw[bi.o];exact Ch (Or.inr Yo)
    go_wp2;refine bodyPost_ret (v:= .tuple #[.agg #[Nl,Nl,Nl,Vi 0],.agg #[Vi 7,Vi j]]) (by simp[results,results68,go_sem,az,a0,a1,a2,a3,bd,aj,ak,al,fl]) rfl ?_;exact bj.o j wr _ _ _ _ _ _ d.o.ext ag.o
  ·have ej:j=ks.length:=Yo
   subst ej;have bb:ks.drop ks.length=[]:=List.drop_eq_nil_of_le (Qe _);have ac:=d.o.same.gl
   by_cases ab:n.goals=[]
   ·have ax:m.goals=[]:=by rw[ab]at ac;exact List.eq_nil_of_length_eq_zero (by simpa using ac.symm)
    have au:AA cs (AN a) ks 0=(m,0,0):=by
     rw[d.o.fol,bb];unfold AA;rw[if_pos ax]
    have hz:¬(0:Int)<((n.goals.length:Nat):Int):=by rw[ab];simp
    have a8:∀z A B C q s,Ao w ((((((wr.setCell ⟨w.hz+1,0,none⟩ z).setCell ⟨w.hz+1,1,none⟩ A).setCell ⟨w.hz+1,2,none⟩ B).setCell ⟨w.hz+1,3,none⟩ C).setCell ⟨w.hz+2,0,none⟩ q).setCell ⟨w.hz+2,1,none⟩ s):=fun z A B C q s=>
     (((((d.o.ext.setCell (p:=⟨w.hz+1,0,none⟩) Ys _).setCell (p:=⟨w.hz+1,1,none⟩) Ys _).setCell (p:=⟨w.hz+1,2,none⟩) Ys _).setCell (p:=⟨w.hz+1,3,none⟩) Ys _).setCell (p:=⟨w.hz+2,0,none⟩) Ys _).setCell (p:=⟨w.hz+2,1,none⟩) Ys _
    have bm:∀z A B C,Ad (fun b=>b=w.hz+1) wr ((((wr.setCell ⟨w.hz+1,0,none⟩ z).setCell ⟨w.hz+1,1,none⟩ A).setCell ⟨w.hz+1,2,none⟩ B).setCell ⟨w.hz+1,3,none⟩ C):=fun z A B C=>((((Ad.refl (only (w.hz+1)) wr).put 0 _).put 1 _).put 2 _).put 3 _;have ci:∀(y:World) q s,Ad (fun b=>b=w.hz+2) y ((y.setCell ⟨w.hz+2,0,none⟩ q).setCell ⟨w.hz+2,1,none⟩ s):=fun y q s=>((Ad.refl (only (w.hz+2)) y).put 0 _).put 1 _;have ba:∀z A B C q s {v:Value} {ls:Ll},AF wr v ls->AF ((((((wr.setCell ⟨w.hz+1,0,none⟩ z).setCell ⟨w.hz+1,1,none⟩ A).setCell ⟨w.hz+1,2,none⟩ B).setCell ⟨w.hz+1,3,none⟩ C).setCell ⟨w.hz+2,0,none⟩ q).setCell ⟨w.hz+2,1,none⟩ s) v ls:=fun z A B C q s {v ls} h=>
     (h.box d.o.res Yd Yd (bm z A B C)).box (((bm z A B C).block _ fl Ys).trans d.o.flt) Yd Yd (ci _ q s)
    have L:∀z A B C q s,GW cs a ks w (Rq #[.agg #[.slice W n.goals.length X,.slice va n.vals.length af,.slice ad n.done.length ae,Vi n.vars],.agg #[Vi 0,Vi 0]]) ((((((wr.setCell ⟨w.hz+1,0,none⟩ z).setCell ⟨w.hz+1,1,none⟩ A).setCell ⟨w.hz+1,2,none⟩ B).setCell ⟨w.hz+1,3,none⟩ C).setCell ⟨w.hz+2,0,none⟩ q).setCell ⟨w.hz+2,1,none⟩ s):=fun z A B C q s=>by
     refine⟨a8 _ _ _ _ _ _,Or.inr ?_⟩;rw[au];exact⟨rfl,W,n.goals.length,X,va,n.vals.length,af,ad,n.done.length,ae,n.vars,n,rfl,⟨ba _ _ _ _ _ _ d.o.node.goals,ba _ _ _ _ _ _ d.o.node.vals,ba _ _ _ _ _ _ d.o.node.done⟩,d.o.ok,d.o.nm,d.o.few,d.o.same⟩
    have d7:=hd L;clear L ba a8 bm ci au ax ab ac bb;go_wp2;refine bodyPost_ret (v:= .tuple #[.agg #[.slice W n.goals.length X,.slice va n.vals.length af,.slice ad n.done.length ae,Vi n.vars],.agg #[Vi 0,Vi 0]]) (by simp[results,results68,go_sem,az,a0,a1,a2,a3,bd,aj,ak,al,fl]) rfl ?_;exact d7.o _ _ _ _ _ _
   ·have ax:m.goals≠[]:=fun e=>by rw[e]at ac;exact ab (List.eq_nil_of_length_eq_zero (by simpa using ac))
    have ag:Hd ((AA cs m (ks.drop ks.length) ks.length).2=(7,ks.length)):=by
     show _=_;rw[bb];unfold AA;rw[if_neg ax]
    have hz:(0:Int)<((n.goals.length:Nat):Int):=by
     have:0<n.goals.length:=List.length_pos_iff.2 ab;omega
    clear ax ab ac bb;go_wp2;refine bodyPost_ret (v:= .tuple #[.agg #[Nl,Nl,Nl,Vi 0],.agg #[Vi 7,Vi ks.length]]) (by simp[results,results68,go_sem,az,a0,a1,a2,a3,bd,aj,ak,al,fl]) rfl ?_;exact bj.o ks.length wr _ _ _ _ _ _ d.o.ext ag.o
theorem Gl(hl:l.length<=1000)(e:Wf 1 l)(hn:∀s∈l,s.name.length<=4096){seen:List Nat}(d:seen.length+l.length<=4000):
  (A3 (AC l seen).1 []).length<=4100*l.length/\(AC l seen).2.length<=seen.length+l.length:=by
 have a:=Sg 1000 hl e;obtain⟨b,c⟩:=HW a seen;have:=EP 1000 l a hn seen d;rw[b,c]at this;omega
theorem MW:∀(names:At)(ts:Ll)(a:Lu)(seen:List Nat),(∀x∈names,x.length<=4096)->(∀t∈ts,Wf 1 t/\t.length<=1000/\∀s∈t,s.name.length<=4096)->a.length<=1->seen.length+ts.flatten.length<=4000->
  (DK a names (Aw ts seen).1).length<=4098*names.length+4100*ts.flatten.length:=by
 intro names
 induction names with
 |nil=>intro ts a seen _ _ _ _;cases ts<;>simp[Aw,DK]
 |cons x xs f=>
  intro ts a seen c d m e
  cases ts with
  |nil=>simp[Aw,DK]
  |cons t ts=>
   obtain⟨g,i,j⟩:=d t Ys;simp only[Q4,Qg]at e⊢;obtain⟨k,l⟩:=Gl i g j (seen:=seen) Yo;have h:=f ts [44] (AC t seen).2 (fun y b=>c y (by simp[b])) (fun y b=>d y (by simp[b])) Ys Yo;have n:=c x Ys;simp only[Aw,DK,Qg,Qf];omega
theorem Io(w:World)(X:Np)(av nv aq ba an a8:Value)(vs:Int)(names:At)(n:ND)(lo:Nat)(ck:Lv)(b2:∃a l c,av= .slice a l c)(b6:∃a l c,aq= .slice a l c)(C:∃a l c,an= .slice a l c)(b9:∃a l c,a8= .slice a l c)
  (ad:w.ownsRow lo 9 1 nv names.length (Ba names)) (I:Eh X w ba n.vals ck) (hl:names.length=n.vals.length) (hn:names.length<=125) (K:∀x∈names,x.length<=4096) (A:∀t∈n.vals,t.length<=30/\∀s∈t,s.name.length<=4096):
  Calls prog 116 #[.agg #[av,nv],.agg #[aq,ba,an,a8,Vi vs]] w fun e w'=>e= .returned (.string ⟨(AU names n).toArray⟩)/\Ao w w':=by
 obtain⟨aa,al,ac,rfl⟩:=b2;obtain⟨ao,gl,ap,rfl⟩:=b6;obtain⟨da,dl,dc,rfl⟩:=C;obtain⟨a6,ul,a7,rfl⟩:=b9;obtain⟨na,E,rfl⟩:=Ac ad;obtain⟨va,a9,rfl⟩:=Ac I.1;have N:=I.wf;have HN:=hd ad;have Q:=hd I;clear ad I
 cases z:names with
 |nil=>
  have c1:n.vals.length=0:=by rw[<-hl,z];rfl
  have R:Hd (AU [] n=[121,101,115]):=by show _=_;simp[AU]
  clear HN Q hl hn K A N z;go_enter func116,ce;go_wp2;go_ret;rw[R.o];exact⟨rfl,Mxt⟩
 |b0 ak dp=>
  rw[<-z];have c6:0<names.length:=by rw[z];simp
  have c5:(((names.length:Nat):Int)==0)=false:=by rw[Qu];omega
  obtain⟨r,H⟩:=Ex (DK [] names (Aw n.vals []).1);have R:Hd (AU names n=r):=by show _=_;rw[H,AU,if_neg (by rw[z];simp)]
  have b4:n.vals.flatten.length<=3750:=by
   have cc:∀ls:Ll,(∀t∈ls,t.length<=30)->ls.flatten.length<=30*ls.length:=by
    intro ls
    induction ls with
    |nil=>intro _;simp
    |b0 t ts cb=>
     intro h;have g:=h t Ys;have ct:=cb (fun y ca=>h y (by simp[ca]));simp only[Q4,Qg,Qf];omega
   have:=cc n.vals (fun t j=>(A t j).1);omega
  have cv:r.length<=20000000:=by
   have:=MW names n.vals [] [] K (fun t j=>⟨N t j,by have:=(A t j).1;omega,(A t j).2⟩) Ys (by simp only[Qt];omega);rw[H];omega
  have bn:=hd H;have bp:=hd hl;have c2:n.vals.length<=125:=Yo
  have br:=hd A;have bq:=hd K;have bs:=hd N;clear z H A K N hl;go_enter func116,ce;go_wp2;obtain⟨f,v⟩:=Ex ((w.alloc (.cells #[.slice aa al ac,.slice na names.length E] 148)).alloc (.cells #[.slice ao gl ap,.slice va n.vals.length a9,.slice da dl dc,.slice a6 ul a7,Vi vs] 152));have aw:Ao w f:=by rw[v];exact Mxt
  have c7:f.hz=w.hz+2:=by rw[v];simp
  have ar:f.heap[w.hz]?=some (.cells #[.slice aa al ac,.slice na names.length E] 148 (0,0)):=by rw[v];exact Ah (QL w _) _
  have au:f.heap[w.hz+1]?=some (.cells #[.slice ao gl ap,.slice va n.vals.length a9,.slice da dl dc,.slice a6 ul a7,Vi vs] 152 (0,0)):=by rw[v];simpa using QL (w.alloc _) _
  rw[<-v];have bm:=hd aw;have bk:=hd ar;have bl:=hd au;clear v aw ar au
  go_loopg [5,6,7] (names.length+1) (fun gk m ci i wr=>∃(k:Nat)(d:List Nat)(b:Lu),i=Vi k/\k<=names.length/\names.length-k<gk/\m= .string ⟨b.toArray⟩/\
   b++DK (if k=0 then[]else[44]) (names.drop k) (Aw (n.vals.drop k) d).1=r/\d.length+(n.vals.drop k).flatten.length<=3750/\Ar f f.hz 3 1 Nl d.length (AM d) ci wr)
  case atStart=>exact⟨0,[],[],Yg,Qm _,Yo,rfl,by simp[bn.o],by simpa using b4,⟨Q2 _ _ _ _,Ad.refl _ _,Or.inl rfl⟩⟩
  case round=>
   obtain⟨k,d,b,rfl,c0,cz,rfl,ae,a5,J⟩:=hrel;obtain⟨dm,dn,rfl⟩:=Ac J.owns;have cy:b.length<=20000000:=by
    have g:=congrArg List.length ae;simp only[Qg]at g;omega
   have u:Ao f wr:=J.kept.below (Qe _) (fun i e=>by simp[Ak,Value.ownBlock]at e);have b8:=u.size;have ax:Ao w wr:=bm.o.trans (u.mono Yo);have Z:=(u.block _ Yo).trans bk.o;obtain⟨cp,b1⟩:wr.cell? ⟨w.hz,0,none⟩=some (.slice aa al ac)/\wr.cell? ⟨w.hz,1,none⟩=some (.slice na names.length E):=⟨Aa Z 0 _ rfl,Aa Z 1 _ rfl⟩;obtain⟨dd,de,df,dg,dh,di⟩:=C5 ((u.block (w.hz+1) Yo).trans bl.o);have B:=hd J;have U:=hd ae;have G:=hd ax;have cm:=hd u;clear J ae ax u Z
   by_cases a1:k<names.length
   ·obtain⟨x,O⟩:∃x,names[k]?=some x:=⟨_,Qb a1⟩;have a2:k<n.vals.length:=by have:=bp.o;omega
    obtain⟨t,j⟩:∃t,n.vals[k]?=some t:=⟨_,Qb a2⟩;have az:names.drop k=x::names.drop (k+1):=by
     rw[QC a1,(Qa.1 O).2]
    have C:n.vals.drop k=t::n.vals.drop (k+1):=by
     rw[QC a2,(Qa.1 j).2]
    obtain⟨cn,co,cq,ak,bd,be,ag⟩:=Q.o.2.2 k t j;obtain⟨ch,cd,bu,bw,bv,rfl,rfl,rfl⟩:=ag.shape;have D:=Q.o.ext (Y:=X) G.o (fun _ _ h=>h);obtain⟨W,cr,cs,a0,cu,b5,cx⟩:=An D.1 Yo;simp only[QH]at a0;obtain⟨rfl,_,rfl⟩:=a0;have bf:wr.cell? ⟨W,k*3,none⟩=some (.string ch):=Ag D.1 _ _ ak;have bg:wr.cell? ⟨W,k*3+1,none⟩=some (Vi cd):=Ag D.1 _ _ bd;have bh:wr.cell? ⟨W,k*3+2,none⟩=some (.slice bu bw bv):=Ag D.1 _ _ be;have af:=Aj HN.o (fun i hi=>G.o.block i (HN.o.lt i hi).2);obtain⟨nb,dj,dk,a4,cw,a3,c4⟩:=An af Yo;simp only[QH]at a4;obtain⟨rfl,_,rfl⟩:=a4;have bi:wr.cell? ⟨nb,k,none⟩=some (.string ⟨x.toArray⟩):=Ag af k _ (by simp only[Ba,Qj,O,Option.map_some]);have db:=bq.o x (Qh O);obtain⟨c9,ah⟩:=br.o t (Qh j);have ai:=bs.o t (Qh j);have ay:=Sg 1000 Yo ai;obtain⟨bb,bc⟩:=HW ay d;have c8:d.length+t.length+(n.vals.drop (k+1)).flatten.length<=3750:=by
     rw[C]at a5;simp only[Q4,Qg]at a5;omega
    obtain⟨bx,bz⟩:=Gl Yo ai ah (seen:=d) Yo;have ab:=F0 1000 wr 0 wr.hz _ _ _ t f.hz d _ ((ag.ext G.o (fun _ _ h=>h)).repT Yo) B.o.owns b8 ah Yo;rw[bb,bc]at ab;have P:=hd ab;have b3:(A3 (AC t d).1 []).length<=200000:=Yo
    have c3:=Ab a3;obtain⟨m,M⟩:=Ex (A3 (AC t d).1 []);obtain⟨F,L⟩:=Ex ((AC t d).2);have am:Hd (∀aj:Lu,b++(aj++(x++(61::(m++DK [44] (names.drop (k+1)) (Aw (n.vals.drop (k+1)) F).1))))=b++DK aj (names.drop k) (Aw (n.vals.drop k) d).1):=fun aj=>by
     rw[az,C,M,L];simp[Aw,DK]
    rw[<-M]at b3;rw[<-L]at bz;rw[<-M,<-L]at P;clear b5 D ag ak bd be j O af a3 az C ay bb bc ab ai ah bx M L
    by_cases h0:k=0
    ·have b7:¬(0:Int)<(k:Int):=Yo
     have T:Hd ((b++x++[61]++m)++DK [44] (names.drop (k+1)) (Aw (n.vals.drop (k+1)) F).1=r):=by
      have g:=U.o;rw[if_pos h0,<-am.o []]at g;show _=_;rw[<-g];simp
     have V:Hd ((⟨b.toArray⟩:ByteArray)++⟨x.toArray⟩++⟨[61].toArray⟩++⟨m.toArray⟩=⟨(b++x++[61]++m).toArray⟩):=by
      show _=_;rw[Az,Az,Az]
     have bj:=hd h0;clear h0;go_wp2_with fail;apply P.o.mono;rintro e w1 ⟨cj,rfl,p⟩;obtain⟨cf,cg,rfl⟩:=Ac p.owns;have q:Ad (fun i=>f.hz<=i) wr w1:=p.kept.mono (fun i _ e=>(B.o.owns.lt i e).1);have bt:w1.cell? ⟨w.hz,1,none⟩=some (.slice (some ⟨nb,0,none⟩) names.length E):=q.cell b1 (by show¬f.hz<=w.hz;omega);have cl:w1.cell? ⟨nb,k,none⟩=some (.string ⟨x.toArray⟩):=q.cell bi (by have:=(HN.o.lt nb rfl).2;show¬f.hz<=nb;omega);have S:=hd p;clear p bf bg bh q;go_wp2
     go_roundg (names.length-k)
     case measure=>omega
     case rel=>exact⟨k+1,F,b++x++[61]++m,Yg,Yo,Yo,by rw[<-V.o],by simpa using T.o,Yo,B.o.trans S.o⟩
    ·have b7:(0:Int)<(k:Int):=Yo
     have T:Hd ((b++[44]++x++[61]++m)++DK [44] (names.drop (k+1)) (Aw (n.vals.drop (k+1)) F).1=r):=by
      have g:=U.o;rw[if_neg h0,<-am.o [44]]at g;show _=_;rw[<-g];simp
     have V:Hd ((⟨b.toArray⟩:ByteArray)++⟨[44].toArray⟩++⟨x.toArray⟩++⟨[61].toArray⟩++⟨m.toArray⟩=⟨(b++[44]++x++[61]++m).toArray⟩):=by
      show _=_;rw[Az,Az,Az,Az]
     have bj:=hd h0;clear h0;go_wp2_with fail;apply P.o.mono;rintro e w1 ⟨cj,rfl,p⟩;obtain⟨cf,cg,rfl⟩:=Ac p.owns;have q:Ad (fun i=>f.hz<=i) wr w1:=p.kept.mono (fun i _ e=>(B.o.owns.lt i e).1);have bt:w1.cell? ⟨w.hz,1,none⟩=some (.slice (some ⟨nb,0,none⟩) names.length E):=q.cell b1 (by show¬f.hz<=w.hz;omega);have cl:w1.cell? ⟨nb,k,none⟩=some (.string ⟨x.toArray⟩):=q.cell bi (by have:=(HN.o.lt nb rfl).2;show¬f.hz<=nb;omega);have S:=hd p;clear p bf bg bh q;go_wp2
     go_roundg (names.length-k)
     case measure=>omega
     case rel=>exact⟨k+1,F,b++[44]++x++[61]++m,Yg,Yo,Yo,by rw[<-V.o],by simpa using T.o,Yo,B.o.trans S.o⟩
   ·have bo:Hd (r=b):=by
     have g:=U.o;rw[List.drop_eq_nil_of_le Yo]at g;have e:DK (if k=0 then[]else[44]) [] (Aw (n.vals.drop k) d).1=[]:=by cases(Aw (n.vals.drop k) d).1<;>rfl
     rw[e,Qs]at g;exact g.symm
    go_wp2;go_ret;rw[R.o,bo.o];exact⟨rfl,G.o⟩
theorem Gy{n:ND}(h:(Ax n c k).2=1\/(Ax n c k).2=2):(Ax n c k).1.vals.length=n.vals.length:=by
 by_cases a:∃r:ND×Nat,∃m,FU m/\Co m n/\Kb m c k r.2 r.1
 ·have e:Ax n c k=Classical.choose a:=by unfold Ax;rw[dif_pos a]
  obtain⟨m,_,d,g,gs,_,f⟩:=Classical.choose_spec a;rw[e]at h⊢;rcases f with⟨h0,_⟩|⟨h0,_⟩|⟨σ,_,_,_,b⟩
  ·omega
  ·omega
  ·rw[b];simp[Au,d.vl]
 ·have e:Ax n c k=(⟨[],[],[],[],0⟩,0):=by unfold Ax;rw[dif_neg a]
  rw[e]at h;simp at h
theorem N5:∀{ks:List Nat}{n:ND}{i:Nat},(AA cs n ks i).2.1=0->(AA cs n ks i).1.vals.length=n.vals.length:=by
 intro ks
 induction ks with
 |nil=>intro n i h;unfold AA at h⊢;split<;>rfl
 |cons k ks e=>
  intro n i h
  cases a:cs[k]? with
  |none=>
   have:=Ch (cs:=cs) (n:=n) (k:=k) (i:=i) (ks:=ks) (Or.inr (List.getElem?_eq_none_iff.1 a));rw[this]at h;simp at h
  |some c=>
   by_cases d:n.goals=[]
   ·have:=Ch (cs:=cs) (n:=n) (k:=k) (i:=i) (ks:=ks) (Or.inl d);rw[this]at h;simp at h
   ·by_cases b:(Ax n c k).2=1\/(Ax n c k).2=2
    ·rw[FP a d b]at h⊢;rw[e h,Gy b]
    ·have:=Eo (i:=i) (ks:=ks) a b;rw[this]at h;simp at h
theorem Li{p q x:ByteArray}{e:ND}(ha:Cr q=some a)(h:Bo p q x=(a.2,e,0,0)):e.vals.length=a.2.length:=by
 cases b:BD p with
 |none=>simp[Bo,b]at h
 |some cs=>
  by_cases c:400<x.size
  ·simp[Bo,b,ha,c]at h
  ·cases hn:Bn x with
   |mk o f=>
    cases o with
    |none=>simp[Bo,b,ha,c,hn]at h
    |some ks=>
     simp[Bo,b,ha,c,hn]at h;have d:=N5 (cs:=cs) (ks:=ks) (n:=AN a) (i:=0) (by rw[h]);rw[h]at d;simpa[AN]using d
theorem Rc(p q x:ByteArray)(w:World)(L:p.size<=maxLen)(M:q.size<=maxLen)(R:x.size<=maxLen):
  Calls prog 91 #[.string p,.string q,.string x] w fun e w'=>e=Rq #[.string ⟨(JK p q x).1.toArray⟩,Vi (JK p q x).2.1,Vi (JK p q x).2.2]/\Ao w w':=by
 have V:=hd (fun u=>Il p q x u L M R);obtain⟨Y,r⟩:=Ex (JK p q x);rw[<-r];have B:=hd r;clear L M R r;go_enter func91,ntmps91;go_wp2_with fail;apply(V.o _).mono;rintro e w1 ⟨g,ac⟩;have N:=g.size;have A:=hd g;clear g;rcases ac with⟨C,aj,ae,b,a0,ax,aq,ao,ay,ar,rfl⟩|⟨a,av,nv,az,a1,a2,a3,a4,ah,b,v,rfl,c,K⟩
 ·have f:Hd (Y=([],C,aj)):=by show _=_;rw[B.o,JK,b];simp[ae]
  have hb:((C:Int) !=0)=true:=by rw[bne_iff_ne];omega
  clear b;go_wp2;go_ret3;rw[f.o];exact⟨rfl,A.o.trans (Ad.below (S:=fun i=>w.hz<=i) Mst N (fun _ h=>h))⟩
 ·have Q:=Li v b;obtain⟨_,_,_,_,_,_,_,ad,I⟩:=Cs v;obtain⟨ap,D⟩:=c.atoms;obtain⟨aa,W,rfl⟩:=Ac D.1;obtain⟨n,d,j,H,k,rfl⟩:=K.node;obtain⟨an,m⟩:=d.vals;obtain⟨aw,G⟩:=d.goals;obtain⟨au,E⟩:=d.done;obtain⟨Z,ab,rfl⟩:=Ac G.owns;obtain⟨va,am,rfl⟩:=Ac m.1;obtain⟨da,X,rfl⟩:=Ac E.owns;obtain⟨ak,al,rfl⟩:=Ac d.used;obtain⟨na,ai,rfl⟩:=Ac c.names;have J:AU a.2 n=AU a.2 ah:=by unfold AU;rw[k.valsC j]
  obtain⟨T,l⟩:=Ex (AU a.2 n);have f:Hd (Y=(T,0,0)):=by show _=_;rw[B.o,JK,b,l];simp[J]
  have z:=hd (fun u (P:Ao w1 u)=>Io u (fun _=>False) (.slice aa a.1.length W) (.slice na a.2.length ai) (.slice Z n.goals.length ab) (.slice va n.vals.length am) (.slice da n.done.length X) (.slice ak n.used.length al) n.vars a.2 n 0 an ⟨_,_,_,rfl⟩ ⟨_,_,_,rfl⟩ ⟨_,_,_,rfl⟩ ⟨_,_,_,rfl⟩
   (Aj c.names (fun i hi=>P.block i (c.names.lt i hi).2)) (m.ext P (fun _ _ h=>h)) (by rw[k.vl,Q]) Yo (fun y ag=>Qq (I y ag) Yo) (fun t O=>⟨j.vsize O,fun s af=>Qq (H t (by simp[ND.terms,O]) s af) Yo⟩))
  rw[<-l]at z;clear b v c D K d j H k m G E Q J ad I l;go_wp2_with fail;apply(z.o _ Mxt).mono;rintro e w2 ⟨rfl,F⟩;have U:=hd F;clear F;go_wp2;go_ret3;rw[f.o];exact⟨rfl,(A.o.trans (Ad.below (S:=fun i=>w.hz<=i) Mst N (fun _ h=>h))).trans (U.o.mono Yp)⟩
theorem Sx{n:ND}(h:(Ax n c k).2=1\/(Ax n c k).2=2):∃d ds,n.goals.map (·.2)=d::ds/\(Ax n c k).1.goals.map (·.2)=List.replicate c.body.length (d+1)++ds/\(Ax n c k).1.done.map (·.2)=n.done.map (·.2)++[d]:=by
 by_cases a:∃r:ND×Nat,∃m,FU m/\Co m n/\Kb m c k r.2 r.1
 ·have e:Ax n c k=Classical.choose a:=by unfold Ax;rw[dif_pos a]
  obtain⟨m,_,f,g,gs,j,l⟩:=Classical.choose_spec a;rw[e]at h⊢;rcases l with⟨h0,_⟩|⟨h0,_⟩|⟨σ,_,_,_,i⟩
  ·omega
  ·omega
  ·rw[i];refine⟨g.2,gs.map (·.2),?_,?_,?_⟩
   ·rw[<-f.gd,j];rfl
   ·simp only[Au];rw[I7,Qr,QK]
    congr 1
    generalize c.body=b
    induction b with
    |nil=>rfl
    |cons x b o=>rw[Qx,o,Qf,List.replicate_succ];rfl
   ·simp only[Au];rw[I7,Qr,f.dd];rfl
 ·have e:Ax n c k=(⟨[],[],[],[],0⟩,0):=by unfold Ax;rw[dif_neg a]
  rw[e]at h;simp at h
theorem MP{m:ND}{ks:List Nat}(h:(AA cs m (k::ks) i).2=(0,0)):∃c,cs[k]?=some c/\m.goals≠[]/\((Ax m c k).2=1\/(Ax m c k).2=2)/\AA cs m (k::ks) i=AA cs (Ax m c k).1 ks (i+1):=by
 cases a:cs[k]? with
 |none=>
  have:=Ch (cs:=cs) (n:=m) (k:=k) (i:=i) (ks:=ks) (Or.inr (List.getElem?_eq_none_iff.1 a));rw[this]at h;simp at h
 |some c=>
  by_cases b:m.goals=[]
  ·have:=Ch (cs:=cs) (n:=m) (k:=k) (i:=i) (ks:=ks) (Or.inl b);rw[this]at h;simp at h
  ·by_cases d:(Ax m c k).2=1\/(Ax m c k).2=2
   ·exact⟨c,rfl,b,d,FP a b d⟩
   ·have:=Eo (i:=i) (ks:=ks) a d;rw[this]at h;simp at h
structure Gk(w:World)(ds ls:List Nat)(dv lv:Value)(wr:World):Prop where
 ext:Ao w wr
 dep:wr.ownsRow w.heap.size 3 1 dv ds.length (AM ds)
 lef:wr.ownsRow w.heap.size 3 1 lv ls.length (AM ls)
 off:∀j,dv.ownBlock=some j->¬lv.ownBlock=some j
theorem Gk.depApp{ds ls:List Nat}{c dv2:Value}{d:Nat}(h:Gk w ds ls c lv w1)(b:Ar w1 w.hz 3 1 c (ds.length+1) (AM ds++[Vi d]) dv2 w2):Gk w (ds++[d]) ls dv2 lv w2:=by
 obtain⟨f,l,i,k⟩:=h;refine⟨f.trans (b.kept.below f.size (fun j a=>(l.lt j a).1)),by have:=b.owns;simpa[AM]using this,b.kept.owns i (fun j a m=>k j m a),fun j a hl=> ?_⟩;rcases b.where_ with e|⟨g,e,n⟩
 ·rw[e]at a;exact k j a hl
 ·rw[e]at a;simp only[Qo]at a;have:=(i.lt j hl).2;omega
theorem Gk.lefApp{ds ls:List Nat}{c lv2:Value}{d:Nat}(h:Gk w ds ls c lv w1)(b:Ar w1 w.hz 3 1 lv (ls.length+1) (AM ls++[Vi d]) lv2 w2):Gk w ds (ls++[d]) c lv2 w2:=by
 obtain⟨f,i,l,k⟩:=h;refine⟨f.trans (b.kept.below f.size (fun j a=>(l.lt j a).1)),b.kept.owns i (fun j a m=>k j a m),by have:=b.owns;simpa[AM]using this,fun j a hl=> ?_⟩;rcases b.where_ with e|⟨g,e,n⟩
 ·rw[e]at hl;exact k j a hl
 ·rw[e]at hl;simp only[Qo]at hl;have:=(i.lt j a).2;omega
theorem Gk.cut{ds ls:List Nat}{a:Value}{d g:Nat}(h:Gk w ds (ls++[d]) a (.slice (some ⟨g,0,none⟩) (ls.length+1) cap) wr):Gk w ds ls a (.slice (some ⟨g,0,none⟩) ls.length cap) wr:=by
 obtain⟨c,f,b,i⟩:=h;rw[Qg,Qf,Qt]at b;have:=IW b;refine⟨c,f,?_,i⟩;have e:(AM (ls++[d])).take ls.length=AM ls:=by
  unfold AM;rw[Qr,List.take_append_of_le_length Ys,List.take_of_length_le Ys]
 rw[e]at this;exact this
def Vp(ds:List Nat)(w:World)(e:Ending)(w':World):Prop:=Ao w w'/\∃x c,e= .returned (.slice x ds.length c)/\w'.ownsRow 0 3 1 (.slice x ds.length c) ds.length (AM ds)
theorem Nt(w:World)(am bb al nv bc:Value)(cs:Lc)(xs:List (Lv))(a:Ll×At)(ks:List Nat)(W:DD w am cs xs)(b8:∃a n x,bb= .slice a n x)(hb:AF w al a.1)(a6:w.ownsRow 0 9 1 nv a.2.length (Ba a.2))(g:w.ownsRow 0 3 1 bc ks.length (AM ks))
  (aq:∀c∈cs,Kl c) (cv:cs.length<=24) (ct:a.1.length<=6) (c6:ks.length<=400) (a0:∀k∈ks,k<=99) (au:(AA cs (AN a) ks 0).2=(0,0)):
  Calls prog 69 #[am,.agg #[bb,al,nv],bc] w (Vp ((AA cs (AN a) ks 0).1.done.map (·.2)) w):=by
 obtain⟨E,cp,cq,rfl⟩:=b8;obtain⟨cl,cm,rfl⟩:=hb.shape;obtain⟨na,dt,rfl⟩:=Ac a6;obtain⟨di,dj,rfl⟩:=Ac g;obtain⟨la,dp,rfl⟩:=Ac W.owns;have af:=hd W;have aj:=hd g;have bi:=hd aq;have bq:=hd a0;have ai:=hd au;clear W hb a6 g aq a0 au;go_enter func69,du;go_wp2
 go_loopg [8,16] (a.1.length+1) (fun gk z y wr=>∃(k:Nat),y=Vi k/\k<=a.1.length/\a.1.length-k<gk/\Gk w [] (List.replicate k 0) Nl z wr)
 case atStart=>exact⟨0,Yg,Qm _,Yo,Mxt,Q2 _ _ _ _,Q2 _ _ _ _,fun j az=>by simp[Value.ownBlock]at az⟩
 case round=>
  obtain⟨k,rfl,g,cz,f⟩:=hrel;have O:=f.lef;rw[QE]at O;obtain⟨ad,Q,rfl⟩:=Ac O;have cc:=f.ext.size;have s:=hd f;have ak:=hd O;clear f O
  by_cases ab:k<a.1.length
  ·go_wp2_with (at_builtin;go_loud (refine Am wr rfl (.tmp 18) (.tmp 19) 25 rfl w.hz 3 infoInt underlying25 rfl Yd (.slice ad k Q) k (AM (List.replicate k 0)) rfl ak.o #[Vi 0] (N:=wr.hz) rfl Ys rfl (DT _) ?_ ?_ ?_))
   ·omega
   ·omega
   intro cj w2 b;obtain⟨B,C,rfl⟩:=Ac b.owns;have r:=s.o.lefApp (d:=0) (w2:=w2) (lv2:= .slice B (k+1) C) (by rw[QE];exact b);rw[<-List.replicate_succ']at r;have R:=hd r;clear b r;go_wp2
   go_roundg (a.1.length-k)
   case measure=>omega
   case rel=>exact⟨k+1,Yg,Yo,Yo,R.o⟩
  ·have b6:k=a.1.length:=Yo
   subst b6;obtain⟨ck,cd⟩:∃x,x=wr:=⟨_,rfl⟩;subst cd;have be:Hd (Gk w ((AN a).done.map (·.2)) ((AN a).goals.map (·.2)).reverse Nl (.slice ad a.1.length Q) ck):=by
    have D:(AN a).done.map (·.2)=[]:=rfl;have T:((AN a).goals.map (·.2)).reverse=List.replicate a.1.length 0:=by
     have:(AN a).goals.map (·.2)=List.replicate a.1.length 0:=by
      unfold AN;simp only[QK];generalize a.1=l
      induction l with
      |nil=>rfl
      |cons x l cf=>rw[Qx,cf,Qf,List.replicate_succ];rfl
     rw[this,List.reverse_replicate]
    rw[D,T];exact s.o
   have b1:Hd (∀x∈(AN a).goals.map (·.2),x<=0):=fun x h=>by
    unfold AN at h;simp at h;omega
   clear s ak;go_wp2
   go_loopg [7,8,24] (ks.length+1) (fun gk bz z y wr=>∃(i:Nat)(m:ND),y=Vi i/\i<=ks.length/\ks.length-i<gk/\AA cs (AN a) ks 0=AA cs m (ks.drop i) i/\(∀x∈m.goals.map (·.2),x<=i)/\m.goals.length<=6+6*i/\m.done.length=i/\Gk w (m.done.map (·.2)) (m.goals.map (·.2)).reverse bz z wr)
   case atStart=>exact⟨0,AN a,Yg,Qm _,Yo,Ys,b1.o,by unfold AN;simp;omega,by unfold AN;rfl,be.o⟩
   case round=>
    obtain⟨i,m,rfl,hi,cx,av,an,c0,I,f⟩:=hrel;have J:=f.dep;have M:=f.lef;rw[Ql,I]at J;rw[Qv,Ql]at M;obtain⟨da,S,rfl⟩:=Ac J;obtain⟨ad,Q,rfl⟩:=Ac M;have cc:=f.ext.size;have A:=hd av;have ag:=hd an;have s:=hd f;have ah:=hd J;have bs:=hd M;clear av an f J M
    by_cases ab:i<ks.length
    ·obtain⟨k,g⟩:∃k,ks[i]?=some k:=⟨_,Qb ab⟩;have X:ks.drop i=k::ks.drop (i+1):=by rw[QC ab,(Qa.1 g).2]
     have c2:=bq.o k (Qh g);have aa:=ai.o;rw[A.o,X]at aa;obtain⟨c,G,cb,a7,ay⟩:=MP aa;obtain⟨d,ds,u,K,H⟩:=Sx a7;have c5:=(Qa.1 G).1;have aw:AA cs (AN a) ks 0=AA cs (Ax m c k).1 (ks.drop (i+1)) (i+1):=by rw[A.o,X,ay]
     have cw:d<=i:=ag.o d (by rw[u];simp);have cu:=(bi.o c (Qh G)).bn;have V:m.goals.length=ds.length+1:=by have:=congrArg List.length u;simpa using this
     have ao:∀x∈(Ax m c k).1.goals.map (·.2),x<=i+1:=fun x h=>by
      rw[K]at h;rcases Qk.1 h with h|h
      ·have:=List.eq_of_mem_replicate h;omega
      ·have:=ag.o x (by rw[u];simp[h]);omega
     have b7:(Ax m c k).1.goals.length<=6+6*(i+1):=by
      have:=congrArg List.length K;simp at this;omega
     have b3:(Ax m c k).1.done.length=i+1:=by
      have:=congrArg List.length H;simp at this;omega
     have t:=s.o;rw[u,Qw]at t;have v:=bs.o;rw[u,Qw,V]at v;have Z:=ah.o;obtain⟨dl,Y⟩:∃l,l=m.done.map (·.2):=⟨_,rfl⟩;rw[<-Y]at Z t H;have ar:dl.length=i:=by rw[Y,Ql];exact I
     obtain⟨q,P⟩:∃l,l=ds.reverse:=⟨_,rfl⟩;have a8:ds.length=q.length:=by rw[P];simp
     rw[<-P]at v t;rw[a8]at v V;rw[V]at t⊢;obtain⟨ac,dk,dm,a2,cr,a1,c4⟩:=An aj.o Yo;simp only[QH]at a2;obtain⟨rfl,_,rfl⟩:=a2;have b9:=Ab a1;have cg:wr.cell? ⟨ac,i,none⟩=some (Vi k):=(s.o.ext.cell (p:=⟨ac,i,none⟩) b9).trans (Ag aj.o i _ (by simp only[AM,Qj,g,Option.map_some]));have c3:ac<wr.hz:=Yo
     obtain⟨lb,dq,dr,a4,_,a3,_⟩:=An af.o.owns Yo;simp only[QH]at a4;obtain⟨rfl,_,rfl⟩:=a4;have ca:=Ab a3;obtain⟨cn,co,cv2,b0,D,T,ap⟩:=af.o.cell G;obtain⟨b2,bw,rfl⟩:=ap.body.shape;obtain⟨bd,dv,dw,ba,_,a9,_⟩:=An v Yo;simp only[QH]at ba;obtain⟨rfl,_,rfl⟩:=ba;have ch:wr.cell? ⟨bd,q.length,none⟩=some (Vi d):=Ag v _ _ (by simp[AM]);have de:=Ab a9;have bg:=hd t;have bl:Hd (wr.ownsRow w.hz 3 1 (.slice da i S) i (AM dl)):=Z;have bo:=hd aw;have bh:=hd ao;have bp:=hd K;have bj:=hd H;have bm:=hd D;have bu:=hd P;have bk:=hd ar;have c8:¬((q.length:Int)<0):=Yo
     have c9:¬((k:Int)<0):=Yo
     have db:¬((cs.length:Int)<=(k:Int)):=Yo
     clear g X aa G cb a7 ay u K H aw ao t v Z Y P a1 a3 b0 D T ap a9 ar a8
     go_wp2_with (at_builtin;go_loud (refine Am wr rfl (.tmp 47) (.tmp 49) 25 rfl w.hz 3 infoInt underlying25 rfl Yd (.slice da i S) i (AM dl) rfl bl.o #[Vi d] (N:=wr.hz) rfl Ys rfl (DT _) ?_ ?_ ?_))
     ·omega
     intro cj w2 b;obtain⟨B,C,rfl⟩:=Ac b.owns;have r:=(bg.o.depApp (d:=d) (w2:=w2) (dv2:= .slice B (i+1) C) (by rw[bk.o];exact b)).cut;have dh:=b.kept.size;have c7:lb<w2.hz:=Yo
     have dn:w2.cell? ⟨lb,k*3+1,none⟩=some (.slice b2 c.body.length bw):=(r.ext.cell (p:=⟨lb,k*3+1,none⟩) ca).trans bm.o;have dg:=r.ext.size;have R:=hd r;have df:bd<w2.hz:=Yo
     have dc:q.length<=Q:=Yo
     clear b r cg ch;obtain⟨dy,ce⟩:∃x,x=w2:=⟨_,rfl⟩;subst ce;go_wp2
     go_loopg [8,60] (c.body.length+1) (fun gk z y wr=>∃(j:Nat),y=Vi j/\j<=c.body.length/\c.body.length-j<gk/\Gk w (dl++[d]) (q++List.replicate j (d+1)) (.slice B (i+1) C) z wr)
     case atStart=>exact⟨0,Yg,Qm _,Yo,by simpa using R.o⟩
     case round=>
      obtain⟨j,rfl,az,cy,F⟩:=hrel;have L:=F.lef;rw[Qg,QE]at L;obtain⟨ta,ci,rfl⟩:=Ac L;have dd:=F.ext.size;have ae:=hd F;have br:=hd L;clear F L
      by_cases c1:j<c.body.length
      ·go_wp2_with (at_builtin;go_loud (refine Am wr rfl (.tmp 62) (.tmp 65) 25 rfl w.hz 3 infoInt underlying25 rfl Yd (.slice ta (q.length+j) ci) (q.length+j) (AM (q++List.replicate j (d+1))) rfl br.o #[Vi ((d:Int)+1)] (N:=wr.hz) rfl Ys rfl (DT _) ?_ ?_ ?_))
       ·omega
       ·omega
       intro dx w4 b;obtain⟨bv,bx,rfl⟩:=Ac b.owns;have U:=ae.o.lefApp (d:=d+1) (w2:=w4) (lv2:= .slice bv (q.length+j+1) bx) (by rw[Qg,QE];exact b);rw[Qi,<-List.replicate_succ']at U;have bf:=hd U;clear b U;go_wp2
       go_roundg (c.body.length-j)
       case measure=>omega
       case rel=>exact⟨j+1,Yg,Yo,Yo,bf.o⟩
      ·have b5:j=c.body.length:=Yo
       subst b5;go_wp2
       go_roundg (ks.length-i)
       case measure=>omega
       case rel=>
        refine⟨i+1,(Ax m c k).1,Yg,Yo,Yo,bo.o,bh.o,b7,b3,?_⟩;rw[bj.o,bp.o,List.reverse_append,List.reverse_replicate,<-bu.o];exact ae.o
    ·have b4:i=ks.length:=Yo
     subst b4;have a5:(AA cs (AN a) ks 0).1=m:=by
      have E:=ai.o;have e:AA cs m [] ks.length=if m.goals=[]then(m,0,0)else(m,7,ks.length):=by unfold AA;rfl
      rw[A.o,List.drop_eq_nil_of_le (Qe _),e]at E;rw[A.o,List.drop_eq_nil_of_le (Qe _),e]
      by_cases ax:m.goals=[]
      ·rw[if_pos ax]
      ·rw[if_neg ax]at E;simp at E
     have bt:=hd a5;clear a5;go_wp2;go_ret;rw[bt.o];refine⟨s.o.ext,da,S,by rw[Ql,I];rfl,?_⟩;rw[Ql,I];exact AI ah.o (Qm _)
theorem Wt:∀{met:List Nat}{n k:Nat},(∀i,i<k->met[i]?≠some n)->met[k]?=some n->met.idxOf n=k:=by
 intro met
 induction met with
 |nil=>intro n k _ h;simp at h
 |cons x met d=>
  intro n k b a;rw[List.idxOf_cons]
  cases k with
  |zero=>simp at a;subst a;simp
  |succ k=>
   have c:x≠n:=fun e=>b 0 Yo (by simp[e]);have:(x==n)=false:=by rw[Qu];exact c
   rw[this];simp only[cond_false];rw[d (n:=n) (k:=k) (fun i hi=>by have:=b (i+1) Yo;simpa using this) (by simpa using a)]
theorem VR:∀{met:List Nat}{n:Nat},(∀i,i<met.length->met[i]?≠some n)->met.idxOf n=met.length:=by
 intro met
 induction met with
 |nil=>intro n _;rfl
 |cons x met c=>
  intro n a;rw[List.idxOf_cons];have b:x≠n:=fun e=>a 0 Ys (by simp[e]);have:(x==n)=false:=by rw[Qu];exact b
  rw[this];simp only[cond_false,Qf];rw[c (n:=n) (fun i hi=>by have:=a (i+1) Yp;simpa using this)]
theorem Px(w:World)(n:Nat)(q:Value)(met:List Nat)(h:w.ownsRow 0 3 1 q met.length (AM met))(hl:met.length<=10000)(hn:n<=200000):
  Calls prog 134 #[Vi n,q] w fun e w'=>e= .returned (Vi (met.idxOf n))/\w'=w:=by
 obtain⟨la,C,rfl⟩:=Ac h;have d:=hd h;clear h;go_enter func134,D;go_wp2
 go_loopg [5] (met.length+1) (fun gk u wr=>∃(k:Nat),u=Vi k/\k<=met.length/\met.length-k<gk/\wr=w/\∀i,i<k->met[i]?≠some n)
 case atStart=>exact⟨0,Yg,Qm _,Yo,rfl,fun i hi=>by omega⟩
 case round=>
  obtain⟨k,rfl,B,z,rfl,j⟩:=hrel;have a:=hd j;clear j
  by_cases s:k<met.length
  ·have t:(k:Int)<(met.length:Int):=Yo
   obtain⟨x,c⟩:∃x,met[k]?=some x:=⟨_,Qb s⟩;obtain⟨g,v,y,l,_,m,_⟩:=An d.o Yo;simp only[QH]at l;obtain⟨rfl,_,rfl⟩:=l;have E:wr.cell? ⟨g,k,none⟩=some (Vi x):=Ag d.o k _ (by simp only[AM,Qj,c,Option.map_some]);have A:=Ab m;have f:=hd c;clear c m
   by_cases p:x=n
   ·subst p;have b:Hd (met.idxOf x=k):=Wt a.o f.o;go_wp2;go_ret;exact⟨by rw[b.o];simp,rfl⟩
   ·have hb:((x:Int) !=(n:Int))=true:=by rw[bne_iff_ne];omega
    go_wp2
    go_roundg (met.length-k)
    case measure=>omega
    case rel=>
     refine⟨k+1,Yg,Yo,Yo,rfl,fun i hi=> ?_⟩
     by_cases e:i=k
     ·subst e;rw[f.o];simpa using p
     ·exact a.o i Yo
  ·have r:k=met.length:=Yo
   subst r;have b:Hd (met.idxOf n=met.length):=VR a.o;have t:¬((met.length:Int)<(met.length:Int)):=Yo
   go_wp2;go_ret;exact⟨by rw[b.o];simp,rfl⟩
theorem AK.other{k s:Nat}(h:AK w B v ls vs)(g:w.ownsRow k e s vv n ys)(p:105≠e)(q:133≠e)(f:Ad (Ak vv) w w'):AK w' B v ls vs:=
 ⟨f.owns h.owns (fun j c a=>by
  obtain⟨m,b⟩:=Ay g j a;exact Ai h.owns p b c),fun i l hi=>by
  obtain⟨x,o,d⟩:=h.all i l hi;refine⟨x,o,f.owns d (fun j c a=> ?_)⟩;obtain⟨m,b⟩:=Ay g j a;exact Ai d q b c⟩
structure IA(w:World)(Bc:Nat)(rl:List (List BL))(rv:Value)(xs:List Value)(met:List Nat)(mv:Value)(ch:List BL)(cv:Value)(wr:World):Prop where
 ext:Ao w wr
 row:AK wr w.heap.size rv rl xs
 low:∀x∈xs,∀j,x.ownBlock=some j->j<Bc
 met:wr.ownsRow w.heap.size 3 1 mv met.length (AM met)
 b1:w.heap.size<=Bc
 b2:Bc<=wr.heap.size
 chg:wr.ownsRow Bc 133 3 cv ch.length (Aq ch)
theorem IA.on{b:Nat}{k:Ll}{l i:Value}{met:List Nat}{c:Ly}(h:IA w b k l xs met i c cv wr)(e:Ao wr w1):IA w b k l xs met i c cv w1:=by
 obtain⟨d,m,n,f,o,p,g⟩:=h;exact⟨d.trans (e.mono d.size),m.ext e,n,Aj f (fun j a=>e.block j (f.lt j a).2),o,Qq p e.size,Aj g (fun j a=>e.block j (g.lt j a).2)⟩
theorem IA.metApp{d:Nat}{l:Ll}{m i k:Value}{met:List Nat}{e:Ly}(h:IA w d l m xs met i e cv w1)(a:Ar w1 w.hz 3 1 i (met.length+1) (AM met++[Vi n]) k w2):IA w d l m xs (met++[n]) k e cv w2:=by
 obtain⟨f,o,p,b,q,u,g⟩:=h;have v:=a.kept.size;refine⟨f.trans (a.kept.below f.size (fun j c=>(b.lt j c).1)),o.other b Yd Yd a.kept,p,?_,q,Yo,a.kept.owns g (fun j c r=> ?_)⟩
 ·have:=a.owns;simpa[AM]using this
 ·obtain⟨t,s⟩:=Ay b j r;exact Ai g Yd s c
theorem IA.chApp{f:Nat}{t:Ll}{u r cv2:Value}{met:List Nat}{d:Ly}{s:BL}(h:IA w f t u xs met r d cv w1)(b:Ar w1 f 133 3 cv (d.length+1) (Aq d++Bz s) cv2 w2):IA w f t u xs met r (d++[s]) cv2 w2:=by
 obtain⟨n,g,o,p,q,z,e⟩:=h;have A:=b.kept.size;refine⟨n.trans (b.kept.below n.size (fun j a=>Qq q (e.lt j a).1)),⟨b.kept.owns g.owns (fun j a c=> ?_),fun i l hi=> ?_⟩,o,b.kept.owns p (fun j a c=> ?_),q,Yo,?_⟩
 ·obtain⟨v,k⟩:=Ay e j c;exact Ai g.owns Yd k a
 ·obtain⟨x,m,y⟩:=g.all i l hi;refine⟨x,m,b.kept.owns y (fun j a c=> ?_)⟩;have:=o x (Qh m) j a;have:=(e.lt j c).1;omega
 ·obtain⟨v,k⟩:=Ay e j c;exact Ai p Yd k a
 ·have:=b.owns;rw[Db,Qg];simpa[Aq]using this
theorem IA.box{d:Nat}{cs:Av}{q:Ll}{r p:Value}{met:List Nat}{e:Ly}(h:IA w d q r xs met p e cv w1)(o:w1.heap[M]?=some (.cells cs 133 fr))(A:d<=M)(y:∀j,cv.ownBlock=some j->j≠M)(a:Ad (fun k=>k=M) w1 w2):IA w d q r xs met p e cv w2:=by
 obtain⟨g,m,n,t,u,z,v⟩:=h;have B:=a.size;refine⟨g.trans (a.below g.size (fun j c=>by omega)),⟨By m.owns o Yd a,fun i l hi=> ?_⟩,n,By t o Yd a,u,Yo,a.owns v (fun j c b=>y j c b)⟩;obtain⟨x,f,s⟩:=m.all i l hi;refine⟨x,f,a.owns s (fun j c b=> ?_)⟩;have:=n x (Qh f) j c;have b:j=M:=b;omega
theorem AK.words(h:AK w B v ls vs):∀x∈vs,∀j,x.ownBlock=some j->j<w.hz:=fun x d j c=>by
 have f:vs.length=ls.length:=by have:=h.owns.1;omega
 obtain⟨i,hi⟩:=List.mem_iff_getElem?.1 d;have e:=(Qa.1 hi).1;obtain⟨y,a,b⟩:=h.all i _ (Qb Yo);rw[hi]at a;simp only[Qo]at a;subst a;exact(b.lt j c).2
theorem UK(n:Nat)(met:List Nat):(Ev n met).length<=met.length+1:=by unfold Ev;split<;>simp
theorem KK:∀(l:Ly)(met:List Nat),(AC l met).2.length<=met.length+l.length:=by
 intro l
 induction l with
 |nil=>intro met;simp[AC]
 |cons s l a=>
  intro met;simp only[AC];split
  ·have:=a (Ev s.num met);have:=UK s.num met;simp;omega
  ·have:=a met;simp;omega
theorem L4:∀(ts:Ll)(met:List Nat),(Aw ts met).2.length<=met.length+ts.flatten.length:=by
 intro ts
 induction ts with
 |nil=>intro met;simp[Aw]
 |cons t ts a=>
  intro met;simp only[Aw,Q4,Qg];have:=a (AC t met).2;have:=KK t met;omega
def Xp(ts:Ll)(w:World)(e:Ending)(w':World):Prop:=Ao w w'/\∃x c,e= .returned (.slice x ts.length c)/\AF w' (.slice x ts.length c) (Aw ts []).1
theorem QT(w:World)(tv:Value)(ts:Ll)(h:AF w tv ts)(hl:ts.length<=1000)(a9:ts.flatten.length<=8000)(bd:∀t∈ts,IG t):
  Calls prog 99 #[tv] w (Xp ts w):=by
 obtain⟨c7,h⟩:=h;obtain⟨ta,c6,rfl⟩:=Ac h.owns;have ae:=hd h;have br:=hd bd;have bn:=hd a9;clear h bd a9;go_enter func99,c1;go_wp2
 go_loopg [3,4,13] (ts.length+1) (fun gk ch au ar wr=>∃(k:Nat)(xs:Lv),ar=Vi k/\k<=ts.length/\ts.length-k<gk/\IA w wr.hz (Aw (ts.take k) []).1 ch xs (Aw (ts.take k) []).2 au [] Nl wr)
 case atStart=>exact⟨0,[],Yg,Qm _,Yo,Below.refl _ _,AK.nil _ _,Ys,Q2 _ _ _ _,Qe _,Qe _,Q2 _ _ _ _⟩
 case round=>
  obtain⟨k,xs,rfl,cu,cq,G⟩:=hrel;have cb:(Aw (ts.take k) []).2.length<=8000:=by
   have bz:=L4 (ts.take k) [];have b0:=bn.o;have b1:(ts.take k).flatten.length<=ts.flatten.length:=by
    conv=>rhs;rw[<-List.take_append_drop k ts,List.flatten_append,Qg]
    omega
   simp at bz;simp at b0 b1;omega
  have T:(Aw (ts.take k) []).1.length=k:=by rw[EX];simp;omega
  obtain⟨av,X⟩:∃r,r=(Aw (ts.take k) []).1:=⟨_,rfl⟩;obtain⟨met,U⟩:∃r,r=(Aw (ts.take k) []).2:=⟨_,rfl⟩;rw[<-X,<-U]at G;rw[<-U]at cb;rw[<-X]at T;have ap:=G.row.owns;rw[T]at ap;obtain⟨ac,ad,rfl⟩:=Ac ap;obtain⟨cz,c0,rfl⟩:=Ac G.met;have cx:=G.ext.size;have af:=hd G;have a5:=hd X;have bp:=hd U;have a0:=hd T;clear G ap X U T
  by_cases b9:k<ts.length
  ·obtain⟨t,D⟩:∃t,ts[k]?=some t:=⟨_,Qb b9⟩;obtain⟨x,Y,aq⟩:=ae.o.all _ t D;obtain⟨bj,bk,rfl⟩:=Ac aq;obtain⟨g,cl,bu,a7,_,bb,_⟩:=An ae.o.owns Yo;simp only[QH]at a7;obtain⟨rfl,_,rfl⟩:=a7;have b8:=Ab bb;have cr:g<wr.hz:=Yo
   have cj:wr.cell? ⟨g,k,none⟩=some (.slice bj t.length bk):=(af.o.ext.cell (p:=⟨g,k,none⟩) b8).trans (Ag ae.o.owns _ _ Y);obtain⟨bf,c2,bg⟩:=br.o t (Qh D);have ai:Hd (BJ w (.slice bj t.length bk) t):=aq;have bt:=hd D;have bq:=hd bg;have ck:Hd (∀(i:Nat) s,t[i]?=some s->s.name=[]->s.args=0):=fun i s q=>by obtain⟨j,l⟩:=bf;exact(G5 l q).1
   have cv:met.length+t.length<=9000:=Yo
   obtain⟨E,cf⟩:∃x,x=wr:=⟨_,rfl⟩;subst cf;clear D Y aq bb bf bg;go_wp2
   go_loopg [4,7,19] (t.length+1) (fun gk au bv ar wr=>∃(i:Nat),ar=Vi i/\i<=t.length/\t.length-i<gk/\IA w E.hz av (.slice ac k ad) xs (AC (t.take i) met).2 au (AC (t.take i) met).1 bv wr)
   case atStart=>exact⟨0,Yg,Qm _,Yo,af.o⟩
   case round=>
    obtain⟨i,rfl,hi,cp,u⟩:=hrel;have cc:(AC (t.take i) met).2.length<=9000:=by
     have:=KK (t.take i) met;simp at this;omega
    have S:(AC (t.take i) met).1.length=i:=by rw[Iw];simp;omega
    obtain⟨c,A⟩:∃r,r=(AC (t.take i) met).1:=⟨_,rfl⟩;obtain⟨a,B⟩:∃r,r=(AC (t.take i) met).2:=⟨_,rfl⟩;rw[<-A,<-B]at u;rw[<-B]at cc;rw[<-A]at S;have an:=u.chg;rw[S]at an;obtain⟨ca,d,rfl⟩:=Ac an;obtain⟨na,Z,rfl⟩:=Ac u.met;have cw:=u.ext.size;have b4:=u.b2;have m:=hd u;have az:=hd A;have a3:=hd B;have F:=hd S;clear u an A B S cj
    by_cases hit:i<t.length
    ·obtain⟨s,q⟩:∃s,t[i]?=some s:=⟨_,Qb hit⟩;obtain⟨R,cm,cn,a8,_,bc,_⟩:=An ai.o Yo;simp only[QH]at a8;obtain⟨rfl,_,rfl⟩:=a8;have W:=Aj ai.o (fun j l=>m.o.ext.block j (ai.o.lt j l).2);have ct:=Ab bc;have cs:R<wr.hz:=Yo
     have al:wr.cell? ⟨R,i*3,none⟩=some (.string ⟨s.name.toArray⟩):=Ag W _ _ (by have:=AV t i s q 0 Yo;rw[Nat.add_zero]at this;rw[this];rfl);have bw:wr.cell? ⟨R,i*3+1,none⟩=some (Vi s.num):=Ag W _ _ (by rw[AV t i s q 1 Yo];rfl);have bx:wr.cell? ⟨R,i*3+2,none⟩=some (Vi s.args):=Ag W _ _ (by rw[AV t i s q 2 Yo];rfl);have cd:=bq.o s (Qh q);have V:AC (t.take (i+1)) met=(if s.name=[]then(c++[⟨[],a.idxOf s.num,s.args⟩],Ev s.num a)else(c++[s],a)):=by
      rw[List.take_add_one,q];simp only[Option.toList];rw[It,<-az.o,<-a3.o];simp only[AC];split<;>rfl
     have a4:=hd V;clear q W bc V
     cases C:s.name with
     |cons y M=>
      rw[C]at al;have Q:Hd (AC (t.take (i+1)) met=(c++[s],a)):=by show _=_;rw[a4.o,if_neg (by rw[C];simp)]
      have bs:Hd (s=⟨y::M,s.num,s.args⟩):=by show _=_;rw[<-C]
      have v:Ao wr (wr.alloc (.cells #[.string ⟨(y::M).toArray⟩,Vi s.num,Vi s.args] 133)):=Mxt;have aw:=hd (m.o.on v);have f:Hd ((wr.alloc (.cells #[.string ⟨(y::M).toArray⟩,Vi s.num,Vi s.args] 133)).ownsRow E.hz 133 3 (.slice ca i d) i (Aq c)):=by have:=aw.o.chg;rw[F.o]at this;exact this
      clear C v
      go_wp2_with (at_builtin;go_loud (refine Am (wr.alloc (.cells #[.string ⟨(y::M).toArray⟩,Vi s.num,Vi s.args] 133)) rfl (.tmp 41) (.tmp 43) 105 rfl E.hz 133 infoSym underlying105 rfl Yd (.slice ca i d) i (Aq c) rfl f.o #[.string ⟨(y::M).toArray⟩,Vi s.num,Vi s.args] (N:=wr.hz+1) rfl Ys rfl (Fu _ _ _) ?_ ?_ ?_))
      ·omega
      ·simp;omega
      intro bi w2 b;obtain⟨H,I,rfl⟩:=Ac b.owns;have J:=aw.o.chApp (s:=s) (cv2:= .slice H (i+1) I) (w2:=w2) (by rw[F.o,bs.o];simpa[Bz]using b);have bl:=hd J;clear b J;go_wp2
      go_roundg (t.length-i)
      case measure=>omega
      case rel=>exact⟨i+1,Yg,Yo,Yo,by rw[Q.o];exact bl.o⟩
     |nil=>
      rw[C]at al;obtain⟨P,L⟩:∃p,p=a.idxOf s.num:=⟨_,rfl⟩;have co:P<=a.length:=by rw[L];exact List.idxOf_le_length
      have v:∀o,Ao wr (wr.alloc o):=fun o=>Mxt;have ay:=hd (Px (wr.alloc (.cells #[.string ⟨#[]⟩,Vi s.num,Vi s.args] 133)) s.num (.slice na a.length Z) a (AI (m.o.on (v _)).met (Qm _)) Yo cd);rw[<-L]at ay;have Q:Hd (AC (t.take (i+1)) met=(c++[⟨[],P,s.args⟩],Ev s.num a)):=by show _=_;rw[a4.o,if_pos C,<-L]
      have a1:Hd (Ev s.num a=if P=a.length then a++[s.num]else a):=by show _=_;unfold Ev;rw[<-L]
      have bm:=hd v;have ax:=hd (m.o.on (v (.cells #[.string ⟨#[]⟩,Vi s.num,Vi s.args] 133)));clear C v L;go_wp2_with fail;apply ay.o.mono;rintro e w1 ⟨rfl,rfl⟩
      by_cases ao:P=a.length
      ·subst ao;have hz:((a.length:Int)==(a.length:Int))=true:=Ys
       have a2:Hd ((wr.alloc (.cells #[.string ⟨#[]⟩,Vi s.num,Vi s.args] 133)).ownsRow w.hz 3 1 (.slice na a.length Z) a.length (AM a)):=ax.o.met
       go_wp2_with (at_builtin;go_loud (refine Am (wr.alloc (.cells #[.string ⟨#[]⟩,Vi s.num,Vi s.args] 133)) rfl (.tmp 34) (.tmp 37) 25 rfl w.hz 3 infoInt underlying25 rfl Yd (.slice na a.length Z) a.length (AM a) rfl a2.o #[Vi s.num] (N:=wr.hz+1) rfl Ys rfl (DT _) ?_ ?_ ?_))
       ·omega
       ·simp;omega
       intro bi w2 b;obtain⟨H,I,rfl⟩:=Ac b.owns;have J:=ax.o.metApp (n:=s.num) b;have z:w2.heap[wr.hz]?=some (.cells #[.string ⟨#[]⟩,Vi s.num,Vi s.args] 133 (0,0)):=(b.kept.block _ Ys (Ai a2.o Yd (QL wr _))).trans (QL wr _);have a6:Ad (fun k=>k=wr.hz) w2 (w2.setCell ⟨wr.hz,1,none⟩ (Vi a.length)):=(Ad.refl (only wr.hz) w2).put 1 _;have am:=J.box z b4 (fun j l=>by have:=(m.o.chg.lt j l).2;omega) a6;have c8:=Aa z 0 _ rfl;have c9:=Aa z 1 _ rfl;have da:=Aa z 2 _ rfl;have db:=fun i=>Ae z i;have dc:=Ab z;have ce:=b.kept.size;simp at ce;have O:=hd am;have f:Hd ((w2.setCell ⟨wr.hz,1,none⟩ (Vi a.length)).ownsRow E.hz 133 3 (.slice ca i d) i (Aq c)):=by have:=am.chg;rw[F.o]at this;exact this
       have ah:Hd (Ev s.num a=a++[s.num]):=by show _=_;rw[a1.o];simp
       clear b J z a6 am al bw bx
       go_wp2_with (at_builtin;go_loud (refine Am (w2.setCell ⟨wr.hz,1,none⟩ (Vi a.length)) rfl (.tmp 41) (.tmp 43) 105 rfl E.hz 133 infoSym underlying105 rfl Yd (.slice ca i d) i (Aq c) rfl f.o #[.string ⟨#[]⟩,Vi a.length,Vi s.args] (N:=w2.hz) rfl Ys rfl (Fu _ _ _) ?_ ?_ ?_))
       ·omega
       ·simp;omega
       intro ci w4 b;obtain⟨aj,ak,rfl⟩:=Ac b.owns;have K:=O.o.chApp (s:=⟨[],a.length,s.args⟩) (cv2:= .slice aj (i+1) ak) (w2:=w4) (by rw[F.o];simpa[Bz]using b);have ag:=hd K;clear b K;go_wp2
       go_roundg (t.length-i)
       case measure=>omega
       case rel=>exact⟨i+1,Yg,Yo,Yo,by rw[Q.o,ah.o];exact ag.o⟩
      ·have hz:((P:Int)==(a.length:Int))=false:=by rw[Qu];omega
       have ah:Hd (Ev s.num a=a):=by show _=_;rw[a1.o,if_neg ao]
       have O:=hd (m.o.on (bm.o (.cells #[.string ⟨#[]⟩,Vi P,Vi s.args] 133)));have f:Hd ((wr.alloc (.cells #[.string ⟨#[]⟩,Vi P,Vi s.args] 133)).ownsRow E.hz 133 3 (.slice ca i d) i (Aq c)):=by have:=O.o.chg;rw[F.o]at this;exact this
       clear ao
       go_wp2_with (at_builtin;go_loud (refine Am (wr.alloc (.cells #[.string ⟨#[]⟩,Vi P,Vi s.args] 133)) rfl (.tmp 41) (.tmp 43) 105 rfl E.hz 133 infoSym underlying105 rfl Yd (.slice ca i d) i (Aq c) rfl f.o #[.string ⟨#[]⟩,Vi P,Vi s.args] (N:=wr.hz+1) rfl Ys rfl (Fu _ _ _) ?_ ?_ ?_))
       ·omega
       ·simp;omega
       intro ci w4 b;obtain⟨aj,ak,rfl⟩:=Ac b.owns;have K:=O.o.chApp (s:=⟨[],P,s.args⟩) (cv2:= .slice aj (i+1) ak) (w2:=w4) (by rw[F.o];simpa[Bz]using b);have ag:=hd K;clear b K;go_wp2
       go_roundg (t.length-i)
       case measure=>omega
       case rel=>exact⟨i+1,Yg,Yo,Yo,by rw[Q.o,ah.o];exact ag.o⟩
    ·have b6:i=t.length:=Yo
     subst b6;have f:Hd (wr.ownsRow w.hz 105 1 (.slice ac k ad) k xs):=by have:=m.o.row.owns;rw[a0.o]at this;exact this
     go_wp2_with (at_builtin;go_loud (refine Am wr rfl (.tmp 46) (.tmp 48) 85 rfl w.hz 105 infoSyms underlying85 rfl Yd (.slice ac k ad) k xs rfl f.o #[.slice ca t.length d] (N:=wr.hz) rfl Ys rfl (DB _ _ _) ?_ ?_ ?_))
     ·omega
     ·omega
     intro bi w2 b;obtain⟨H,I,rfl⟩:=Ac b.owns;have ba:IA w w2.hz (Aw (ts.take (k+1)) []).1 (.slice H (k+1) I) (xs++[.slice ca t.length d]) (Aw (ts.take (k+1)) []).2 (.slice na a.length Z) [] Nl w2:=by
      have A:=az.o;have B:=a3.o;rw[List.take_length]at A B;have V:Aw (ts.take (k+1)) []=(av++[c],a):=by
       rw[List.take_add_one,bt.o];simp only[Option.toList];rw[Mv,<-a5.o,<-bp.o];simp only[Aw];rw[A,B]
      rw[V];obtain⟨aa,ab,c3,bh,c4,c5,cg⟩:=m.o;have cy:=b.kept.size;have Y:BJ wr (.slice ca t.length d) c:=AI cg (Qm _);have D:AK w2 w.hz (.slice H (k+1) I) (av++[c]) (xs++[.slice ca t.length d]):=ab.snoc (by rw[a0.o];exact b) Y;refine⟨aa.trans (b.kept.below aa.size (fun j l=>(f.o.lt j l).1)),D,D.words,b.kept.owns bh (fun j l b3=> ?_),Yo,Qe _,Q2 _ _ _ _⟩;obtain⟨bu,b5⟩:=Ay f.o j b3;exact Ai bh Yd b5 l
     have bo:=hd ba;clear b ba;go_wp2
     go_roundg (ts.length-k)
     case measure=>omega
     case rel=>exact⟨k+1,_,Yg,Yo,Yo,bo.o⟩
  ·have b7:k=ts.length:=Yo
   subst b7;go_wp2;go_ret;have be:=a5.o;rw[List.take_length]at be;obtain⟨aa,ab,_⟩:=af.o;rw[be]at ab;exact⟨aa,ac,ad,rfl,ab.inn⟩
structure V8(ts:List (List BL)):Prop where
 len:ts.length<=1000
 all:ts.flatten.length<=8000
 ok:∀t∈ts,IG t
 sym:∀t∈(Aw ts []).1,Hk t
 txt:∀t∈(Aw ts []).1,(A3 t []).length<=1000000
def GR(ts:Ll):List (Lu):=(Aw ts []).1.map (fun t=>A3 t [])
def O1(ts:Ll)(w:World)(e:Ending)(w':World):Prop:=Ao w w'/\∃x c,e= .returned (.slice x ts.length c)/\w'.ownsRow 0 9 1 (.slice x ts.length c) ts.length (Ba (GR ts))
theorem M1(w:World)(tv:Value)(ts:Ll)(h:AF w tv ts)(a:V8 ts):Calls prog 79 #[tv] w (O1 ts w):=by
 obtain⟨ta,ay,rfl⟩:=h.shape;have K:=hd (QT w _ ts h a.len a.all a.ok);have M:=hd a;have hl:=a.len;have v:(Aw ts []).1.length=ts.length:=EX _ _;obtain⟨C,f⟩:=Ex ((Aw ts []).1);have ad:Hd (GR ts=C.map (fun t=>A3 t [])):=by show _=_;unfold GR;rw[f]
 rw[<-f]at v;have J:=hd f;have d:=hd v;clear h a f v;go_enter func79,ntmps79;go_wp2_with fail;apply K.o.mono;rintro e w1 ⟨u,a1,a2,rfl,b⟩;rw[<-J.o]at b;obtain⟨az,b⟩:=b;have am:=u.size;have Y:=hd u;have L:=hd b;clear u b K;go_wp2
 go_loopg [3,9] (ts.length+1) (fun gk ao an wr=>∃(k:Nat),an=Vi k/\k<=ts.length/\ts.length-k<gk/\Ao w1 wr/\wr.ownsRow w1.hz 9 1 ao k (Ba ((C.take k).map (fun t=>A3 t []))))
 case atStart=>exact⟨0,Yg,Qm _,Yo,Below.refl _ _,Q2 _ _ _ _⟩
 case round=>
  obtain⟨k,rfl,aw,au,s,z⟩:=hrel;obtain⟨G,H,rfl⟩:=Ac z;have ak:=s.size;have c:=hd s;have q:=hd z;clear s z
  by_cases aj:k<ts.length
  ·have ai:k<C.length:=by rw[d.o];exact aj
   obtain⟨t,n⟩:∃t,C[k]?=some t:=⟨_,Qb ai⟩;obtain⟨y,U,F⟩:=L.o.all _ t n;obtain⟨V,W,rfl⟩:=Ac F;have m:=L.o.owns;rw[d.o]at m;obtain⟨g,aq,ar,Q,_,R,_⟩:=An m Yo;simp only[QH]at Q;obtain⟨rfl,_,rfl⟩:=Q;have ah:=Ab R;have av:g<wr.hz:=Yo
   have ap:wr.cell? ⟨g,k,none⟩=some (.slice V t.length W):=(c.o.cell (p:=⟨g,k,none⟩) ah).trans (Ag m _ _ U);have E:t∈(Aw ts []).1:=by rw[<-J.o];exact Qh n
   have D:=M.o.sym t E;have al:=M.o.txt t E;have I:=hd (GX wr 0 (.slice V t.length W) t (BJ.ext F c.o) D.1 D.2 Yo);have S:C.take (k+1)=C.take k++[t]:=by rw[List.take_add_one,n];rfl
   obtain⟨A,r⟩:=Ex (A3 t []);rw[<-r]at I al;have X:=hd r;have ab:=hd S;clear n U F m R E D S r;go_wp2_with fail;apply I.o.mono;rintro e w2 ⟨rfl,i⟩;have ax:=i.size;have Z:Hd (Ao w1 w2):=c.o.trans (i.mono ak);have O:Hd (w2.ownsRow w1.hz 9 1 (.slice G k H) k (Ba ((C.take k).map (fun t=>A3 t [])))):=Aj q.o (fun j x=>i.block j (q.o.lt j x).2);clear i ap
   go_wp2_with (at_builtin;go_loud (refine Am w2 rfl (.tmp 13) (.tmp 16) 47 rfl w1.hz 9 infoStr underlying47 rfl Yd (.slice G k H) k (Ba ((C.take k).map (fun t=>A3 t []))) rfl O.o #[.string ⟨A.toArray⟩] (N:=w2.hz) rfl Ys rfl (NC _) ?_ ?_ ?_))
   ·omega
   ·omega
   intro a0 w3 l;obtain⟨ae,af,rfl⟩:=Ac l.owns;have P:Ao w1 w3:=Z.o.trans (l.kept.below Yo (fun j x=>(O.o.lt j x).1));have T:w3.ownsRow w1.hz 9 1 (.slice ae (k+1) af) (k+1) (Ba ((C.take (k+1)).map (fun t=>A3 t []))):=by
    have:=l.owns;rw[ab.o,Qr];simp only[Qx,List.map_nil,Ba,Qr];rw[<-X.o];rw[<-List.map_take]at this;exact this
   have aa:=hd P;have ac:=hd T;clear l P T;go_wp2
   go_roundg (ts.length-k)
   case measure=>omega
   case rel=>exact⟨k+1,Yg,Yo,Yo,aa.o,ac.o⟩
  ·have ag:k=ts.length:=Yo
   subst ag;go_wp2;go_ret;have B:=q.o;rw[<-d.o,List.take_length]at B;rw[<-ad.o,d.o]at B;exact⟨Y.o.trans (c.o.mono am),G,H,rfl,AI B (Qm _)⟩
theorem FM(w:World)(nv T:Value)(names:At)(ts:Ll)(hn:w.ownsRow 0 9 1 nv names.length (Ba names))(h:AF w T ts)(j:V8 ts)(hl:names.length=ts.length)(v:(DK [] names (Aw ts []).1).length<=100000000):
  Calls prog 70 #[nv,T] w fun e w'=>Ao w w'/\e= .returned (.string ⟨(if names=[]then[121,101,115]else DK [] names (Aw ts []).1).toArray⟩):=by
 obtain⟨na,ad,rfl⟩:=Ac hn;obtain⟨ta,aw,rfl⟩:=h.shape
 by_cases h0:names=[]
 ·subst h0;clear hn h j hl v;go_enter func70,ntmps70;go_wp2;go_ret;exact⟨Below.refl _ _,Ys⟩
 ·have ab:0<names.length:=List.length_pos_iff.2 h0;rw[if_neg h0];have m:=hd (M1 w _ ts h j);have z:(Aw ts []).1.length=ts.length:=EX _ _;have au:=j.len;obtain⟨C,r⟩:=Ex ((Aw ts []).1);have X:Hd (GR ts=C.map (fun t=>A3 t [])):=by show _=_;unfold GR;rw[r]
  rw[<-r]at z v⊢;obtain⟨c,u⟩:=Ex (DK [] names C);rw[<-u]at v⊢;have U:=hd u;have W:=hd hn;have V:=hd z;have af:((names.length:Int)==0)=false:=by rw[Qu];omega
  have ag:=hd hl;obtain⟨N,y⟩:=Ex names.length;rw[<-y]at af ab⊢;have al:N<=1000:=Yo
  have l:ts.length=N:=Yo
  rw[l];have HN:=hd y;have I:=hd l;rw[l]at m;clear hn h j r u z hl h0 y l;go_enter func70,ntmps70;go_wp2_with fail;apply m.o.mono;rintro e w1 ⟨s,ay,az,rfl,f⟩;rw[I.o]at f⊢;rw[X.o]at f;have av:=s.size;have G:=hd s;have H:=hd f;clear s f m;go_wp2
  go_loopg [5,14] (N+1) (fun gk ae ac wr=>∃(k:Nat)(a:Lu),ac=Vi k/\k<=N/\N-k<gk/\ae= .string ⟨a.toArray⟩/\a++DK (if k=0 then[]else[44]) (names.drop k) (C.drop k)=c/\wr=w1)
  case atStart=>exact⟨0,[],Yg,Qm _,Yo,rfl,by rw[U.o];rfl,rfl⟩
  case round=>
   obtain⟨k,a,rfl,ap,am,rfl,b,rfl⟩:=hrel
   by_cases S:k<N
   ·have R:k<names.length:=by rw[<-HN.o];exact S
    have Q:k<C.length:=by rw[V.o,I.o];exact S
    obtain⟨x,F⟩:∃x,names[k]?=some x:=⟨_,Qb R⟩;obtain⟨t,E⟩:∃t,C[k]?=some t:=⟨_,Qb Q⟩;have K:names.drop k=x::names.drop (k+1):=by rw[QC R,(Qa.1 F).2]
    have J:C.drop k=t::C.drop (k+1):=by rw[QC Q,(Qa.1 E).2]
    rw[K,J,DK]at b;have D:w.ownsRow 0 9 1 (.slice na N ad) N (Ba names):=by have:=W.o;rw[<-HN.o]at this;exact this
    obtain⟨g,ah,aj,L,_,O,_⟩:=An D Yo;simp only[QH]at L;obtain⟨rfl,_,rfl⟩:=L;have aa:=Ab O;have an:g<wr.hz:=Yo
    have ax:wr.cell? ⟨g,k,none⟩=some (.string ⟨x.toArray⟩):=(G.o.cell (p:=⟨g,k,none⟩) aa).trans (Ag D _ _ (by simp[Ba,F]));obtain⟨Y,ai,ak,M,_,P,_⟩:=An H.o Yo;simp only[QH]at M;obtain⟨rfl,_,rfl⟩:=M;have ao:=Ab P;obtain⟨A,q⟩:=Ex (A3 t []);have a0:wr.cell? ⟨Y,k,none⟩=some (.string ⟨A.toArray⟩):=Ag H.o _ _ (by simp[Ba,E,q]);rw[<-q]at b;have i:=Ig b;simp only[Qg,Qf]at i;have d:=hd b;have ar:¬((N:Int)<=(k:Int)):=Yo
    clear b K J F E D O P q
    by_cases B:k=0
    ·subst B;have n:Hd (a++(x++[61]++A)++DK [44] (names.drop (0+1)) (C.drop (0+1))=c):=by show _=_;rw[<-d.o];simp
     simp only[if_pos,Qt]at i;go_wp2
     go_roundg (N-0)
     case measure=>omega
     case rel=>
      refine⟨0+1,a++(x++[61]++A),Yg,Yo,Yo,?_,n.o,rfl⟩;show Value.string (_++(_++(⟨[61].toArray⟩:ByteArray)++_))=_;rw[Az,Az,Az]
    ·have n:Hd (a++[44]++(x++[61]++A)++DK [44] (names.drop (k+1)) (C.drop (k+1))=c):=by show _=_;rw[<-d.o,if_neg B];simp
     rw[if_neg B]at i;simp only[Qf,Qt]at i;have aq:(0:Int)<(k:Int):=Yo
     go_wp2
     go_roundg (N-k)
     case measure=>omega
     case rel=>
      refine⟨k+1,a++[44]++(x++[61]++A),Yg,Yo,Yo,?_,by rw[if_neg Yo];exact n.o,rfl⟩;show Value.string (_++(⟨[44].toArray⟩:ByteArray)++(_++(⟨[61].toArray⟩:ByteArray)++_))=_;rw[Az,Az,Az,Az]
   ·have Z:k=N:=Yo
    subst Z;have d:Hd (a=c):=by
     show _=_;rw[List.drop_eq_nil_of_le (by rw[<-HN.o];exact Qe _)]at b;simpa[DK]using b
    clear b;go_wp2;go_ret;rw[<-d.o];exact⟨G.o,rfl⟩
structure XE(p q x:ByteArray)(a:List (List BL)×At)(ks:List Nat)(n m:ND):Prop where
 ask:Cr q=some a
 held:Bo p q x=(a.2,m,0,0)
 ok:FU n
 nm:NK n
 few:Mk n
 same:Co n m
 fol:∃cs,BD p=some cs/\AA cs (AN a) ks 0=(m,0,0)
def CD:Value:= .agg #[.slice none 0 0,.slice none 0 0,.slice none 0 0,.slice none 0 0,.int .i64 0,.slice none 0 0,.slice none 0 0]
def OR(p q x:ByteArray)(w:World)(e:Ending)(w':World):Prop:=Ao w w'/\
 (((Bo p q x).2.2.1≠0/\e= .returned (.tuple #[CD,.agg #[.int .i64 (Bo p q x).2.2.1,.int .i64 (Bo p q x).2.2.2]]))\/
  (∃a ks n m,XE p q x a ks n m/\∃n1 nc g1 g2 g3 v1 v2 v3 r1 r2 r3,∃uu:Nat,∃k1 kc d1 dc,e= .returned (.tuple #[.agg #[.slice n1 a.2.length nc,.slice g1 g2 g3,.slice v1 v2 v3,.slice r1 r2 r3,.int .i64 uu,.slice k1 ks.length kc,.slice d1 (m.done.map (·.2)).length dc],.agg #[.int .i64 0,.int .i64 0]])/\
   Gd w' (.slice g1 g2 g3) (.slice v1 v2 v3) (.slice r1 r2 r3) n/\w'.ownsRow 0 9 1 (.slice n1 a.2.length nc) a.2.length (Ba a.2)/\w'.ownsRow 0 3 1 (.slice k1 ks.length kc) ks.length (AM ks)/\w'.ownsRow 0 3 1 (.slice d1 (m.done.map (·.2)).length dc) (m.done.map (·.2)).length (AM (m.done.map (·.2)))))
theorem LS(p q x:ByteArray)(w:World)(cy:p.size<=maxLen)(cz:q.size<=maxLen)(c2:x.size<=maxLen):Calls prog 42 #[.string p,.string q,.string x] w (OR p q x w):=by
 have db:=hd (fun u=>JF p q u cy cz);have dj:=hd (fun u=>U5 x u c2);clear cy cz c2;obtain⟨V,X⟩:=Ex ((w.alloc (.cells #[Nl,Nl,Nl,Nl,Vi 0,Nl,Nl] 89)).alloc (.cells #[Vi 0,Vi 0] 91));have cb:Ao w V:=by rw[X];exact Mxt
 have d1:V.hz=w.hz+2:=by rw[X];simp
 have bf:V.heap[w.hz]?=some (.cells #[Nl,Nl,Nl,Nl,Vi 0,Nl,Nl] 89 (0,0)):=by rw[X];exact Ah (QL w _) _
 have bg:V.heap[w.hz+1]?=some (.cells #[Vi 0,Vi 0] 91 (0,0)):=by rw[X];exact CU Ys _
 have a2:Hd (∀y,Ao V y->y.cell? ⟨w.hz,0,none⟩=some Nl/\y.cell? ⟨w.hz,1,none⟩=some Nl/\y.cell? ⟨w.hz,2,none⟩=some Nl/\y.cell? ⟨w.hz,3,none⟩=some Nl/\y.cell? ⟨w.hz,4,none⟩=some (Vi 0)/\y.cell? ⟨w.hz,5,none⟩=some Nl/\y.cell? ⟨w.hz,6,none⟩=some Nl/\(∀i,y.frozen? ⟨w.hz,i,none⟩=false)/\
   y.cell? ⟨w.hz+1,0,none⟩=some (Vi 0)/\y.cell? ⟨w.hz+1,1,none⟩=some (Vi 0)/\(∀i,y.frozen? ⟨w.hz+1,i,none⟩=false)/\w.hz<y.hz/\w.hz+1<y.hz):=fun y d=>by
  have C:=(d.block _ (Ab bf)).trans bf;have a5:=(d.block _ (Ab bg)).trans bg;exact⟨Aa C 0 _ rfl,Aa C 1 _ rfl,Aa C 2 _ rfl,Aa C 3 _ rfl,Aa C 4 _ rfl,Aa C 5 _ rfl,Aa C 6 _ rfl,fun i=>Ae C i,Aa a5 0 _ rfl,Aa a5 1 _ rfl,fun i=>Ae a5 i,Ab C,Ab a5⟩
 have b5:=hd bf;have b6:=hd bg;have de:=hd cb;clear bf bg cb;go_enter func42,ntmps42;go_wp2_with fail;rw[<-X];have d0:=hd X;clear X;apply(db.o V).mono;rintro e w1 ⟨ai,T⟩;obtain⟨H,I,J,K,L,N,O,P,E,F,G,Q,fl⟩:=a2.o w1 ai;have d3:=ai.size;have cc:Ao w w1:=de.o.trans (ai.mono Yo);have bl:=hd ai;have bn:=hd cc;clear ai cc;rcases T with⟨an,rfl⟩|⟨⟨cs,R⟩,an,rfl⟩|⟨cs,a,c5,lc,xs,a6,a7,a8,b1,a4,U,nc,R,al,rfl,cm,b9,ch⟩
 ·have z:Hd ((Bo p q x).2.2=(4,0)):=by show _=_;simp[Bo,an]
  clear an;go_wp2;refine bodyPost_ret (v:= .tuple #[CD,.agg #[Vi 4,Vi 0]]) (by simp[results,results42,go_sem,CD,H,I,J,K,L,N,O,P,E,F,G,Q,fl]) rfl ?_;exact⟨bn.o.trans (Ad.below (S:=fun i=>w.hz<=i) Mst Yo (fun i e=>e)),Or.inl (by rw[z.o];exact⟨Ys,rfl⟩)⟩
 ·have z:Hd ((Bo p q x).2.2=(5,0)):=by show _=_;simp[Bo,R,an]
  clear an R;go_wp2;refine bodyPost_ret (v:= .tuple #[CD,.agg #[Vi 5,Vi 0]]) (by simp[results,results42,go_sem,CD,H,I,J,K,L,N,O,P,E,F,G,Q,fl]) rfl ?_;exact⟨bn.o.trans (Ad.below (S:=fun i=>w.hz<=i) Mst Yo (fun i e=>e)),Or.inl (by rw[z.o];exact⟨Ys,rfl⟩)⟩
 ·obtain⟨_,_,_,ck,cj,co,_,dw,_⟩:=Cs al;obtain⟨_,_,_,ca,cq⟩:=CA R;have bp:Hd (Bo p q x=if 400<x.size then([],⟨[],[],[],[],0⟩,1,0)else match Bn x with
   | (none,at')=>([],⟨[],[],[],[],0⟩,6,at')
   | (some ks,_)=>(a.2,AA cs (AN a) ks 0)):=by show _=_;unfold Bo;rw[R,al];rfl
  have dk:=hd cm;have c9:=hd b9;have HN:=hd ch;have di:=hd ck;have dh:=hd cj;have dg:=hd (N0 al);have dd:=hd (LX R);have bz:Hd (∀c∈cs,Kl c/\QU c):=ca;have dl:=hd al;have dm:=hd R;clear cm b9 ch ck cj ca al R;go_wp2_with fail;apply(dj.o _).mono;rintro e w2 ⟨bb,T⟩;have c3:=bb.size;have c3:w1.hz+1<=w2.hz:=by simpa using c3
  have ba:Ao w1 w2:=(Below.refl _ w1|>.alloc (Qe _) _).trans (bb.mono Ys);have am:w2.heap[w1.hz]?=some (.cells #[.slice a6 a7 a8,.slice b1 a.1.length a4,.slice U a.2.length nc] 107 (0,0)):=(bb.block _ Ys).trans (QL w1 _);have cd:Ao w w2:=bn.o.trans (ba.mono Yo);obtain⟨H,I,J,K,L,N,O,P,E,F,G,Q,fl⟩:=a2.o w2 (bl.o.trans (ba.mono Yo));have q0:=Aa am 0 _ rfl;have c8:=Aa am 1 _ rfl;have bk:=Aa am 2 _ rfl;have au:=Ab am;have ae:=hd ba;have a3:=hd cd;clear bb ba cd am;rcases T with⟨cp,rfl⟩|⟨d2,⟨ks,aq,ar,ao,rfl,ac,cv,bv⟩|⟨c7,ao,rfl⟩⟩
  ·have z:Hd ((Bo p q x).2.2=(1,0)):=by show _=_;rw[bp.o,if_pos cp]
   clear cp;go_wp2_with fail;go_region
   all_goals
    go_wp2;refine bodyPost_ret (v:= .tuple #[CD,.agg #[Vi 1,Vi 0]]) (by simp[results,results42,go_sem,CD,H,I,J,K,L,N,O,P,E,F,G,Q,fl]) rfl ?_;exact⟨a3.o.trans (Ad.below (S:=fun i=>w.hz<=i) Mst Yo (fun i e=>e)),Or.inl (by rw[z.o];exact⟨Ys,rfl⟩)⟩
  ·have b7:Hd (Bo p q x=(a.2,AA cs (AN a) ks 0)):=by show _=_;rw[bp.o,if_neg Yo,ao]
   have bs:=dk.o.ext ae.o;have br:=c9.o.ext ae.o;have aa:=Aj HN.o (fun j b=>ae.o.block j (HN.o.lt j b).2);have b3:Hd (∀o,Calls prog 68 #[.slice c5 cs.length lc,.agg #[.slice a6 a7 a8,.slice b1 a.1.length a4,.slice U a.2.length nc],.slice aq ks.length ar] (w2.alloc o) (GW cs a ks (w2.alloc o))):=fun o=>by
    have d:Ao w2 (w2.alloc o):=Mxt;exact PZ _ _ _ _ _ _ cs xs a ks (bs.ext d) ⟨_,_,_,rfl⟩ (br.ext d) (Aj aa (fun j b=>d.block j (aa.lt j b).2)) (Aj ac (fun j b=>d.block j (ac.lt j b).2)) bz.o dd.o cq di.o dh.o dg.o co dw cv bv
   have b0:Hd ((AA cs (AN a) ks 0).2=(0,0)->∀y,Ao w2 y->Calls prog 69 #[.slice c5 cs.length lc,.agg #[.slice a6 a7 a8,.slice b1 a.1.length a4,.slice U a.2.length nc],.slice aq ks.length ar] y (Vp ((AA cs (AN a) ks 0).1.done.map (·.2)) y)):=fun dy y d=>
    Nt y _ _ _ _ _ cs xs a ks (bs.ext d) ⟨_,_,_,rfl⟩ (br.ext d) (Aj aa (fun j b=>d.block j (aa.lt j b).2)) (Aj ac (fun j b=>d.block j (ac.lt j b).2)) (fun c dx=>(bz.o c dx).1) cq co cv bv dy
   have b4:=hd aa;have b8:=hd ac;clear bs br aa ac bv ao;go_wp2_with fail;apply(b3.o _).mono;rintro e w3 ⟨bc,T⟩;have c4:=bc.size;have c4:w2.hz+1<=w3.hz:=by simpa using c4
   have W:Ao w2 w3:=(Below.refl _ w2|>.alloc (Qe _) _).trans (bc.mono Ys);have ab:w3.heap[w2.hz]?=some (.cells #[Vi 0,Vi 0] 91 (0,0)):=(bc.block _ Ys).trans (QL w2 _);have ce:Ao w w3:=a3.o.trans (W.mono Yo);obtain⟨H,I,J,K,L,N,O,P,E,F,G,Q,fl⟩:=a2.o w3 (bl.o.trans ((ae.o.mono Yo).trans (W.mono Yo)));have d6:=Aa ab 0 _ rfl;have d7:=Aa ab 1 _ rfl;have d8:=fun i=>Ae ab i;have d9:=Ab ab;have q0:w3.cell? ⟨w1.hz,0,none⟩=some (.slice a6 a7 a8):=(W.cell (p:=⟨w1.hz,0,none⟩) au).trans q0;have c8:w3.cell? ⟨w1.hz,1,none⟩=some (.slice b1 a.1.length a4):=(W.cell (p:=⟨w1.hz,1,none⟩) au).trans c8;have bk:w3.cell? ⟨w1.hz,2,none⟩=some (.slice U a.2.length nc):=(W.cell (p:=⟨w1.hz,2,none⟩) au).trans bk;have d4:w1.hz<w3.hz:=Yo
   have bm:=hd W;have df:=hd ce;have dn:=hd ab;clear bc W ce ab b3;rcases T with⟨bw,rfl⟩|⟨hz,af,ag,ah,az,a0,a1,av,aw,ax,ay,n,rfl,cl,cx,cw,ct,c0⟩
   ·obtain⟨bq,bi⟩:∃r,r=(AA cs (AN a) ks 0).2.1:=⟨_,rfl⟩;obtain⟨c6,bx⟩:∃r,r=(AA cs (AN a) ks 0).2.2:=⟨_,rfl⟩;rw[<-bi,<-bx];rw[<-bi]at bw;have z:Hd ((Bo p q x).2.2.1=bq/\(Bo p q x).2.2.2=c6):=by show _/\_;rw[b7.o];exact⟨bi.symm,bx.symm⟩
    have hb:((bq:Int) !=0)=true:=by rw[bne_iff_ne];omega
    have dq:=hd bw;clear bi bx bw;go_wp2_with fail;go_region
    all_goals
     go_wp2;refine bodyPost_ret (v:= .tuple #[CD,.agg #[Vi bq,Vi c6]]) (by simp[results,results42,go_sem,CD,H,I,J,K,L,N,O,P,E,F,G,Q,fl]) rfl ?_;exact⟨df.o.trans (Ad.below (S:=fun i=>w.hz<=i) Mst Yo (fun i e=>e)),Or.inl (by rw[z.o.1,z.o.2];exact⟨dq.o,rfl⟩)⟩
   ·have bo:=hd cl;have ds:=hd cx;have dr:=hd cw;have dp:=hd ct;have du:=hd c0;have dv:=hd hz;have b2:=hd (b0.o hz);clear cl cx cw ct c0 hz b0;go_wp2_with fail;refine(b2.o _ (bm.o.trans (Ad.below (S:=fun i=>w2.hz<=i) Mst Yo (fun i e=>e)))).mono ?_;rintro e w4 ⟨aj,da,dc,rfl,bh⟩;obtain⟨M,be⟩:=Ex ((AA cs (AN a) ks 0).1);rw[<-be]at bh⊢;have bu:AA cs (AN a) ks 0=(M,0,0):=by rw[be,<-dv.o]
    have c1:Co n M:=by rw[be];exact du.o
    have dz:=aj.size;simp at dz;have Y:Ao w2 w4:=(bm.o.trans (Ad.below (S:=fun i=>w2.hz<=i) Mst Yo (fun i e=>e))).trans (aj.mono Yp);have cg:Ad (fun j=>j=w2.hz) w3 ((w3.setCell ⟨w2.hz,0,none⟩ (Vi 0)).setCell ⟨w2.hz,1,none⟩ (Vi 0)):=((Ad.refl (only w2.hz) w3).put 0 _).put 1 _;have cn:∀{v:Value}{ls:Ll},AF w3 v ls->AF w4 v ls:=fun{v ls} h=>((h.box dn.o Yd Yd cg).ext (Mxt:Ao _ (((w3.setCell ⟨w2.hz,0,none⟩ (Vi 0)).setCell ⟨w2.hz,1,none⟩ (Vi 0)).alloc (.cells #[.slice af ag ah,.slice az a0 a1,.slice av aw ax,Vi ay] 87)))).ext aj;have ad:w4.heap[w3.hz]?=some (.cells #[.slice af ag ah,.slice az a0 a1,.slice av aw ax,Vi ay] 87 (0,0)):=(aj.block _ Ys).trans (CU Ys _);have cf:Ao w w4:=a3.o.trans (Y.mono Yo);have bd:Ao V w4:=bl.o.trans ((ae.o.mono Yo).trans (Y.mono Yo));obtain⟨H,I,J,K,L,N,O,P,E,F,G,Q,fl⟩:=a2.o w4 bd;have ap:=(bd.block _ (Ab b5.o)).trans b5.o;have cr:=(bd.block _ (Ab b6.o)).trans b6.o;have ea:=Aa ad 0 _ rfl;have eb:=Aa ad 1 _ rfl;have ec:=Aa ad 2 _ rfl;have ed:=Aa ad 3 _ rfl;have ul:=Ab ad;have bk:w4.cell? ⟨w1.hz,2,none⟩=some (.slice U a.2.length nc):=(Y.cell (p:=⟨w1.hz,2,none⟩) au).trans ((bm.o.cell (p:=⟨w1.hz,2,none⟩) au).symm.trans bk);have d5:w1.hz<w4.hz:=Yo
    have ci:=Aj b4.o (fun j b=>Y.block j (b4.o.lt j b).2);have cu:=Aj b8.o (fun j b=>Y.block j (b8.o.lt j b).2);obtain⟨D,a9⟩:=Ex (M.done.map (·.2));rw[<-a9]at bh⊢;have Z:∀f g k l m s t,Ad (fun j=>j=w.hz) w4 (((((((w4.setCell ⟨w.hz,0,none⟩ f).setCell ⟨w.hz,1,none⟩ g).setCell ⟨w.hz,2,none⟩ k).setCell ⟨w.hz,3,none⟩ l).setCell ⟨w.hz,4,none⟩ m).setCell ⟨w.hz,5,none⟩ s).setCell ⟨w.hz,6,none⟩ t):=fun f g k l m s t=>(((((((Ad.refl (only w.hz) w4).put 0 _).put 1 _).put 2 _).put 3 _).put 4 _).put 5 _).put 6 _;have ak:∀(y:World) A B,Ad (fun j=>j=w.hz+1) y ((y.setCell ⟨w.hz+1,0,none⟩ A).setCell ⟨w.hz+1,1,none⟩ B):=fun y A B=>((Ad.refl (only (w.hz+1)) y).put 0 _).put 1 _;have T:∀f g k l m s t A B,OR p q x w (Rq #[.agg #[.slice U a.2.length nc,.slice af ag ah,.slice az a0 a1,.slice av aw ax,Vi ay,.slice aq ks.length ar,.slice da D.length dc],.agg #[Vi 0,Vi 0]]) (((((((((w4.setCell ⟨w.hz,0,none⟩ f).setCell ⟨w.hz,1,none⟩ g).setCell ⟨w.hz,2,none⟩ k).setCell ⟨w.hz,3,none⟩ l).setCell ⟨w.hz,4,none⟩ m).setCell ⟨w.hz,5,none⟩ s).setCell ⟨w.hz,6,none⟩ t).setCell ⟨w.hz+1,0,none⟩ A).setCell ⟨w.hz+1,1,none⟩ B):=fun f g k l m s t A B=>by
     have bj:=((Z f g k l m s t).block _ fl Ys).trans cr;have bt:∀{v:Value}{ls:Ll},AF w3 v ls->AF (((((((((w4.setCell ⟨w.hz,0,none⟩ f).setCell ⟨w.hz,1,none⟩ g).setCell ⟨w.hz,2,none⟩ k).setCell ⟨w.hz,3,none⟩ l).setCell ⟨w.hz,4,none⟩ m).setCell ⟨w.hz,5,none⟩ s).setCell ⟨w.hz,6,none⟩ t).setCell ⟨w.hz+1,0,none⟩ A).setCell ⟨w.hz+1,1,none⟩ B) v ls:=fun{v ls} h=>
      ((cn h).box ap Yd Yd (Z f g k l m s t)).box bj Yd Yd (ak _ A B)
     refine⟨cf.trans (Ad.below (S:=fun i=>w.hz<=i) Mst Yo (fun i e=>e)),Or.inr ⟨a,ks,n,M,⟨dl.o,by rw[b7.o,bu],ds.o,dr.o,dp.o,c1,cs,dm.o,bu⟩,U,nc,af,ag,ah,az,a0,a1,av,aw,ax,ay,aq,ar,da,dc,by rw[<-a9],⟨bt bo.o.goals,bt bo.o.vals,bt bo.o.done⟩,?_,?_,?_⟩⟩
     ·exact By (By ci ap Yd (Z f g k l m s t)) bj Yd (ak _ A B)
     ·exact By (By cu ap Yd (Z f g k l m s t)) bj Yd (ak _ A B)
     ·rw[<-a9];exact By (By bh ap Yd (Z f g k l m s t)) bj Yd (ak _ A B)
    have dt:=hd T;clear T Z ak cn ci cu bh Y cg ad cf bd ap cr bu c1 aj be a9 b2;go_wp2;refine bodyPost_ret (v:= .tuple #[.agg #[.slice U a.2.length nc,.slice af ag ah,.slice az a0 a1,.slice av aw ax,Vi ay,.slice aq ks.length ar,.slice da D.length dc],.agg #[Vi 0,Vi 0]]) (by simp[results,results42,go_sem,H,I,J,K,L,N,O,P,E,F,G,Q,fl]) rfl ?_;exact dt.o _ _ _ _ _ _ _ _ _
  ·have z:Hd ((Bo p q x).2.2=(6,c7)):=by show _=_;rw[bp.o,if_neg Yo,ao]
   clear ao;go_wp2_with fail;go_region
   all_goals
    go_wp2;refine bodyPost_ret (v:= .tuple #[CD,.agg #[Vi 6,Vi c7]]) (by simp[results,results42,go_sem,CD,H,I,J,K,L,N,O,P,E,F,G,Q,fl]) rfl ?_;exact⟨a3.o.trans (Ad.below (S:=fun i=>w.hz<=i) Mst Yo (fun i e=>e)),Or.inl (by rw[z.o];exact⟨Ys,rfl⟩)⟩
theorem Uo{p:List BZ->At->Option (Ly×List BZ×At)}(c:∀ts names r,p ts names=some r->2*r.1.length+r.2.1.length<=ts.length+1):
  ∀(g:Nat)(ts:List BZ)(names:At)(a:Ll) r,CE p g ts names a=some r->2*r.1.flatten.length+r.2.1.length+1<=2*a.flatten.length+ts.length:=by
 intro g
 induction g with
 |zero=>intro ts names a r h;simp[CE]at h
 |succ g e=>
  intro ts names a r h
  cases ts with
  |nil=>simp[CE]at h
  |cons t ts=>
   rw[CE]at h;split at h
   ·simp at h;subst h;simp only[Qf];omega
   ·split at h
    ·simp at h
    ·rename_i q d;have f:=c _ _ _ d;have b:=e _ _ _ _ h;simp only[List.flatten_append,Q4,List.flatten_nil,Qs,Qg,Qf]at b⊢;omega
theorem T4:∀(f:Nat)(ts:List BZ)(names:At) r,Bq f ts names=some r->2*r.1.length+r.2.1.length<=ts.length+1:=by
 intro f
 induction f with
 |zero=>intro ts names r h;simp[Bq]at h
 |succ f c=>
  intro ts names r h
  cases ts with
  |nil=>simp[Bq]at h
  |cons t ts=>
   rw[Bq]at h;split at h
   ·simp at h;subst h;simp only[Qf,Qt];omega
   ·cases ts with
    |nil=>simp[FN]at h
    |cons u d=>
     rw[FN]at h;split at h
     ·simp at h;subst h;simp only[Qf,Qt];omega
     ·rw[Option.map_eq_some_iff]at h;obtain⟨q,b,rfl⟩:=h;have a:=Uo c _ _ _ _ _ b;simp only[List.flatten_nil,Qt,Qf]at a⊢;omega
theorem RY{f:Nat}:∀(g:Nat)(ts:List BZ)(names:At)(a:Ll) r,BI f g ts names a=some r->2*r.1.flatten.length+r.2.1.length<=2*a.flatten.length+ts.length:=by
 intro g
 induction g with
 |zero=>intro ts names a r h;simp[BI]at h
 |succ g i=>
  intro ts names a r h;rw[BI]at h;split at h
  ·simp at h
  ·rename_i q d;have b:=T4 f _ _ _ d;split at h
   ·simp at h
   ·rename_i x rest e;rw[e]at b;simp only[Qf]at b;split at h
    ·simp at h;subst h;simp only[List.flatten_append,Q4,List.flatten_nil,Qs,Qg];omega
    ·have c:=i _ _ _ _ h;simp only[List.flatten_append,Q4,List.flatten_nil,Qs,Qg]at c;omega
theorem JD(h:Cr s=some a):a.2.length<=60:=by
 unfold Cr at h;split at h
 ·simp at h
 ·split at h
  ·simp at h
  ·rename_i c j;have c:s.size<=120:=Yo
   obtain⟨f,_,_⟩:=BV s true;have h0:(Ct s true).1=0:=by rw[f];omega
   obtain⟨q,b,g,_⟩:=Ek s c h0;rw[b]at h;simp at h;subst h;obtain⟨i,d,_⟩:=FO 1000 0 1000 (Ap s) [] [] q (Da s) Ys rfl b;obtain⟨k,l,m⟩:=Ds _ _ _ d;have hl:=BP s;have e:=RY 1000 (Ap s) [] [] q b;simp only[List.flatten_nil,Qt]at e;simp only;omega
theorem R4:∀(l:Ly)(met:List Nat)(M:Nat),(AC l met).2.length<=M->(∀s∈l,s.name≠[]->s.num=0)->0<M->∀s∈(AC l met).1,s.num<M:=by
 intro l
 induction l with
 |nil=>intro met M _ _ _ s j;simp[AC]at j
 |cons s l d=>
  intro met M c hz f t b;have i:∀(l:Ly)(met:List Nat),met.length<=(AC l met).2.length:=by
   intro l
   induction l with
   |nil=>intro met;simp[AC]
   |cons s l d=>
    intro met;simp only[AC];split
    ·have:=d (Ev s.num met);have h:met.length<=(Ev s.num met).length:=by unfold Ev;split<;>simp
     simp;omega
    ·exact d met
  simp only[AC]at c b;split at b
  ·rename_i hn;rw[if_pos hn]at c;simp only at c;rcases Qp.1 b with rfl|b
   ·show met.idxOf s.num<M;have h:=i l (Ev s.num met);have k:met.idxOf s.num<(Ev s.num met).length:=by
     unfold Ev;split
     ·rename_i e;rw[e];simp
     ·rename_i e;have:=List.idxOf_le_length (a:=s.num) (l:=met);omega
    omega
   ·exact d _ M c (fun u g=>hz u (by simp[g])) f t b
  ·rename_i hn;rw[if_neg hn]at c;simp only at c;rcases Qp.1 b with rfl|b
   ·rw[hz t Ys hn];exact f
   ·exact d _ M c (fun u g=>hz u (by simp[g])) f t b
theorem QW:∀(ts:Ll)(met:List Nat)(M:Nat),(Aw ts met).2.length<=M->(∀t∈ts,∀s∈t,s.name≠[]->s.num=0)->0<M->∀t∈(Aw ts met).1,∀s∈t,s.num<M:=by
 intro ts
 induction ts with
 |nil=>intro met M _ _ _ t b;simp[Aw]at b
 |cons u ts a=>
  intro met M c hz e t b;have f:∀(ts:Ll)(met:List Nat),met.length<=(Aw ts met).2.length:=by
   intro ts
   induction ts with
   |nil=>intro met;simp[Aw]
   |cons v ts a=>
    intro met;simp only[Aw];have d:=a (AC v met).2;have i:met.length<=(AC v met).2.length:=by
     clear d a
     induction v generalizing met with
     |nil=>simp[AC]
     |cons s l a=>
      simp only[AC];split
      ·have:=a (Ev s.num met);have d:met.length<=(Ev s.num met).length:=by unfold Ev;split<;>simp
       simp;omega
      ·exact a met
    omega
  simp only[Aw]at c b;rcases Qp.1 b with rfl|b
  ·exact R4 u met M (Qq (f ts _) c) (fun s g=>hz u Ys s g) e
  ·exact a _ M c (fun v h=>hz v (by simp[h])) e t b
theorem PT:∀(l:Ly)(met:List Nat)(P:Np),(∀s∈l,P s.args)->∀s∈(AC l met).1,P s.args:=by
 intro l
 induction l with
 |nil=>intro met P _ s d;simp[AC]at d
 |cons s l c=>
  intro met P h t a;simp only[AC]at a;split at a
  ·rcases Qp.1 a with rfl|a
   ·exact h s Ys
   ·exact c _ P (fun u b=>h u (by simp[b])) t a
  ·rcases Qp.1 a with rfl|a
   ·exact h t Ys
   ·exact c _ P (fun u b=>h u (by simp[b])) t a
theorem J7:∀(ts:Ll)(met:List Nat)(u:Ly),u∈(Aw ts met).1->∃t∈ts,∃m,u=(AC t m).1:=by
 intro ts
 induction ts with
 |nil=>intro met u h;simp[Aw]at h
 |cons t ts c=>
  intro met u h;simp only[Aw]at h;rcases Qp.1 h with rfl|h
  ·exact⟨t,Ys,met,rfl⟩
  ·obtain⟨d,a,m,b⟩:=c _ u h;exact⟨d,by simp[a],m,b⟩
def Hz:Prop:=∀(s:ByteArray)(w:World),s.size<=maxLen->Calls prog 83 #[.string s] w fun e w'=>e= .returned (.tuple #[.string ⟨(BM s).1.toArray⟩,.int .i64 (BM s).2.1,.int .i64 (BM s).2.2])/\Below w.heap.size w w'
theorem Ml(b:Hz)(n m:Int)(p q x:ByteArray)(w:World)(g:p.size<=maxLen):
  Calls prog 61 #[.agg #[Vi 1,Vi n,Vi m,.string p,.string q,.string x]] w fun e w'=>e= .returned (.bool true)/\Below w.hz w w':=by
 have h:=hd b;have i:=hd (OA p);clear b;go_enter func61,ntmps61;go_wp2_with fail;apply(h.o p _ g).mono;rintro e w1 ⟨rfl,a⟩;have l:w.hz+1<=w1.hz:=by have:=a.size;simpa using this
 have d:Below w.hz w w1:=((Below.refl _ w).alloc (Qe _) _).trans (a.mono Ys);have k:w1.cell? ⟨w.hz,3,none⟩=some (.string p):=(a.cell (p:=⟨w.hz,3,none⟩) Ys).trans (AZ w _ _ 3 _ rfl);have c:=hd d;clear a d;go_wp2_with fail;apply(i.o _ g).mono;rintro e w2 ⟨rfl,f⟩;have j:=hd f;clear f;go_wp2;go_ret;exact⟨rfl,c.o.trans (j.o.mono c.o.size)⟩
theorem NY(a:Hz)(n m:Int)(p q x:ByteArray)(b:Value)(w:World)(g:p.size<=maxLen):
  Calls prog 38 #[b,.agg #[Vi 1,Vi n,Vi m,.string p,.string q,.string x]] w fun e w'=>e= .returned (.bool true)/\Below w.hz w w':=by
 have d:=hd (Ml a n m p q x);clear a;go_enter func38,ntmps38;go_wp2_with fail;apply(d.o _ g).mono;rintro e w1 ⟨rfl,c⟩;have f:=hd c;clear c;go_wp2;go_ret;exact⟨rfl,((Below.refl _ w).alloc (Qe _) _).trans (f.o.mono Ys)⟩
def JE:Prop:=∀(s:ByteArray)(w:World),s.size<=maxLen->Calls prog 85 #[.string s] w fun e w'=>e= .returned (.tuple #[.string ⟨(B8 s).1.toArray⟩,.int .i64 (B8 s).2.1,.int .i64 (B8 s).2.2])/\Below w.heap.size w w'
theorem O5(b:JE)(n m:Int)(p q x:ByteArray)(w:World)(g:q.size<=maxLen):
  Calls prog 61 #[.agg #[Vi 2,Vi n,Vi m,.string p,.string q,.string x]] w fun e w'=>e= .returned (.bool true)/\Below w.hz w w':=by
 have h:=hd b;have i:=hd (Se q);clear b;go_enter func61,ntmps61;go_wp2_with fail;apply(h.o q _ g).mono;rintro e w1 ⟨rfl,a⟩;have l:w.hz+1<=w1.hz:=by have:=a.size;simpa using this
 have d:Below w.hz w w1:=((Below.refl _ w).alloc (Qe _) _).trans (a.mono Ys);have k:w1.cell? ⟨w.hz,4,none⟩=some (.string q):=(a.cell (p:=⟨w.hz,4,none⟩) Ys).trans (AZ w _ _ 4 _ rfl);have c:=hd d;clear a d;go_wp2_with fail;apply(i.o _ g).mono;rintro e w2 ⟨rfl,f⟩;have j:=hd f;clear f;go_wp2;go_ret;exact⟨rfl,c.o.trans (j.o.mono c.o.size)⟩
theorem RH(a:JE)(n m:Int)(p q x:ByteArray)(b:Value)(w:World)(g:q.size<=maxLen):
  Calls prog 38 #[b,.agg #[Vi 2,Vi n,Vi m,.string p,.string q,.string x]] w fun e w'=>e= .returned (.bool true)/\Below w.hz w w':=by
 have d:=hd (O5 a n m p q x);clear a;go_enter func38,ntmps38;go_wp2_with fail;apply(d.o _ g).mono;rintro e w1 ⟨rfl,c⟩;have f:=hd c;clear c;go_wp2;go_ret;exact⟨rfl,((Below.refl _ w).alloc (Qe _) _).trans (f.o.mono Ys)⟩
theorem Gm{n:ND}(h:(Ax n c k).2=1\/(Ax n c k).2=2):(Ax n c k).1.used=n.used++[k]:=by
 by_cases a:∃r:ND×Nat,∃m,FU m/\Co m n/\Kb m c k r.2 r.1
 ·have e:Ax n c k=Classical.choose a:=by unfold Ax;rw[dif_pos a]
  obtain⟨m,_,d,g,gs,_,f⟩:=Classical.choose_spec a;rw[e]at h⊢;rcases f with⟨h0,_⟩|⟨h0,_⟩|⟨σ,_,_,_,b⟩
  ·omega
  ·omega
  ·rw[b];simp[Au,d.used]
 ·have e:Ax n c k=(⟨[],[],[],[],0⟩,0):=by unfold Ax;rw[dif_neg a]
  rw[e]at h;simp at h
theorem Nq:∀{ks:List Nat}{n:ND}{i:Nat},(AA cs n ks i).2.1=0->(∀k∈n.used,k<cs.length)->∀k∈(AA cs n ks i).1.used,k<cs.length:=by
 intro ks
 induction ks with
 |nil=>intro n i h e;unfold AA;split<;>exact e
 |cons k ks g=>
  intro n i h e
  cases b:cs[k]? with
  |none=>
   have:=Ch (cs:=cs) (n:=n) (k:=k) (i:=i) (ks:=ks) (Or.inr (List.getElem?_eq_none_iff.1 b));rw[this]at h;simp at h
  |some c=>
   by_cases f:n.goals=[]
   ·have:=Ch (cs:=cs) (n:=n) (k:=k) (i:=i) (ks:=ks) (Or.inl f);rw[this]at h;simp at h
   ·by_cases d:(Ax n c k).2=1\/(Ax n c k).2=2
    ·rw[FP b f d]at h⊢;refine g h (fun j a=> ?_);rw[Gm d]at a;rcases Qk.1 a with a|a
     ·exact e j a
     ·simp at a;subst a;exact(Qa.1 b).1
    ·have:=Eo (i:=i) (ks:=ks) b d;rw[this]at h;simp at h
theorem Lk{p q x:ByteArray}{e:ND}(ha:Cr q=some a)(h:Bo p q x=(a.2,e,0,0)):∀k∈e.used,k<24:=by
 cases b:BD p with
 |none=>simp[Bo,b]at h
 |some cs=>
  have f:=(CA b).2.2.2.2
  by_cases c:400<x.size
  ·simp[Bo,b,ha,c]at h
  ·cases hn:Bn x with
   |mk o j=>
    cases o with
    |none=>simp[Bo,b,ha,c,hn]at h
    |some ks=>
     simp[Bo,b,ha,c,hn]at h;have d:=Nq (cs:=cs) (ks:=ks) (n:=AN a) (i:=0) (by rw[h]) (by simp[AN]);rw[h]at d;exact fun k g=>Nat.lt_of_lt_of_le (d k g) f
theorem Na:∀(ts:Ll)(ds ks:List Nat)(seen:List Nat),(∀d∈ds,d<=100)->(∀k∈ks,k<=99)->(∀t∈ts,Wf 1 t/\t.length<=1000/\∀s∈t,s.name.length<=4096)->seen.length+ts.flatten.length<=4000->
  (CL (Aw ts seen).1 ds ks).length<=400*ds.length+4100*ts.flatten.length:=by
 intro ts
 induction ts with
 |nil=>intro ds ks seen _ _ _ _;simp[Aw,CL]
 |cons t ts g=>
  intro ds ks seen b c e f
  cases ds with
  |nil=>simp[Aw,CL]
  |cons d ds=>
   cases ks with
   |nil=>simp[Aw,CL]
   |cons k ks=>
    obtain⟨i,j,l⟩:=e t Ys;simp only[Q4,Qg]at f⊢;obtain⟨m,n⟩:=Gl j i l (seen:=seen) Yo;have h:=g ds ks (AC t seen).2 (fun y a=>b y (by simp[a])) (fun y a=>c y (by simp[a])) (fun y a=>e y (by simp[a])) Yo;have hd:=b d Ys;have p:=c k Ys;have o:=Ec k;simp only[Aw,CL,Qg,Qf,QE,Qt];omega
theorem LQ(p q x:ByteArray)(w:World)(bp:p.size<=maxLen)(bq:q.size<=maxLen)(bv:x.size<=maxLen):
  Calls prog 92 #[.string p,.string q,.string x] w fun e w'=>e=Rq #[.string ⟨(GH p q x).1.toArray⟩,Vi (GH p q x).2.1,Vi (GH p q x).2.2]/\Ao w w':=by
 have b9:=hd (fun u=>Il p q x u bp bq bv);obtain⟨Y,ag⟩:=Ex (GH p q x);rw[<-ag];have az:=hd ag;clear bp bq bv ag;go_enter func92,ntmps92;go_wp2_with fail;apply(b9.o _).mono;rintro e w1 ⟨ae,B⟩;have br:=ae.size;have ay:=hd ae;clear ae;rcases B with⟨a4,c9,ct,C,a0,ek,dr,dm,el,dt,rfl⟩|⟨a,av,nv,c2,c3,c4,bw,c5,c6,C,bf,rfl,ac,bo⟩
 ·have ab:Hd (Y=([],a4,c9)):=by show _=_;rw[az.o,GH,C];simp[ct]
  have hb:((a4:Int) !=0)=true:=by rw[bne_iff_ne];omega
  clear C;go_wp2;go_ret3;rw[ab.o];exact⟨rfl,ay.o.trans (Ad.below (S:=fun i=>w.hz<=i) Mst br (fun _ h=>h))⟩
 ·obtain⟨dn,a7⟩:=ac.atoms;have V:=Lk bf C;obtain⟨aa,cn,rfl⟩:=Ac a7.1;obtain⟨n,F,v,bc,G,rfl⟩:=bo.node;obtain⟨ev,be⟩:=F.vals;obtain⟨dx,bb⟩:=F.goals;obtain⟨dw,ad⟩:=F.done;have af:=F.used;obtain⟨a5,a6,rfl⟩:=Ac bb.owns;obtain⟨va,b0,rfl⟩:=Ac be.1;obtain⟨da,a3,rfl⟩:=Ac ad.owns;obtain⟨bz,aw,rfl⟩:=Ac af;obtain⟨na,c8,rfl⟩:=Ac ac.names;rw[<-G.used]at V;obtain⟨z,B⟩:=Ex (CL (Aw (n.done.map (·.1)) []).1 (n.done.map (·.2)) n.used);have bi:HH c6=z:=by rw[B];unfold HH;rw[G.doneC v,G.dd,G.used]
  have ab:Hd (Y=(z,0,0)):=by show _=_;rw[az.o,GH,C];simp[bi]
  have ah:=v.dl;have ej:=v.ul;have I:∀g∈n.done,g.1.length<=30/\g.2<=100:=fun g b=>⟨(v.ds g b).1,by have:=(v.ds g b).2;omega⟩;have al:∀g∈n.done,Wf 1 g.1:=fun g b=>v.wf g.1 (by simp only[ND.terms,Qk,Q0];exact Or.inr (Or.inr ⟨g,b,rfl⟩));have ai:∀g∈n.done,∀s∈g.1,s.name.length<=4096:=fun g b s cw=>Qq (bc g.1 (by simp only[ND.terms,Qk,Q0];exact Or.inr (Or.inr ⟨g,b,rfl⟩)) s cw) Yo;have cu:(n.done.map (·.1)).flatten.length<=3000:=by
   have c1:∀ls:List (Ly×Nat),(∀t∈ls,t.1.length<=30)->(ls.map (·.1)).flatten.length<=30*ls.length:=by
    intro ls
    induction ls with
    |nil=>intro _;simp
    |cons t ts c0=>
     intro h;have m:=h t Ys;have dy:=c0 (fun y cz=>h y (by simp[cz]));simp only[Qx,Q4,Qg,Qf];omega
   have:=c1 n.done (fun t ap=>(I t ap).1);omega
  have d1:z.length<=20000000:=by
   have:=Na (n.done.map (·.1)) (n.done.map (·.2)) n.used [] (fun d hd=>by obtain⟨g,b,rfl⟩:=Q0.1 hd;exact(I g b).2) (fun k bl=>by have:=V k bl;omega)
    (fun t ap=>by obtain⟨g,b,rfl⟩:=Q0.1 ap;exact⟨al g b,by have:=(I g b).1;omega,ai g b⟩) (by simp only[Qt];omega)
   rw[<-B]at this;simp only[Ql]at this;omega
  have ax:=hd ad;have W:=hd af;have cf:=hd ah;have ci:=hd I;have cj:=hd al;have cg:=hd ai;have ca:=hd B;have cm:=hd V;have d6:n.done.length<=100:=Yo
  clear C bf ac a7 bo F v bc G be bb ad af bi ah I al ai B V;obtain⟨l,H⟩:=Ex ((w1.alloc (.cells #[.slice aa a.1.length cn,.slice na a.2.length c8] 148)).alloc (.cells #[.slice a5 n.goals.length a6,.slice va n.vals.length b0,.slice da n.done.length a3,.slice bz n.used.length aw,Vi n.vars] 152));have a9:Ao w1 l:=by rw[H];exact Mxt
  have ec:l.hz=w1.hz+2:=by rw[H];simp
  have a8:l.heap[w1.hz+1]?=some (.cells #[.slice a5 n.goals.length a6,.slice va n.vals.length b0,.slice da n.done.length a3,.slice bz n.used.length aw,Vi n.vars] 152 (0,0)):=by rw[H];simpa using QL (w1.alloc _) _
  have b8:=hd a9;have b7:=hd a8;have cc:=hd H;clear a9 a8 H;go_wp2;rw[<-cc.o]
  go_loopg [13,14,15] (n.done.length+1) (fun gk r dc i wr=>∃(j:Nat)(f:List Nat)(c:Lu),i=Vi j/\j<=n.done.length/\n.done.length-j<gk/\r= .string ⟨c.toArray⟩/\
   c++CL (Aw ((n.done.drop j).map (·.1)) f).1 ((n.done.drop j).map (·.2)) (n.used.drop j)=z/\f.length+((n.done.drop j).map (·.1)).flatten.length<=3000/\Ar l l.hz 3 1 Nl f.length (AM f) dc wr)
  case atStart=>exact⟨0,[],[],Yg,Qm _,Yo,rfl,by simp[ca.o],by simpa using cu,⟨Q2 _ _ _ _,Ad.refl _ _,Or.inl rfl⟩⟩
  case round=>
   obtain⟨j,f,c,rfl,ea,d8,rfl,ak,bs,O⟩:=hrel;obtain⟨eq,er,rfl⟩:=Ac O.owns;have ah:c.length<=20000000:=by
    have m:=congrArg List.length ak;simp only[Qg]at m;omega
   have M:Ao l wr:=O.kept.below (Qe _) (fun i e=>by simp[Ak,Value.ownBlock]at e);have cx:=M.size;have ba:Ao w1 wr:=b8.o.trans (M.mono Yo);obtain⟨c2,c3,c4,bw,c5,en⟩:=C5 ((M.block (w1.hz+1) Yo).trans b7.o);have X:=hd O;have a1:=hd ak;have J:=hd ba;clear O ak ba M
   by_cases bm:j<n.done.length
   ·obtain⟨g,b⟩:∃g,n.done[j]?=some g:=⟨_,Qb bm⟩;have bn:j<n.used.length:=by have:=cf.o;omega
    obtain⟨u,U⟩:∃u,n.used[j]?=some u:=⟨_,Qb bn⟩;have am:n.done.drop j=g::n.done.drop (j+1):=by
     rw[QC bm,(Qa.1 b).2]
    have bh:n.used.drop j=u::n.used.drop (j+1):=by
     rw[QC bn,(Qa.1 U).2]
    obtain⟨dk,dp,dq,b3,b4,b5,b6,ao⟩:=ax.o.all j g b;obtain⟨db,c7,co,cq,cp,rfl,rfl,rfl⟩:=ao.shape;have D:=ax.o.ext (Y:=fun _=>False) (B':=0) J.o (fun _ _ h=>h) (Qe _);obtain⟨L,du,dv,bk,dz,bj,d3⟩:=An D.owns Yo;simp only[QH]at bk;obtain⟨rfl,_,rfl⟩:=bk;have df:wr.cell? ⟨L,j*4,none⟩=some (.string db):=Ag D.owns _ _ b3;have dg:wr.cell? ⟨L,j*4+1,none⟩=some (Vi c7):=Ag D.owns _ _ b4;have dh:wr.cell? ⟨L,j*4+2,none⟩=some (.slice co cq cp):=Ag D.owns _ _ b5;have di:wr.cell? ⟨L,j*4+3,none⟩=some (Vi g.2):=Ag D.owns _ _ b6;have au:=Aj W.o (fun i hi=>J.o.block i (W.o.lt i hi).2);obtain⟨E,et,eu,bu,d0,bt,ei⟩:=An au Yo;simp only[QH]at bu;obtain⟨rfl,_,rfl⟩:=bu;have dj:wr.cell? ⟨E,j,none⟩=some (Vi u):=Ag au j _ (by simp only[AM,Qj,U,Option.map_some]);have ef:=cm.o u (Qh U);obtain⟨ee,d4⟩:=ci.o g (Qh b);have ar:=cj.o g (Qh b);have aq:=cg.o g (Qh b);have bd:=Sg 1000 Yo ar;obtain⟨b1,b2⟩:=HW bd f;have ed:f.length+g.1.length+((n.done.drop (j+1)).map (·.1)).flatten.length<=3000:=by
     rw[am]at bs;simp only[Qx,Q4,Qg]at bs;omega
    obtain⟨a2,cr⟩:=Gl Yo ar aq (seen:=f) Yo;have N:=F0 1000 wr 0 wr.hz _ _ _ g.1 l.hz f _ ((ao.ext J.o (fun _ _ h=>h)).repT Yo) X.o.owns cx aq Yo;rw[b1,b2]at N;obtain⟨r,T⟩:=Ex (A3 (AC g.1 f).1 []);obtain⟨bx,R⟩:=Ex ((AC g.1 f).2);obtain⟨A,Q⟩:=Ex (Lib.decDigits u);have d5:A.length<=25:=by rw[Q];have:=Ec u;omega
    rw[<-T,<-R]at N;rw[<-T]at a2;rw[<-R]at cr;have cl:Hd (c++List.replicate (2*g.2) 32++r++[32,98,121,32]++A++[10]++CL (Aw ((n.done.drop (j+1)).map (·.1)) bx).1 ((n.done.drop (j+1)).map (·.2)) (n.used.drop (j+1))=z):=by
     have m:=a1.o;rw[am,bh]at m;show _=_;rw[<-m,T,R,Q];simp[Aw,CL]
    have bg:=F3 u Yo;have cb:=hd N;have ce:Hd (∀w:World,Calls prog 117 #[Vi u] w fun e w'=>e= .returned (.string ⟨A.toArray⟩)/\w'=w):=by rw[Q];exact bg
    have eh:=Ab bt;have d7:=Ab bj;have d2:r.length<=200000:=Yo
    obtain⟨de,cy⟩:∃x,x=wr:=⟨_,rfl⟩;subst cy;clear bj D ao b3 b4 b5 b6 b U am bh au bt bd b1 b2 N ar aq a2 T R Q bg;go_wp2
    go_loopg [13,16] (g.2+1) (fun gk r i wr=>∃(k:Nat),i=Vi k/\k<=g.2/\g.2-k<gk/\r= .string ⟨(c++List.replicate (2*k) 32).toArray⟩/\wr=de)
    case atStart=>exact⟨0,Yg,Qm _,Yo,Ys,rfl⟩
    case round=>
     obtain⟨k,rfl,bl,d9,rfl,rfl⟩:=hrel;have cv:(c++List.replicate (2*k) (32:UInt8)).length<=20000200:=by simp;omega
     by_cases eb:k<g.2
     ·have Z:Hd ((⟨(c++List.replicate (2*k) (32:UInt8)).toArray⟩:ByteArray)++⟨[32,32].toArray⟩=⟨(c++List.replicate (2*(k+1)) (32:UInt8)).toArray⟩):=by
       show _=_;rw[Az,Qi]
       congr 3
       rw[show 2*(k+1)=2*k+2 by omega,<-List.replicate_append_replicate];rfl
      generalize c++List.replicate (2*k) (32:UInt8)=K at*;go_wp2
      go_roundg (g.2-k)
      case measure=>omega
      case rel=>exact⟨k+1,Yg,Yo,Yo,by rw[<-Z.o],rfl⟩
     ·have cs:k=g.2:=Yo
      subst cs;obtain⟨K,aj⟩:=Ex (c++List.replicate (2*g.2) (32:UInt8));rw[<-aj]at cv⊢;have ch:=hd aj;clear aj;have Z:Hd ((⟨K.toArray⟩:ByteArray)++⟨r.toArray⟩++⟨[32,98,121,32].toArray⟩++⟨A.toArray⟩++⟨[10].toArray⟩=⟨(K++r++[32,98,121,32]++A++[10]).toArray⟩):=by
       show _=_;rw[Az,Az,Az,Az]
      go_wp2_with fail;apply cb.o.mono;rintro e w3 ⟨es,rfl,P⟩;obtain⟨eo,ep,rfl⟩:=Ac P.owns;have an:Ad (fun i=>l.hz<=i) wr w3:=P.kept.mono (fun i _ e=>(X.o.owns.lt i e).1);have eg:E<w1.hz:=(W.o.lt E rfl).2;have em:w3.cell? ⟨w1.hz+1,3,none⟩=some (.slice (some ⟨E,0,none⟩) n.used.length aw):=an.cell bw (by show¬l.hz<=w1.hz+1;omega);have ew:w3.cell? ⟨E,j,none⟩=some (Vi u):=an.cell dj (by show¬l.hz<=E;omega);have cd:=hd P;clear P df dg dh di an;go_wp2_with fail;apply(ce.o _).mono;rintro e w4 ⟨rfl,rfl⟩;go_wp2
      go_roundg (n.done.length-j)
      case measure=>omega
      case rel=>exact⟨j+1,bx,K++r++[32,98,121,32]++A++[10],Yg,Yo,Yo,by rw[<-Z.o],by rw[ch.o];exact cl.o,Yo,X.o.trans cd.o⟩
   ·have ck:Hd (z=c):=by
     have m:=a1.o;rw[List.drop_eq_nil_of_le Yo]at m;simp only[List.map_nil,Aw,CL,Qs]at m;exact m.symm
    go_wp2;go_ret3;rw[ab.o,ck.o];exact⟨rfl,ay.o.trans (J.o.mono br)⟩
end Go.Proofs.YtlmjilpjmgjjcaaGreatDoor
