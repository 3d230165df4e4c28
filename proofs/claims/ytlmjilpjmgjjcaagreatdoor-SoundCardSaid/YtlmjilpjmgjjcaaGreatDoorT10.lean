/-
  PROVED HERE: what the reference's 'Step' makes of a search (the conditions stand in each statement).
-/
import Derived.Test.YtlmjilpjmgjjcaaGreatDoorT9
import Derived.Deep.QuietTactic
import Derived.BigQuiet
set_option linter.unusedSimpArgs false
set_option linter.unusedVariables false
set_option maxRecDepth 10000
set_option maxHeartbeats 4000000
namespace Go.Proofs.YtlmjilpjmgjjcaaGreatDoor
open Go.RowKit
structure TxOk (ts:List (List Sym)):Prop where
 len:ts.length≤1000
 all:ts.flatten.length≤8000
 ok:∀ t ∈ ts,TmOk t
 sym:∀ t ∈ (Zay ts []).1,Yhv t
 txt:∀ t ∈ (Zay ts []).1,(Zce t []).length≤1000000
def Znt (ts:List (List Sym)):List (List UInt8):=(Zay ts []).1.map (fun t=>Zce t [])
def Yjr (ts:List (List Sym)) (w:World) (e:Ending) (w':World):Prop:=Ext w w'∧∃ x c,e = .returned (.slice x ts.length c)∧w'.ownsRow 0 9 1 (.slice x ts.length c) ts.length (strs (Znt ts))
theorem Ygc (w:World) (tv:Value) (ts:List (List Sym)) (h:TermsIn w tv ts) (ho:TxOk ts):Calls Tryz.prog 79 #[tv] w (Yjr ts w):=by
 obtain ⟨ta,tcap,rfl⟩:=h.shape
 have HI:=Zac (Zwk w _ ts h ho.len ho.all ho.ok)
 have Ho:=Zac ho
 have hl:=ho.len
 have hcl:(Zay ts []).1.length=ts.length:=Zft _ _
 obtain ⟨C,hC⟩:∃ C,C=(Zay ts []).1:=⟨_,rfl⟩
 have Htx:Hid (Znt ts=C.map (fun t=>Zce t [])):=by show _=_; unfold Znt; rw [hC]
 rw [← hC] at hcl
 have HC:=Zac hC
 have Hcl:=Zac hcl
 clear h ho hC hcl
 go_enter Tryz.func79,Tryz.ntmps79
 go_wp2_with fail
 refine HI.out.mono ?_
 rintro e w1 ⟨hE1,xa,xc,rfl,hT⟩
 rw [← HC.out] at hT
 obtain ⟨us,hT⟩:=hT
 have hz1:=hE1.size
 have HE1:=Zac hE1
 have HT:=Zac hT
 clear hE1 hT HI
 go_wp2
 go_loopg [3,9] (ts.length+1) (fun gk rv iv wr=>∃ (k:Nat),iv = .int .i64 k∧k≤ts.length∧ts.length - k<gk∧Ext w1 wr∧wr.ownsRow w1.heap.size 9 1 rv k (strs ((C.take k).map (fun t=>Zce t []))))
 case atStart=>exact ⟨0,by go_num,Qm _,by omega,Below.refl _ _,World.ownsRow_nil _ _ _ _⟩
 case round =>
  obtain ⟨k,rfl,hk,hgk,hE,hown⟩:=hrel
  obtain ⟨ra,rcap,rfl⟩:=Zae hown
  have hsr:=hE.size
  have HE:=Zac hE
  have Hown:=Zac hown
  clear hE hown
  by_cases hlt:k<ts.length
  ·have hkC:k<C.length:=by rw [Hcl.out]; exact hlt
   obtain ⟨t,ht⟩:∃ t,C[k]?=some t:=⟨_,Qb hkC⟩
   obtain ⟨y,hy,hyo⟩:=HT.out.all _ t ht
   obtain ⟨ya,ycap,rfl⟩:=Zae hyo
   have hor:=HT.out.owns
   rw [Hcl.out] at hor
   obtain ⟨g,cap',cur,he,_,hgb,_⟩:=Zao hor (by omega)
   simp only [Value.slice.injEq] at he
   obtain ⟨rfl,_,rfl⟩:=he
   have hgw:=Zab hgb
   have hgr:g<wr.heap.size:=by omega
   have x0:wr.cell? ⟨g,k,none⟩=some (.slice ya t.length ycap):=(HE.out.cell (p:=⟨g,k,none⟩) hgw).trans (Zag hor _ _ hy)
   have htm:t ∈ (Zay ts []).1:=by rw [← HC.out]; exact Qh ht
   have hso:=Ho.out.sym t htm
   have htx:=Ho.out.txt t htm
   have HA:=Zac (Zsk wr 0 (.slice ya t.length ycap) t (WordAt.ext hyo HE.out) hso.1 hso.2 (by omega))
   have hnx:C.take (k+1)=C.take k++[t]:=by rw [List.take_add_one,ht]; rfl
   obtain ⟨A,hA⟩:∃ A,A=Zce t []:=⟨_,rfl⟩
   rw [← hA] at HA htx
   have HAA:=Zac hA
   have Hnx:=Zac hnx
   clear ht hy hyo hor hgb htm hso hnx hA
   go_wp2_with fail
   refine HA.out.mono ?_
   rintro e w2 ⟨rfl,hE2⟩
   have hz2:=hE2.size
   have HE2:Hid (Ext w1 w2):=HE.out.trans (hE2.mono hsr)
   have Hrow:Hid (w2.ownsRow w1.heap.size 9 1 (.slice ra k rcap) k (strs ((C.take k).map (fun t=>Zce t [])))):=Zai Hown.out (fun j hj=>hE2.block j (Hown.out.lt j hj).2)
   clear hE2 x0
   go_wp2_with (at_builtin; go_loud (refine Zal w2 rfl (.tmp 13) (.tmp 16) 47 rfl w1.heap.size 9 Tryz.infoStr Tryz.underlying47 rfl (by decide) (.slice ra k rcap) k (strs ((C.take k).map (fun t=>Zce t []))) rfl Hrow.out #[.string ⟨A.toArray⟩] (N:=w2.heap.size) rfl (by simp) rfl (Ycg _) ?_ ?_ ?_))
   ·omega
   ·omega
   intro v3 w3 hap
   obtain ⟨a3,c3,rfl⟩:=Zae hap.owns
   have hE3:Ext w1 w3:=HE2.out.trans (hap.kept.below (by omega) (fun j hj=>(Hrow.out.lt j hj).1))
   have hrow3:w3.ownsRow w1.heap.size 9 1 (.slice a3 (k+1) c3) (k+1) (strs ((C.take (k+1)).map (fun t=>Zce t []))):=by
    have:=hap.owns
    rw [Hnx.out,Qr]
    simp only [List.map_cons,List.map_nil,strs,Qr]
    rw [← HAA.out]
    rw [← List.map_take] at this
    exact this
   have HE3:=Zac hE3
   have Hrow3:=Zac hrow3
   clear hap hE3 hrow3
   go_wp2
   go_roundg (ts.length - k)
   case measure=>omega
   case rel=>exact ⟨k+1,by go_num,by omega,by omega,HE3.out,Hrow3.out⟩
  ·have hek:k=ts.length:=by omega
   subst hek
   go_wp2
   go_ret
   have hrow:=Hown.out
   rw [← Hcl.out,List.take_length] at hrow
   rw [← Htx.out,Hcl.out] at hrow
   exact ⟨HE1.out.trans (HE.out.mono hz1),ra,rcap,rfl,Zbe hrow (Qm _)⟩
theorem Zgy (w:World) (nv vv:Value) (names:Names) (ts:List (List Sym)) (hn:w.ownsRow 0 9 1 nv names.length (strs names)) (h:TermsIn w vv ts) (ho:TxOk ts) (hl:names.length=ts.length) (hL:(Zhe [] names (Zay ts []).1).length≤100000000) :
  Calls Tryz.prog 70 #[nv,vv] w fun e w'=>Ext w w'∧e = .returned (.string ⟨(if names=[] then [121,101,115] else Zhe [] names (Zay ts []).1).toArray⟩):=by
 obtain ⟨na,ncap,rfl⟩:=Zae hn
 obtain ⟨ta,tcap,rfl⟩:=h.shape
 by_cases h0:names=[]
 ·subst h0
  clear hn h ho hl hL
  go_enter Tryz.func70,Tryz.ntmps70
  go_wp2
  go_ret
  exact ⟨Below.refl _ _,by simp⟩
 ·have hpos:0<names.length:=List.length_pos_iff.2 h0
  rw [if_neg h0]
  have HI:=Zac (Ygc w _ ts h ho)
  have hcl:(Zay ts []).1.length=ts.length:=Zft _ _
  have hlen:=ho.len
  obtain ⟨C,hC⟩:∃ C,C=(Zay ts []).1:=⟨_,rfl⟩
  have Htx:Hid (Znt ts=C.map (fun t=>Zce t [])):=by show _=_; unfold Znt; rw [hC]
  rw [← hC] at hcl hL ⊢
  obtain ⟨F,hF⟩:∃ F,F=Zhe [] names C:=⟨_,rfl⟩
  rw [← hF] at hL ⊢
  have HF:=Zac hF
  have Hn:=Zac hn
  have Hcl:=Zac hcl
  have z1:((names.length:Int) == 0)=false:=by rw [Qu]; omega
  have Hl:=Zac hl
  obtain ⟨N,hN⟩:∃ N,N=names.length:=⟨_,rfl⟩
  rw [← hN] at z1 hpos ⊢
  have hNl:N≤1000:=by omega
  have htN:ts.length=N:=by omega
  rw [htN]
  have HN:=Zac hN
  have HtN:=Zac htN
  rw [htN] at HI
  clear hn h ho hC hF hcl hl h0 hN htN
  go_enter Tryz.func70,Tryz.ntmps70
  go_wp2_with fail
  refine HI.out.mono ?_
  rintro e w1 ⟨hE1,xa,xc,rfl,hT⟩
  rw [HtN.out] at hT ⊢
  rw [Htx.out] at hT
  have hz1:=hE1.size
  have HE1:=Zac hE1
  have HT:=Zac hT
  clear hE1 hT HI
  go_wp2
  go_loopg [5,14] (N+1) (fun gk tx iv wr=>∃ (k:Nat) (acc:List UInt8),iv = .int .i64 k∧k≤N∧N - k<gk∧tx = .string ⟨acc.toArray⟩∧acc++Zhe (if k=0 then [] else [44]) (names.drop k) (C.drop k)=F∧wr=w1)
  case atStart=>exact ⟨0,[],by go_num,Qm _,by omega,rfl,by rw [HF.out]; rfl,rfl⟩
  case round =>
   obtain ⟨k,acc,rfl,hk,hgk,rfl,hacc,rfl⟩:=hrel
   by_cases hlt:k<N
   ·have hkn:k<names.length:=by rw [← HN.out]; exact hlt
    have hkC:k<C.length:=by rw [Hcl.out,HtN.out]; exact hlt
    obtain ⟨x,hx⟩:∃ x,names[k]?=some x:=⟨_,Qb hkn⟩
    obtain ⟨t,ht⟩:∃ t,C[k]?=some t:=⟨_,Qb hkC⟩
    have hdx:names.drop k=x::names.drop (k+1):=by rw [List.drop_eq_getElem_cons hkn,(Qa.1 hx).2]
    have hdt:C.drop k=t::C.drop (k+1):=by rw [List.drop_eq_getElem_cons hkC,(Qa.1 ht).2]
    rw [hdx,hdt,Zhe] at hacc
    have hor:w.ownsRow 0 9 1 (.slice na N ncap) N (strs names):=by have:=Hn.out; rw [← HN.out] at this; exact this
    obtain ⟨g,cap',cur,he,_,hgb,_⟩:=Zao hor (by omega)
    simp only [Value.slice.injEq] at he
    obtain ⟨rfl,_,rfl⟩:=he
    have hgw:=Zab hgb
    have hgr:g<wr.heap.size:=by omega
    have x0:wr.cell? ⟨g,k,none⟩=some (.string ⟨x.toArray⟩):=(HE1.out.cell (p:=⟨g,k,none⟩) hgw).trans (Zag hor _ _ (by simp [strs,hx]))
    obtain ⟨g2,cap2,cur2,he2,_,hgb2,_⟩:=Zao HT.out (by omega)
    simp only [Value.slice.injEq] at he2
    obtain ⟨rfl,_,rfl⟩:=he2
    have hgr2:=Zab hgb2
    obtain ⟨A,hA⟩:∃ A,A=Zce t []:=⟨_,rfl⟩
    have y0:wr.cell? ⟨g2,k,none⟩=some (.string ⟨A.toArray⟩):=Zag HT.out _ _ (by simp [strs,ht,hA])
    rw [← hA] at hacc
    have hlen2:=Zva hacc
    simp only [Qg,Qf] at hlen2
    have Hacc:=Zac hacc
    have hkN:¬ ((N:Int)≤(k:Int)):=by omega
    clear hacc hdx hdt hx ht hor hgb hgb2 hA
    by_cases hk0:k=0
    ·subst hk0
     have Hacc2:Hid (acc++(x++[61]++A)++Zhe [44] (names.drop (0+1)) (C.drop (0+1))=F):=by show _=_; rw [← Hacc.out]; simp
     simp only [if_pos,Jt] at hlen2
     go_wp2
     go_roundg (N - 0)
     case measure=>omega
     case rel =>
      refine ⟨0+1,acc++(x++[61]++A),by go_num,by omega,by omega,?_,Hacc2.out,rfl⟩
      show Value.string (_++(_++(⟨[61].toArray⟩:ByteArray)++_))=_
      rw [Zbi,Zbi,Zbi]
    ·have Hacc2:Hid (acc++[44]++(x++[61]++A)++Zhe [44] (names.drop (k+1)) (C.drop (k+1))=F):=by show _=_; rw [← Hacc.out,if_neg hk0]; simp
     rw [if_neg hk0] at hlen2
     simp only [Qf,Jt] at hlen2
     have hk1:(0:Int)<(k:Int):=by omega
     go_wp2
     go_roundg (N - k)
     case measure=>omega
     case rel =>
      refine ⟨k+1,acc++[44]++(x++[61]++A),by go_num,by omega,by omega,?_,by rw [if_neg (by omega)]; exact Hacc2.out,rfl⟩
      show Value.string (_++(⟨[44].toArray⟩:ByteArray)++(_++(⟨[61].toArray⟩:ByteArray)++_))=_
      rw [Zbi,Zbi,Zbi,Zbi]
   ·have hek:k=N:=by omega
    subst hek
    have Hacc:Hid (acc=F):=by
     show _=_
     rw [List.drop_eq_nil_of_le (by rw [← HN.out]; exact Qe _)] at hacc
     simpa [Zhe] using hacc
    clear hacc
    go_wp2
    go_ret
    rw [← Hacc.out]
    exact ⟨HE1.out,rfl⟩
structure HeldC (p q x:ByteArray) (a:List (List Sym) × Names) (ks:List Nat) (n m:ND):Prop where
 ask:Zep q=some a
 held:Zdv p q x=(a.2,m,0,0)
 ok:NOk n
 nm:NNm n
 few:NFew n
 same:Same n m
 fol:∃ cs,Zci p=some cs∧Zap cs (topN a) ks 0=(m,0,0)
def Zdi:Value := .agg #[.slice none 0 0,.slice none 0 0,.slice none 0 0,.slice none 0 0,.int .i64 0,.slice none 0 0,.slice none 0 0]
def Zym (p q x:ByteArray) (w:World) (e:Ending) (w':World):Prop:=Ext w w' ∧
 (((Zdv p q x).2.2.1≠0∧e = .returned (.tuple #[Zdi,.agg #[.int .i64 (Zdv p q x).2.2.1,.int .i64 (Zdv p q x).2.2.2]])) ∨
  (∃ a ks n m,HeldC p q x a ks n m∧∃ n1 nc g1 g2 g3 v1 v2 v3 r1 r2 r3,∃ uu:Nat,∃ k1 kc d1 dc,e = .returned (.tuple #[.agg #[.slice n1 a.2.length nc,.slice g1 g2 g3,.slice v1 v2 v3,.slice r1 r2 r3,.int .i64 uu,.slice k1 ks.length kc,.slice d1 (m.done.map (·.2)).length dc],.agg #[.int .i64 0,.int .i64 0]]) ∧
   NodeIn w' (.slice g1 g2 g3) (.slice v1 v2 v3) (.slice r1 r2 r3) n∧w'.ownsRow 0 9 1 (.slice n1 a.2.length nc) a.2.length (strs a.2)∧w'.ownsRow 0 3 1 (.slice k1 ks.length kc) ks.length (ints ks)∧w'.ownsRow 0 3 1 (.slice d1 (m.done.map (·.2)).length dc) (m.done.map (·.2)).length (ints (m.done.map (·.2)))))
theorem Ybk (p q x:ByteArray) (w:World) (hp:p.size≤maxLen) (hq:q.size≤maxLen) (hx:x.size≤maxLen):Calls Tryz.prog 42 #[.string p,.string q,.string x] w (Zym p q x w):=by
 have HBo:=Zac (fun u=>Znr p q u hp hq)
 have HNu:=Zac (fun u=>Yjo x u hx)
 clear hp hq hx
 obtain ⟨W,hW⟩:∃ W,W=(w.alloc (.cells #[.slice none 0 0,.slice none 0 0,.slice none 0 0,.slice none 0 0,.int .i64 0,.slice none 0 0,.slice none 0 0] 89)).alloc (.cells #[.int .i64 0,.int .i64 0] 91):=⟨_,rfl⟩
 have hE0:Ext w W:=by rw [hW]; exact (Ext.of (by repeat' (first | with_reducible(first|exact Qx _ _|apply Kept.drew|apply Kept.drewN|apply Qz|refine Qy ?_ ?_ _)|exact fun h=>absurd h (by simp <;> omega))))
 have hWs:W.heap.size=w.heap.size+2:=by rw [hW]; simp
 have hb0:W.heap[w.heap.size]?=some (.cells #[.slice none 0 0,.slice none 0 0,.slice none 0 0,.slice none 0 0,.int .i64 0,.slice none 0 0,.slice none 0 0] 89 (0,0)):=by rw [hW]; exact Zau (heap_alloc_new w _) _
 have hb1:W.heap[w.heap.size+1]?=some (.cells #[.int .i64 0,.int .i64 0] 91 (0,0)):=by rw [hW]; exact Zdm (by simp) _
 have HB:Hid (∀ y,Ext W y→y.cell? ⟨w.heap.size,0,none⟩=some (.slice none 0 0)∧y.cell? ⟨w.heap.size,1,none⟩=some (.slice none 0 0)∧y.cell? ⟨w.heap.size,2,none⟩=some (.slice none 0 0)∧y.cell? ⟨w.heap.size,3,none⟩=some (.slice none 0 0)∧y.cell? ⟨w.heap.size,4,none⟩=some (.int .i64 0)∧y.cell? ⟨w.heap.size,5,none⟩=some (.slice none 0 0)∧y.cell? ⟨w.heap.size,6,none⟩=some (.slice none 0 0)∧(∀ i,y.frozen? ⟨w.heap.size,i,none⟩=false) ∧
   y.cell? ⟨w.heap.size+1,0,none⟩=some (.int .i64 0)∧y.cell? ⟨w.heap.size+1,1,none⟩=some (.int .i64 0)∧(∀ i,y.frozen? ⟨w.heap.size+1,i,none⟩=false)∧w.heap.size<y.heap.size∧w.heap.size+1<y.heap.size):=fun y hE=>by
  have e0:=(hE.block _ (Zab hb0)).trans hb0
  have e1:=(hE.block _ (Zab hb1)).trans hb1
  exact ⟨Zaa e0 0 _ rfl,Zaa e0 1 _ rfl,Zaa e0 2 _ rfl,Zaa e0 3 _ rfl,Zaa e0 4 _ rfl,Zaa e0 5 _ rfl,Zaa e0 6 _ rfl,fun i=>Zad e0 i,Zaa e1 0 _ rfl,Zaa e1 1 _ rfl,fun i=>Zad e1 i,Zab e0,Zab e1⟩
 have Hb0:=Zac hb0
 have Hb1:=Zac hb1
 have HE0:=Zac hE0
 clear hb0 hb1 hE0
 go_enter Tryz.func42,Tryz.ntmps42
 go_wp2_with fail
 rw [← hW]
 have HW:=Zac hW
 clear hW
 refine (HBo.out W).mono ?_
 rintro e w1 ⟨hE1,hout⟩
 obtain ⟨p0,p1,p2,p3,p4,p5,p6,pf,f0,f1,ff,pl,fl⟩:=HB.out w1 hE1
 have hz1:=hE1.size
 have hEw1:Ext w w1:=HE0.out.trans (hE1.mono (by omega))
 have HE1:=Zac hE1
 have HEw1:=Zac hEw1
 clear hE1 hEw1
 rcases hout with ⟨hno,rfl⟩ | ⟨⟨cs,hcs⟩,hno,rfl⟩ | ⟨cs,a,l1,lc,xs,h1,h2,h3,b1,bc,n1,nc,hcs,hask,rfl,hP,hA,hN⟩
 ·have Hh:Hid ((Zdv p q x).2.2=(4,0)):=by show _=_; simp [Zdv,hno]
  clear hno
  go_wp2
  refine bodyPost_ret (v := .tuple #[Zdi,.agg #[.int .i64 4,.int .i64 0]]) (by simp [results,Tryz.results42,go_sem,Zdi,p0,p1,p2,p3,p4,p5,p6,pf,f0,f1,ff,pl,fl]) rfl ?_
  exact ⟨HEw1.out.trans (Kept.below (S:=fun i=>w.heap.size≤i) (by repeat' (first | with_reducible(first|exact Qx _ _|apply Kept.drew|apply Kept.drewN|apply Qz|refine Qy ?_ ?_ _)|(intro _; simp only; omega))) (by omega) (fun i e=>e)),Or.inl (by rw [Hh.out]; exact ⟨by simp,rfl⟩)⟩
 ·have Hh:Hid ((Zdv p q x).2.2=(5,0)):=by show _=_; simp [Zdv,hcs,hno]
  clear hno hcs
  go_wp2
  refine bodyPost_ret (v := .tuple #[Zdi,.agg #[.int .i64 5,.int .i64 0]]) (by simp [results,Tryz.results42,go_sem,Zdi,p0,p1,p2,p3,p4,p5,p6,pf,f0,f1,ff,pl,fl]) rfl ?_
  exact ⟨HEw1.out.trans (Kept.below (S:=fun i=>w.heap.size≤i) (by repeat' (first | with_reducible(first|exact Qx _ _|apply Kept.drew|apply Kept.drewN|apply Qz|refine Qy ?_ ?_ _)|(intro _; simp only; omega))) (by omega) (fun i e=>e)),Or.inl (by rw [Hh.out]; exact ⟨by simp,rfl⟩)⟩
 ·obtain ⟨_,_,_,hNO,hNN,hal,_,han,_⟩:=Zdx hask
  obtain ⟨_,_,_,hCO,hcl⟩:=Zej hcs
  have Hhe:Hid (Zdv p q x=if 400<x.size then ([],⟨[],[],[],[],0⟩,1,0) else match Zct x with
   | (none,at')=>([],⟨[],[],[],[],0⟩,6,at')
   | (some ks,_)=>(a.2,Zap cs (topN a) ks 0)):=by show _=_; unfold Zdv; rw [hcs,hask]; rfl
  have HP:=Zac hP
  have HA:=Zac hA
  have HN:=Zac hN
  have HNO:=Zac hNO
  have HNN:=Zac hNN
  have HNF:=Zac (Zwh hask)
  have HCF:=Zac (Zrq hcs)
  have HCO:Hid (∀ c ∈ cs,COk c∧CNm c):=hCO
  have Hask:=Zac hask
  have Hcs:=Zac hcs
  clear hP hA hN hNO hNN hCO hask hcs
  go_wp2_with fail
  refine (HNu.out _).mono ?_
  rintro e w2 ⟨hE2,hout⟩
  have hz2:=hE2.size
  have hz2:w1.heap.size+1≤w2.heap.size:=by simpa using hz2
  have hE12:Ext w1 w2:=(Below.refl _ w1 |>.alloc (Qe _) _).trans (hE2.mono (by simp))
  have hcb:w2.heap[w1.heap.size]?=some (.cells #[.slice h1 h2 h3,.slice b1 a.1.length bc,.slice n1 a.2.length nc] 107 (0,0)):=(hE2.block _ (by simp)).trans (heap_alloc_new w1 _)
  have hEw2:Ext w w2:=HEw1.out.trans (hE12.mono (by omega))
  obtain ⟨p0,p1,p2,p3,p4,p5,p6,pf,f0,f1,ff,pl,fl⟩:=HB.out w2 (HE1.out.trans (hE12.mono (by omega)))
  have q0:=Zaa hcb 0 _ rfl
  have q1:=Zaa hcb 1 _ rfl
  have q2:=Zaa hcb 2 _ rfl
  have ql:=Zab hcb
  have HE12:=Zac hE12
  have HEw2:=Zac hEw2
  clear hE2 hE12 hEw2 hcb
  rcases hout with ⟨hbig,rfl⟩ | ⟨hsm,⟨ks,ka,kc,hnum,rfl,hks,hkl,hk9⟩ | ⟨pp,hnum,rfl⟩⟩
  ·have Hh:Hid ((Zdv p q x).2.2=(1,0)):=by show _=_; rw [Hhe.out,if_pos hbig]
   clear hbig
   go_wp2_with fail
   go_region
   all_goals
    go_wp2
    refine bodyPost_ret (v := .tuple #[Zdi,.agg #[.int .i64 1,.int .i64 0]]) (by simp [results,Tryz.results42,go_sem,Zdi,p0,p1,p2,p3,p4,p5,p6,pf,f0,f1,ff,pl,fl]) rfl ?_
    exact ⟨HEw2.out.trans (Kept.below (S:=fun i=>w.heap.size≤i) (by repeat' (first | with_reducible(first|exact Qx _ _|apply Kept.drew|apply Kept.drewN|apply Qz|refine Qy ?_ ?_ _)|(intro _; simp only; omega))) (by omega) (fun i e=>e)),Or.inl (by rw [Hh.out]; exact ⟨by simp,rfl⟩)⟩
  ·have Hh0:Hid (Zdv p q x=(a.2,Zap cs (topN a) ks 0)):=by show _=_; rw [Hhe.out,if_neg (by omega),hnum]
   have hP2:=HP.out.ext HE12.out
   have hA2:=HA.out.ext HE12.out
   have hN2:=Zai HN.out (fun j hj=>HE12.out.block j (HN.out.lt j hj).2)
   have HFo:Hid (∀ o,Calls Tryz.prog 68 #[.slice l1 cs.length lc,.agg #[.slice h1 h2 h3,.slice b1 a.1.length bc,.slice n1 a.2.length nc],.slice ka ks.length kc] (w2.alloc o) (Zix cs a ks (w2.alloc o))):=fun o=>by
    have hE:Ext w2 (w2.alloc o):=(Ext.of (by repeat' (first | with_reducible(first|exact Qx _ _|apply Kept.drew|apply Kept.drewN|apply Qz|refine Qy ?_ ?_ _)|exact fun h=>absurd h (by simp <;> omega))))
    exact Zwi _ _ _ _ _ _ cs xs a ks (hP2.ext hE) ⟨_,_,_,rfl⟩ (hA2.ext hE) (Zai hN2 (fun j hj=>hE.block j (hN2.lt j hj).2)) (Zai hks (fun j hj=>hE.block j (hks.lt j hj).2)) HCO.out HCF.out hcl HNO.out HNN.out HNF.out hal han hkl hk9
   have HDp:Hid ((Zap cs (topN a) ks 0).2=(0,0)→∀ y,Ext w2 y→Calls Tryz.prog 69 #[.slice l1 cs.length lc,.agg #[.slice h1 h2 h3,.slice b1 a.1.length bc,.slice n1 a.2.length nc],.slice ka ks.length kc] y (Yld ((Zap cs (topN a) ks 0).1.done.map (·.2)) y)):=fun hf y hE =>
    Zue y _ _ _ _ _ cs xs a ks (hP2.ext hE) ⟨_,_,_,rfl⟩ (hA2.ext hE) (Zai hN2 (fun j hj=>hE.block j (hN2.lt j hj).2)) (Zai hks (fun j hj=>hE.block j (hks.lt j hj).2)) (fun c hc=>(HCO.out c hc).1) hcl hal hkl hk9 hf
   have HN2:=Zac hN2
   have Hks:=Zac hks
   clear hP2 hA2 hN2 hks hk9 hnum
   go_wp2_with fail
   refine (HFo.out _).mono ?_
   rintro e w3 ⟨hE3,hout⟩
   have hz3:=hE3.size
   have hz3:w2.heap.size+1≤w3.heap.size:=by simpa using hz3
   have hE23:Ext w2 w3:=(Below.refl _ w2 |>.alloc (Qe _) _).trans (hE3.mono (by simp))
   have hfb:w3.heap[w2.heap.size]?=some (.cells #[.int .i64 0,.int .i64 0] 91 (0,0)):=(hE3.block _ (by simp)).trans (heap_alloc_new w2 _)
   have hEw3:Ext w w3:=HEw2.out.trans (hE23.mono (by omega))
   obtain ⟨p0,p1,p2,p3,p4,p5,p6,pf,f0,f1,ff,pl,fl⟩:=HB.out w3 (HE1.out.trans ((HE12.out.mono (by omega)).trans (hE23.mono (by omega))))
   have t0:=Zaa hfb 0 _ rfl
   have t1:=Zaa hfb 1 _ rfl
   have tf:=fun i=>Zad hfb i
   have tl:=Zab hfb
   have q0:w3.cell? ⟨w1.heap.size,0,none⟩=some (.slice h1 h2 h3):=(hE23.cell (p:=⟨w1.heap.size,0,none⟩) ql).trans q0
   have q1:w3.cell? ⟨w1.heap.size,1,none⟩=some (.slice b1 a.1.length bc):=(hE23.cell (p:=⟨w1.heap.size,1,none⟩) ql).trans q1
   have q2:w3.cell? ⟨w1.heap.size,2,none⟩=some (.slice n1 a.2.length nc):=(hE23.cell (p:=⟨w1.heap.size,2,none⟩) ql).trans q2
   have ql3:w1.heap.size<w3.heap.size:=by omega
   have HE23:=Zac hE23
   have HEw3:=Zac hEw3
   have Hfb:=Zac hfb
   clear hE3 hE23 hEw3 hfb HFo
   rcases hout with ⟨hne,rfl⟩ | ⟨hz,g1,g2,g3,v1,v2,v3,r1,r2,r3,uu,n,rfl,hNd,hok,hnm,hfw,hsame⟩
   ·obtain ⟨er,her⟩:∃ r,r=(Zap cs (topN a) ks 0).2.1:=⟨_,rfl⟩
    obtain ⟨pe,hpe⟩:∃ r,r=(Zap cs (topN a) ks 0).2.2:=⟨_,rfl⟩
    rw [← her,← hpe]
    rw [← her] at hne
    have Hh:Hid ((Zdv p q x).2.2.1=er∧(Zdv p q x).2.2.2=pe):=by show _∧_; rw [Hh0.out]; exact ⟨her.symm,hpe.symm⟩
    have hb:((er:Int) != 0)=true:=by rw [bne_iff_ne]; omega
    have Hne:=Zac hne
    clear her hpe hne
    go_wp2_with fail
    go_region
    all_goals
     go_wp2
     refine bodyPost_ret (v := .tuple #[Zdi,.agg #[.int .i64 er,.int .i64 pe]]) (by simp [results,Tryz.results42,go_sem,Zdi,p0,p1,p2,p3,p4,p5,p6,pf,f0,f1,ff,pl,fl]) rfl ?_
     exact ⟨HEw3.out.trans (Kept.below (S:=fun i=>w.heap.size≤i) (by repeat' (first | with_reducible(first|exact Qx _ _|apply Kept.drew|apply Kept.drewN|apply Qz|refine Qy ?_ ?_ _)|(intro _; simp only; omega))) (by omega) (fun i e=>e)),Or.inl (by rw [Hh.out.1,Hh.out.2]; exact ⟨Hne.out,rfl⟩)⟩
   ·have HNd:=Zac hNd
    have Hok:=Zac hok
    have Hnm:=Zac hnm
    have Hfw:=Zac hfw
    have Hsame:=Zac hsame
    have Hz:=Zac hz
    have HDp2:=Zac (HDp.out hz)
    clear hNd hok hnm hfw hsame hz HDp
    go_wp2_with fail
    refine (HDp2.out _ (HE23.out.trans (Kept.below (S:=fun i=>w2.heap.size≤i) (by repeat' (first | with_reducible(first|exact Qx _ _|apply Kept.drew|apply Kept.drewN|apply Qz|refine Qy ?_ ?_ _)|(intro _; simp only; omega))) (by omega) (fun i e=>e)))).mono ?_
    rintro e w4 ⟨hE4,da,dc,rfl,hds⟩
    obtain ⟨M,hM⟩:∃ M,M=(Zap cs (topN a) ks 0).1:=⟨_,rfl⟩
    rw [← hM] at hds ⊢
    have hfo:Zap cs (topN a) ks 0=(M,0,0):=by rw [hM,← Hz.out]
    have hsm2:Same n M:=by rw [hM]; exact Hsame.out
    have hz4:=hE4.size
    simp at hz4
    have hE24:Ext w2 w4:=(HE23.out.trans (Kept.below (S:=fun i=>w2.heap.size≤i) (by repeat' (first | with_reducible(first|exact Qx _ _|apply Kept.drew|apply Kept.drewN|apply Qz|refine Qy ?_ ?_ _)|(intro _; simp only; omega))) (by omega) (fun i e=>e))).trans (hE4.mono (by simp; omega))
    have hK3:Kept (fun j=>j=w2.heap.size) w3 ((w3.setCell ⟨w2.heap.size,0,none⟩ (.int .i64 0)).setCell ⟨w2.heap.size,1,none⟩ (.int .i64 0)):=((Qx (only w2.heap.size) w3).put 0 _).put 1 _
    have hT4:∀ {v:Value} {ls:List (List Sym)},TermsIn w3 v ls→TermsIn w4 v ls:=fun {v ls} h=>((h.box Hfb.out (by decide) (by decide) hK3).ext ((Ext.of (by repeat' (first | with_reducible(first|exact Qx _ _|apply Kept.drew|apply Kept.drewN|apply Qz|refine Qy ?_ ?_ _)|exact fun h=>absurd h (by simp <;> omega)))):Ext _ (((w3.setCell ⟨w2.heap.size,0,none⟩ (.int .i64 0)).setCell ⟨w2.heap.size,1,none⟩ (.int .i64 0)).alloc (.cells #[.slice g1 g2 g3,.slice v1 v2 v3,.slice r1 r2 r3,.int .i64 uu] 87)))).ext hE4
    have hnb:w4.heap[w3.heap.size]?=some (.cells #[.slice g1 g2 g3,.slice v1 v2 v3,.slice r1 r2 r3,.int .i64 uu] 87 (0,0)):=(hE4.block _ (by simp)).trans (Zdm (by simp) _)
    have hEw4:Ext w w4:=HEw2.out.trans (hE24.mono (by omega))
    have hEW4:Ext W w4:=HE1.out.trans ((HE12.out.mono (by omega)).trans (hE24.mono (by omega)))
    obtain ⟨p0,p1,p2,p3,p4,p5,p6,pf,f0,f1,ff,pl,fl⟩:=HB.out w4 hEW4
    have hpb:=(hEW4.block _ (Zab Hb0.out)).trans Hb0.out
    have hfb2:=(hEW4.block _ (Zab Hb1.out)).trans Hb1.out
    have u0:=Zaa hnb 0 _ rfl
    have u1:=Zaa hnb 1 _ rfl
    have u2:=Zaa hnb 2 _ rfl
    have u3:=Zaa hnb 3 _ rfl
    have ul:=Zab hnb
    have q2:w4.cell? ⟨w1.heap.size,2,none⟩=some (.slice n1 a.2.length nc):=(hE24.cell (p:=⟨w1.heap.size,2,none⟩) ql).trans ((HE23.out.cell (p:=⟨w1.heap.size,2,none⟩) ql).symm.trans q2)
    have ql4:w1.heap.size<w4.heap.size:=by omega
    have hN4:=Zai HN2.out (fun j hj=>hE24.block j (HN2.out.lt j hj).2)
    have hk4:=Zai Hks.out (fun j hj=>hE24.block j (Hks.out.lt j hj).2)
    obtain ⟨D,hDe⟩:∃ D,D=M.done.map (·.2):=⟨_,rfl⟩
    rw [← hDe] at hds ⊢
    have hKp:∀ x0 x1 x2 x3 x4 x5 x6,Kept (fun j=>j=w.heap.size) w4 (((((((w4.setCell ⟨w.heap.size,0,none⟩ x0).setCell ⟨w.heap.size,1,none⟩ x1).setCell ⟨w.heap.size,2,none⟩ x2).setCell ⟨w.heap.size,3,none⟩ x3).setCell ⟨w.heap.size,4,none⟩ x4).setCell ⟨w.heap.size,5,none⟩ x5).setCell ⟨w.heap.size,6,none⟩ x6):=fun x0 x1 x2 x3 x4 x5 x6=>(((((((Qx (only w.heap.size) w4).put 0 _).put 1 _).put 2 _).put 3 _).put 4 _).put 5 _).put 6 _
    have hKf:∀ (y:World) z0 z1,Kept (fun j=>j=w.heap.size+1) y ((y.setCell ⟨w.heap.size+1,0,none⟩ z0).setCell ⟨w.heap.size+1,1,none⟩ z1):=fun y z0 z1=>((Qx (only (w.heap.size+1)) y).put 0 _).put 1 _
    have hout:∀ x0 x1 x2 x3 x4 x5 x6 z0 z1,Zym p q x w (.returned (.tuple #[.agg #[.slice n1 a.2.length nc,.slice g1 g2 g3,.slice v1 v2 v3,.slice r1 r2 r3,.int .i64 uu,.slice ka ks.length kc,.slice da D.length dc],.agg #[.int .i64 0,.int .i64 0]])) (((((((((w4.setCell ⟨w.heap.size,0,none⟩ x0).setCell ⟨w.heap.size,1,none⟩ x1).setCell ⟨w.heap.size,2,none⟩ x2).setCell ⟨w.heap.size,3,none⟩ x3).setCell ⟨w.heap.size,4,none⟩ x4).setCell ⟨w.heap.size,5,none⟩ x5).setCell ⟨w.heap.size,6,none⟩ x6).setCell ⟨w.heap.size+1,0,none⟩ z0).setCell ⟨w.heap.size+1,1,none⟩ z1):=fun x0 x1 x2 x3 x4 x5 x6 z0 z1=>by
     have hf5:=((hKp x0 x1 x2 x3 x4 x5 x6).block _ fl (by simp)).trans hfb2
     have hT:∀ {v:Value} {ls:List (List Sym)},TermsIn w3 v ls→TermsIn (((((((((w4.setCell ⟨w.heap.size,0,none⟩ x0).setCell ⟨w.heap.size,1,none⟩ x1).setCell ⟨w.heap.size,2,none⟩ x2).setCell ⟨w.heap.size,3,none⟩ x3).setCell ⟨w.heap.size,4,none⟩ x4).setCell ⟨w.heap.size,5,none⟩ x5).setCell ⟨w.heap.size,6,none⟩ x6).setCell ⟨w.heap.size+1,0,none⟩ z0).setCell ⟨w.heap.size+1,1,none⟩ z1) v ls:=fun {v ls} h =>
      ((hT4 h).box hpb (by decide) (by decide) (hKp x0 x1 x2 x3 x4 x5 x6)).box hf5 (by decide) (by decide) (hKf _ z0 z1)
     refine ⟨hEw4.trans (Kept.below (S:=fun i=>w.heap.size≤i) (by repeat' (first | with_reducible(first|exact Qx _ _|apply Kept.drew|apply Kept.drewN|apply Qz|refine Qy ?_ ?_ _)|(intro _; simp only; omega))) (by omega) (fun i e=>e)),Or.inr ⟨a,ks,n,M,⟨Hask.out,by rw [Hh0.out,hfo],Hok.out,Hnm.out,Hfw.out,hsm2,cs,Hcs.out,hfo⟩,n1,nc,g1,g2,g3,v1,v2,v3,r1,r2,r3,uu,ka,kc,da,dc,by rw [← hDe],⟨hT HNd.out.goals,hT HNd.out.vals,hT HNd.out.done⟩,?_,?_,?_⟩⟩
     ·exact Zcu (Zcu hN4 hpb (by decide) (hKp x0 x1 x2 x3 x4 x5 x6)) hf5 (by decide) (hKf _ z0 z1)
     ·exact Zcu (Zcu hk4 hpb (by decide) (hKp x0 x1 x2 x3 x4 x5 x6)) hf5 (by decide) (hKf _ z0 z1)
     ·rw [← hDe]; exact Zcu (Zcu hds hpb (by decide) (hKp x0 x1 x2 x3 x4 x5 x6)) hf5 (by decide) (hKf _ z0 z1)
    have Hout:=Zac hout
    clear hout hKp hKf hT4 hN4 hk4 hds hE24 hK3 hnb hEw4 hEW4 hpb hfb2 hfo hsm2 hE4 hM hDe HDp2
    go_wp2
    refine bodyPost_ret (v := .tuple #[.agg #[.slice n1 a.2.length nc,.slice g1 g2 g3,.slice v1 v2 v3,.slice r1 r2 r3,.int .i64 uu,.slice ka ks.length kc,.slice da D.length dc],.agg #[.int .i64 0,.int .i64 0]]) (by simp [results,Tryz.results42,go_sem,p0,p1,p2,p3,p4,p5,p6,pf,f0,f1,ff,pl,fl]) rfl ?_
    exact Hout.out _ _ _ _ _ _ _ _ _
  ·have Hh:Hid ((Zdv p q x).2.2=(6,pp)):=by show _=_; rw [Hhe.out,if_neg (by omega),hnum]
   clear hnum
   go_wp2_with fail
   go_region
   all_goals
    go_wp2
    refine bodyPost_ret (v := .tuple #[Zdi,.agg #[.int .i64 6,.int .i64 pp]]) (by simp [results,Tryz.results42,go_sem,Zdi,p0,p1,p2,p3,p4,p5,p6,pf,f0,f1,ff,pl,fl]) rfl ?_
    exact ⟨HEw2.out.trans (Kept.below (S:=fun i=>w.heap.size≤i) (by repeat' (first | with_reducible(first|exact Qx _ _|apply Kept.drew|apply Kept.drewN|apply Qz|refine Qy ?_ ?_ _)|(intro _; simp only; omega))) (by omega) (fun i e=>e)),Or.inl (by rw [Hh.out]; exact ⟨by simp,rfl⟩)⟩
theorem Ygd {p:List Tok→Names→Option (List Sym × List Tok × Names)} (hp:∀ ts names r,p ts names=some r→2 * r.1.length+r.2.1.length≤ts.length+1) :
  ∀ (g:Nat) (ts:List Tok) (names:Names) (acc:List (List Sym)) r,Zdz p g ts names acc=some r→2 * r.1.flatten.length+r.2.1.length+1≤2 * acc.flatten.length+ts.length:=by
 intro g
 induction g with
 | zero=>intro ts names acc r h; simp [Zdz] at h
 | succ g ih =>
  intro ts names acc r h
  cases ts with
  | nil=>simp [Zdz] at h
  | cons t ts =>
   rw [Zdz] at h
   split at h
   ·simp at h; subst h
    simp only [Qf]; omega
   ·split at h
    ·simp at h
    ·rename_i q hq
     have h1:=hp _ _ _ hq
     have h4:=ih _ _ _ _ h
     simp only [List.flatten_append,List.flatten_cons,List.flatten_nil,Qs,Qg,Qf] at h4 ⊢
     omega
theorem Yge:∀ (f:Nat) (ts:List Tok) (names:Names) r,Zcp f ts names=some r→2 * r.1.length+r.2.1.length≤ts.length+1:=by
 intro f
 induction f with
 | zero=>intro ts names r h; simp [Zcp] at h
 | succ f ih =>
  intro ts names r h
  cases ts with
  | nil=>simp [Zcp] at h
  | cons t ts =>
   rw [Zcp] at h
   split at h
   ·simp at h; subst h
    simp only [Qf,Jt]; omega
   ·cases ts with
    | nil=>simp [Zjf] at h
    | cons u us =>
     rw [Zjf] at h
     split at h
     ·simp at h; subst h
      simp only [Qf,Jt]; omega
     ·rw [Option.map_eq_some_iff] at h
      obtain ⟨q,hq,rfl⟩:=h
      have h1:=Ygd ih _ _ _ _ _ hq
      simp only [List.flatten_nil,Jt,Qf] at h1 ⊢
      omega
theorem Ybl {f:Nat}:∀ (g:Nat) (ts:List Tok) (names:Names) (acc:List (List Sym)) r,Zcw f g ts names acc=some r→2 * r.1.flatten.length+r.2.1.length≤2 * acc.flatten.length+ts.length:=by
 intro g
 induction g with
 | zero=>intro ts names acc r h; simp [Zcw] at h
 | succ g ih =>
  intro ts names acc r h
  rw [Zcw] at h
  split at h
  ·simp at h
  ·rename_i q hq
   have h1:=Yge f _ _ _ hq
   split at h
   ·simp at h
   ·rename_i x rest hx
    rw [hx] at h1
    simp only [Qf] at h1
    split at h
    ·simp at h; subst h
     simp only [List.flatten_append,List.flatten_cons,List.flatten_nil,Qs,Qg]
     omega
    ·have h4:=ih _ _ _ _ h
     simp only [List.flatten_append,List.flatten_cons,List.flatten_nil,Qs,Qg] at h4
     omega
theorem Znu {s:ByteArray} {a:List (List Sym) × Names} (h:Zep s=some a):a.2.length≤60:=by
 unfold Zep at h
 split at h
 ·simp at h
 ·split at h
  ·simp at h
  ·rename_i hs he
   have hs:s.size≤120:=by omega
   obtain ⟨r1,_,_⟩:=Zdw s true
   have h0:(runs s true).1=0:=by rw [r1]; omega
   obtain ⟨q,e1,e2,_⟩:=Ziv s hs h0
   rw [e1] at h
   simp at h
   subst h
   obtain ⟨g1,g2,_⟩:=Zhd 1000 0 1000 (Zaz s) [] [] q (Zef s) (by simp) rfl e1
   obtain ⟨x1,x2,x3⟩:=Zfb _ _ _ g2
   have hl:=Zez s
   have h2:=Ybl 1000 (Zaz s) [] [] q e1
   simp only [List.flatten_nil,Jt] at h2
   simp only
   omega
theorem Ybm:∀ (l:List Sym) (met:List Nat) (M:Nat),(Zas l met).2.length≤M→(∀ s ∈ l,s.name≠[]→s.num=0)→0<M→∀ s ∈ (Zas l met).1,s.num<M:=by
 intro l
 induction l with
 | nil=>intro met M _ _ _ s hs; simp [Zas] at hs
 | cons s l ih =>
  intro met M hM hz hp t ht
  have hgrow:∀ (l:List Sym) (met:List Nat),met.length≤(Zas l met).2.length:=by
   intro l
   induction l with
   | nil=>intro met; simp [Zas]
   | cons s l ih =>
    intro met
    simp only [Zas]
    split
    ·have:=ih (meet s.num met)
     have h1:met.length≤(meet s.num met).length:=by unfold meet; split <;> simp
     simp; omega
    ·exact ih met
  simp only [Zas] at hM ht
  split at ht
  ·rename_i hn
   rw [if_pos hn] at hM
   simp only at hM
   rcases Qp.1 ht with rfl | ht
   ·show met.idxOf s.num<M
    have h1:=hgrow l (meet s.num met)
    have h2:met.idxOf s.num<(meet s.num met).length:=by
     unfold meet
     split
     ·rename_i e; rw [e]; simp
     ·rename_i e
      have:=List.idxOf_le_length (a:=s.num) (l:=met)
      omega
    omega
   ·exact ih _ M hM (fun u hu=>hz u (by simp [hu])) hp t ht
  ·rename_i hn
   rw [if_neg hn] at hM
   simp only at hM
   rcases Qp.1 ht with rfl | ht
   ·rw [hz t (by simp) hn]; exact hp
   ·exact ih _ M hM (fun u hu=>hz u (by simp [hu])) hp t ht
theorem Ybn:∀ (ts:List (List Sym)) (met:List Nat) (M:Nat),(Zay ts met).2.length≤M→(∀ t ∈ ts,∀ s ∈ t,s.name≠[]→s.num=0)→0<M→∀ t ∈ (Zay ts met).1,∀ s ∈ t,s.num<M:=by
 intro ts
 induction ts with
 | nil=>intro met M _ _ _ t ht; simp [Zay] at ht
 | cons u ts ih =>
  intro met M hM hz hp t ht
  have hgrow:∀ (ts:List (List Sym)) (met:List Nat),met.length≤(Zay ts met).2.length:=by
   intro ts
   induction ts with
   | nil=>intro met; simp [Zay]
   | cons v ts ih =>
    intro met
    simp only [Zay]
    have h1:=ih (Zas v met).2
    have h2:met.length≤(Zas v met).2.length:=by
     clear h1 ih
     induction v generalizing met with
     | nil=>simp [Zas]
     | cons s l ih =>
      simp only [Zas]
      split
      ·have:=ih (meet s.num met)
       have h1:met.length≤(meet s.num met).length:=by unfold meet; split <;> simp
       simp; omega
      ·exact ih met
    omega
  simp only [Zay] at hM ht
  rcases Qp.1 ht with rfl | ht
  ·exact Ybm u met M (Qq (hgrow ts _) hM) (fun s hs=>hz u (by simp) s hs) hp
  ·exact ih _ M hM (fun v hv=>hz v (by simp [hv])) hp t ht
theorem Zwl:∀ (l:List Sym) (met:List Nat) (P:Nat→Prop),(∀ s ∈ l,P s.args)→∀ s ∈ (Zas l met).1,P s.args:=by
 intro l
 induction l with
 | nil=>intro met P _ s hs; simp [Zas] at hs
 | cons s l ih =>
  intro met P h t ht
  simp only [Zas] at ht
  split at ht
  ·rcases Qp.1 ht with rfl | ht
   ·exact h s (by simp)
   ·exact ih _ P (fun u hu=>h u (by simp [hu])) t ht
  ·rcases Qp.1 ht with rfl | ht
   ·exact h t (by simp)
   ·exact ih _ P (fun u hu=>h u (by simp [hu])) t ht
theorem Znv:∀ (ts:List (List Sym)) (met:List Nat) (u:List Sym),u ∈ (Zay ts met).1→∃ t ∈ ts,∃ m,u=(Zas t m).1:=by
 intro ts
 induction ts with
 | nil=>intro met u h; simp [Zay] at h
 | cons t ts ih =>
  intro met u h
  simp only [Zay] at h
  rcases Qp.1 h with rfl | h
  ·exact ⟨t,by simp,met,rfl⟩
  ·obtain ⟨t',h1,m,h2⟩:=ih _ u h
   exact ⟨t',by simp [h1],m,h2⟩
def Ync:Prop:=∀ (p q x:ByteArray) (w:World),p.size≤maxLen→q.size≤maxLen→x.size≤maxLen→Calls Tryz.prog 19 #[.string p,.string q,.string x] w fun e w'=>e = .returned (.tuple #[.string ⟨(yesN p q x).1.toArray⟩,.int .i64 (yesN p q x).2.1,.int .i64 (yesN p q x).2.2])∧Ext w w'
theorem Zwm {ts:List (List Sym)} {N:Nat} (h:∀ t ∈ ts,t.length≤N):ts.flatten.length≤N * ts.length:=by
 induction ts with
 | nil=>simp
 | cons t ts ih =>
  have h1:=h t (by simp)
  have h2:=ih (fun y hy=>h y (by simp [hy]))
  simp only [List.flatten_cons,Qg,Qf]
  rw [Nat.mul_add]
  omega
theorem Ybo:∀ (ts:List (List Sym)) (seen:List Nat),(∀ t ∈ ts,Wf 1 t∧t.length≤30∧∀ s ∈ t,s.name.length≤4096)→seen.length+ts.flatten.length≤4000→∀ u ∈ (Zay ts seen).1,(Zce u []).length≤200000:=by
 intro ts
 induction ts with
 | nil=>intro seen _ _ u hu; simp [Zay] at hu
 | cons t ts ih =>
  intro seen h hs u hu
  simp only [List.flatten_cons,Qg] at hs
  obtain ⟨h1,h2,h3⟩:=h t (by simp)
  have hc:=Ztk (l:=t) (by omega) h1 h3 (seen:=seen) (by omega)
  simp only [Zay] at hu
  rcases Qp.1 hu with rfl | hu
  ·omega
  ·exact ih _ (fun v hv=>h v (by simp [hv])) (by omega) u hu
theorem tx_ok {n:ND} (hn:NOk n) (hm:NNm n) {ts:List (List Sym)} (ht:∀ t ∈ ts,t ∈ n.terms∧t.length≤30) (hl:ts.length≤130) (hv:(Zay ts []).2.length≤2599):TxOk ts:=by
 have hfl:ts.flatten.length≤30 * ts.length:=Zwm (fun t h=>(ht t h).2)
 have hV:n.vars≤101000:=by have:=hn.vars; have:=hn.ul; omega
 refine ⟨by omega,by omega,fun t h=>Zns (hn.wf t (ht t h).1) (by have:=(ht t h).2; omega) (hn.occ t (ht t h).1) (by omega),fun u hu=>⟨?_,fun s hs=>⟨?_,?_⟩⟩,fun u hu => ?_⟩
 ·obtain ⟨t,h1,m,rfl⟩:=Znv ts [] u hu
  rw [Zkb]
  have:=(ht t h1).2
  omega
 ·exact Ybn ts [] 2600 (by omega) (fun t h1 x hx hne=>by
   obtain ⟨i,hi⟩:=List.mem_iff_getElem?.1 hx
   exact (Zjq (hn.wf t (ht t h1).1) hi).2 hne) (by omega) u hu s hs
 ·obtain ⟨t,h1,m,rfl⟩:=Znv ts [] u hu
  refine Qq (Zwl t m (fun a=>a≤30) (fun x hx => ?_) s hs) (by omega)
  obtain ⟨i,hi⟩:=List.mem_iff_getElem?.1 hx
  have hil:=(Qa.1 hi).1
  have:=Zwb (hn.wf t (ht t h1).1) (i:=i) hil
  have he:Zax t i=x:=by unfold Zax; rw [List.getD_eq_getElem?_getD,hi]; rfl
  rw [he] at this
  have:=(ht t h1).2
  omega
 ·refine Qq (Ybo ts [] (fun t h1=>⟨hn.wf t (ht t h1).1,(ht t h1).2,fun s hs=>Qq (hm t (ht t h1).1 s hs) (by omega)⟩) ?_ u hu) (by omega)
  simp only [Jt]
  omega
theorem Zwn {n:ND} (hn:NOk n) (hm:NNm n) (hl:n.vals.length≤60):TxOk n.vals:=by
 have hfl:n.vals.flatten.length≤30 * n.vals.length:=Zwm (fun t h=>hn.vsize h)
 refine tx_ok hn hm (fun t h=>⟨by unfold ND.terms; simp [h],hn.vsize h⟩) (by omega) ?_
 have:=Zpw n.vals []
 simp only [Jt] at this
 omega
theorem Zlj {n:ND} (hn:NOk n) (hm:NNm n) (hl:n.vals.length≤60) {names:Names} (hs:names.length≤60) (hns:∀ x ∈ names,x.length≤8):(Zhe [] names (Zay n.vals []).1).length≤100000000:=by
 have hfl:n.vals.flatten.length≤30 * n.vals.length:=Zwm (fun t h=>hn.vsize h)
 have:=Yem names n.vals [] [] (fun x hx=>Qq (hns x hx) (by omega)) (fun t ht=>⟨hn.wf t (by unfold ND.terms; simp [ht]),by have:=hn.vsize ht; omega,fun s hs=>Qq (hm t (by unfold ND.terms; simp [ht]) s hs) (by omega)⟩) (by simp) (by simp only [Jt]; omega)
 omega
theorem Zwo (w:World) (nv gv vv rv kv dv:Value) (uu:Nat) (names:Names) (n:ND) (hg:∃ a l c,gv = .slice a l c) (hr:∃ a l c,rv = .slice a l c) (hk:∃ a l c,kv = .slice a l c) (hd:∃ a l c,dv = .slice a l c) (hnv:w.ownsRow 0 9 1 nv names.length (strs names)) (hv:TermsIn w vv n.vals) (hn:NOk n) (hm:NNm n) (hl:n.vals.length=names.length) (hs:names.length≤60) (hns:∀ x ∈ names,x.length≤8) :
  Calls Tryz.prog 43 #[.agg #[nv,gv,vv,rv,.int .i64 uu,kv,dv]] w fun e w'=>Ext w w'∧e = .returned (.string ⟨(Zbp names n).toArray⟩):=by
 obtain ⟨g1,g2,g3,rfl⟩:=hg
 obtain ⟨r1,r2,r3,rfl⟩:=hr
 obtain ⟨k1,k2,k3,rfl⟩:=hk
 obtain ⟨d1,d2,d3,rfl⟩:=hd
 obtain ⟨na,ncap,rfl⟩:=Zae hnv
 obtain ⟨va,vcap,rfl⟩:=hv.shape
 have HA:Hid (∀ o,Calls Tryz.prog 70 #[.slice na names.length ncap,.slice va n.vals.length vcap] (w.alloc o) fun e w'=>Ext (w.alloc o) w'∧e = .returned (.string ⟨(Zbp names n).toArray⟩)):=fun o=>by
  have hE:Ext w (w.alloc o):=(Ext.of (by repeat' (first | with_reducible(first|exact Qx _ _|apply Kept.drew|apply Kept.drewN|apply Qz|refine Qy ?_ ?_ _)|exact fun h=>absurd h (by simp <;> omega))))
  exact Zgy _ _ _ names n.vals (Zai hnv (fun j hj=>hE.block j (hnv.lt j hj).2)) (hv.ext hE) (Zwn hn hm (by omega)) hl.symm (Zlj hn hm (by omega) hs hns)
 clear hnv hv hn hm hl hs hns
 go_enter Tryz.func43,Tryz.ntmps43
 go_wp2_with fail
 refine (HA.out _).mono ?_
 rintro e w1 ⟨hE1,rfl⟩
 have HE1:=Zac hE1
 clear hE1
 go_wp2
 go_ret
 exact ⟨(Below.refl _ w |>.alloc (Qe _) _).trans (HE1.out.mono (by simp)),rfl⟩
theorem Zyn:Ync:=by
 intro p q x w hp hq hx
 have HC:=Zac (Ybk p q x w hp hq hx)
 obtain ⟨Y,hY⟩:∃ Y,Y=yesN p q x:=⟨_,rfl⟩
 rw [← hY]
 have HY:=Zac hY
 clear hp hq hx hY
 go_enter Tryz.func19,Tryz.ntmps19
 go_wp2_with fail
 refine HC.out.mono ?_
 rintro e w1 ⟨hE1,hout⟩
 have hz1:=hE1.size
 have HE1:=Zac hE1
 clear hE1 HC
 rcases hout with ⟨hne,rfl⟩ | ⟨a,ks,n,m,hH,n1,nc,g1,g2,g3,v1,v2,v3,r1,r2,r3,uu,k1,kc,d1,dc,rfl,hN,hnames,hks,hds⟩
 ·obtain ⟨er,her⟩:∃ r,r=(Zdv p q x).2.2.1:=⟨_,rfl⟩
  obtain ⟨pe,hpe⟩:∃ r,r=(Zdv p q x).2.2.2:=⟨_,rfl⟩
  rw [← her,← hpe]
  rw [← her] at hne
  have Hy:Hid (Y=([],er,pe)):=by show _=_; rw [HY.out,yesN,if_neg (by rw [← her]; exact hne),← her,← hpe]
  have hb:((er:Int) != 0)=true:=by rw [bne_iff_ne]; omega
  clear her hpe hne
  unfold Zdi
  go_wp2_with fail
  go_quiet (fail)
  go_wp2
  go_ret3
  rw [Hy.out]
  exact ⟨rfl,HE1.out.trans (Kept.below (S:=fun i=>w.heap.size≤i) (by repeat' (first | with_reducible(first|exact Qx _ _|apply Kept.drew|apply Kept.drewN|apply Qz|refine Qy ?_ ?_ _)|(intro _; simp only; omega))) (by omega) (fun _ h=>h))⟩
 ·have hvl:=Yak hH.ask hH.held
  have hsm:=Znu hH.ask
  obtain ⟨_,_,_,_,_,_,_,_,ha8⟩:=Zdx hH.ask
  have hans:Zbp a.2 n=Zbp a.2 m:=by unfold Zbp; rw [hH.same.valsC hH.ok]
  have Hy:Hid (Y=(Zbp a.2 n,0,0)):=by show _=_; rw [HY.out,yesN,hH.held,hans]; simp
  have HAn:Hid (∀ y,Ext w1 y→Calls Tryz.prog 43 #[.agg #[.slice n1 a.2.length nc,.slice g1 g2 g3,.slice v1 v2 v3,.slice r1 r2 r3,.int .i64 uu,.slice k1 ks.length kc,.slice d1 (m.done.map (·.2)).length dc]] y fun e w'=>Ext y w'∧e = .returned (.string ⟨(Zbp a.2 n).toArray⟩)):=fun y hE =>
   Zwo y _ _ _ _ _ _ uu a.2 n ⟨_,_,_,rfl⟩ ⟨_,_,_,rfl⟩ ⟨_,_,_,rfl⟩ ⟨_,_,_,rfl⟩ (Zai hnames (fun j hj=>hE.block j (hnames.lt j hj).2)) (hN.vals.ext hE) hH.ok hH.nm (by rw [hH.same.vl,hvl]) hsm ha8
  obtain ⟨T,hT⟩:∃ T,T=Zbp a.2 n:=⟨_,rfl⟩
  rw [← hT] at HAn Hy
  obtain ⟨D,hD⟩:∃ D,D=(m.done.map (·.2)).length:=⟨_,rfl⟩
  rw [← hD] at HAn ⊢
  clear hvl hsm ha8 hans hH hN hnames hks hds hT hD
  go_wp2_with fail
  refine (HAn.out _ ((Below.refl _ w1 |>.alloc (Qe _) _).alloc (by simp) _)).mono ?_
  rintro e w2 ⟨hE2,rfl⟩
  have HE2:=Zac hE2
  clear hE2
  go_wp2
  go_ret3
  rw [Hy.out]
  exact ⟨rfl,(HE1.out.trans (Kept.below (S:=fun i=>w.heap.size≤i) (by repeat' (first | with_reducible(first|exact Qx _ _|apply Kept.drew|apply Kept.drewN|apply Qz|refine Qy ?_ ?_ _)|(intro _; simp only; omega))) (by omega) (fun _ h=>h))).trans (HE2.out.mono (by simp; omega))⟩
def Zcm (t:TypeId):Prop:=t=133∨t=105∨t=107∨t=9∨t=3
def OffCode (S:Nat→Prop) (w:World):Prop:=∀ k,S k→∃ cl t fr,w.heap[k]?=some (.cells cl t fr)∧¬ Zcm t
theorem OffCode.own {S:Nat→Prop} {w w':World} {B:Nat} {e:TypeId} {size n:Nat} {v:Value} {xs:List Value} (hS:OffCode S w) (he:Zcm e) (hk:Kept S w w') (h:w.ownsRow B e size v n xs):w'.ownsRow B e size v n xs :=
 Zai h (fun k hj=>hk.block k (h.lt k hj).2 (fun hs=>by
  obtain ⟨cl,t,fr,h1,h2⟩:=hS k hs
  rcases h.2 with ⟨rfl,_⟩ | ⟨g,cap,cur,rfl,_,hg,_⟩
  ·simp [Zbn,Value.ownBlock] at hj
  ·simp [Zbn,Value.ownBlock] at hj
   subst hj
   rw [hg] at h1
   simp at h1
   exact h2 (h1.2.1 ▸ he)))
theorem OffCode.terms {S:Nat→Prop} {w w':World} {v:Value} {ls:List (List Sym)} (hS:OffCode S w) (hk:Kept S w w') (h:TermsIn w v ls):TermsIn w' v ls:=by
 obtain ⟨vs,h⟩:=h
 exact ⟨vs,hS.own (by simp [Zcm]) hk h.owns,fun i l hl=>by
  obtain ⟨x,h1,h2⟩:=h.all i l hl
  exact ⟨x,h1,hS.own (by simp [Zcm]) hk h2⟩⟩
theorem OffCode.prog {S:Nat→Prop} {w w':World} {v:Value} {cs:List Cls} {xs:List (List Value)} (hS:OffCode S w) (hk:Kept S w w') (h:ProgIn w v cs xs):ProgIn w' v cs xs :=
 ⟨hS.own (by simp [Zcm]) hk h.owns,h.len,h.three,fun i c hc=>by
  obtain ⟨hv,bv,vv,h1,h2⟩:=h.all i c hc
  exact ⟨hv,bv,vv,h1,hS.own (by simp [Zcm]) hk h2.head,hS.terms hk h2.body,hS.own (by simp [Zcm]) hk h2.names⟩⟩
def CNode (w:World) (gv vv rv uv:Value) (n0:ND):Prop:=∃ n,NodeIn w gv vv rv n∧uv = .int .i64 n.vars∧NOk n∧NNm n∧NFew n∧Same n n0
theorem CNode.ext {w w':World} {gv vv rv uv:Value} {n0:ND} (h:CNode w gv vv rv uv n0) (e:Ext w w'):CNode w' gv vv rv uv n0:=by
 obtain ⟨n,h1,h2⟩:=h
 exact ⟨n,h1.ext e,h2⟩
theorem CNode.keep {S:Nat→Prop} {w w':World} {gv vv rv uv:Value} {n0:ND} (h:CNode w gv vv rv uv n0) (hk:Kept S w w') (hS:OffCode S w):CNode w' gv vv rv uv n0:=by
 obtain ⟨n,h1,h2⟩:=h
 exact ⟨n,⟨hS.terms hk h1.goals,hS.terms hk h1.vals,hS.terms hk h1.done⟩,h2⟩
theorem CNode.shape {w:World} {gv vv rv uv:Value} {n0:ND} (h:CNode w gv vv rv uv n0):∃ ga gc va vl vc ra rl rc,∃ u:Nat,gv = .slice ga n0.goals.length gc∧vv = .slice va vl vc∧rv = .slice ra rl rc∧uv = .int .i64 u∧u≤101000:=by
 obtain ⟨n,h1,rfl,h3,_,_,hs⟩:=h
 obtain ⟨ga,gcap,rfl⟩:=h1.goals.shape
 obtain ⟨va,vcap,rfl⟩:=h1.vals.shape
 obtain ⟨ra,rcap,rfl⟩:=h1.done.shape
 exact ⟨ga,gcap,va,_,vcap,ra,_,rcap,n.vars,by rw [Ql,hs.gl],rfl,rfl,rfl,by have:=h3.vars; have:=h3.ul; omega⟩
structure RowL (w:World) (v:Value) (ds:List (ND × Nat)) (xs:List Value):Prop where
 owns:w.ownsRow 0 135 5 v ds.length xs
 all:∀ (i:Nat) (d:ND × Nat),ds[i]?=some d→∃ x0 x1 x2 x3,xs[i * 5]?=some x0∧xs[i * 5+1]?=some x1∧xs[i * 5+2]?=some x2∧xs[i * 5+3]?=some x3∧xs[i * 5+4]?=some (.int .i64 d.2)∧CNode w x0 x1 x2 x3 d.1
theorem RowL.nil (w:World):RowL w (.slice none 0 0) [] []:=⟨World.ownsRow_nil _ _ _ _,fun i d h=>by simp at h⟩
theorem RowL.ext {w w':World} {v:Value} {ds:List (ND × Nat)} {xs:List Value} (h:RowL w v ds xs) (e:Ext w w'):RowL w' v ds xs :=
 ⟨Zai h.owns (fun k hk=>e.block k (h.owns.lt k hk).2),fun i d hd=>by
  obtain ⟨x0,x1,x2,x3,y0,y1,y2,y3,y4,g⟩:=h.all i d hd
  exact ⟨x0,x1,x2,x3,y0,y1,y2,y3,y4,g.ext e⟩⟩
theorem RowL.keep {S:Nat→Prop} {w w':World} {v:Value} {ds:List (ND × Nat)} {xs:List Value} (h:RowL w v ds xs) (hk:Kept S w w') (hS:OffCode S w) (ho:∀ k,v.ownBlock=some k→¬ S k):RowL w' v ds xs :=
 ⟨Zai h.owns (fun k hj=>hk.block k (h.owns.lt k hj).2 (ho k hj)),fun i d hd=>by
  obtain ⟨x0,x1,x2,x3,y0,y1,y2,y3,y4,g⟩:=h.all i d hd
  exact ⟨x0,x1,x2,x3,y0,y1,y2,y3,y4,g.keep hk hS⟩⟩
theorem RowL.pop {w:World} {g n cap:Nat} {ds:List (ND × Nat)} {d:ND × Nat} {xs:List Value} (h:RowL w (.slice (some ⟨g,0,none⟩) (n+1) cap) (ds++[d]) xs) (hn:ds.length=n):RowL w (.slice (some ⟨g,0,none⟩) n cap) ds (xs.take (n * 5)):=by
 have ho:=h.owns
 rw [Qg,Qn,hn] at ho
 refine ⟨by rw [hn]; exact Ztm ho,fun i x hx => ?_⟩
 have hi:=(Qa.1 hx).1
 obtain ⟨x0,x1,x2,x3,y0,y1,y2,y3,y4,g⟩:=h.all i x (by rw [Qc hi]; exact hx)
 exact ⟨x0,x1,x2,x3,by rw [List.getElem?_take_of_lt (by omega)]; exact y0,by rw [List.getElem?_take_of_lt (by omega)]; exact y1,by rw [List.getElem?_take_of_lt (by omega)]; exact y2,by rw [List.getElem?_take_of_lt (by omega)]; exact y3,by rw [List.getElem?_take_of_lt (by omega)]; exact y4,g⟩
theorem Zju {w:World} {B n size:Nat} {v:Value} {xs:List Value} (h:w.ownsRow B 135 size v n xs):OffCode (Zbn v) w:=fun j hj=>by
 rcases h.2 with ⟨rfl,_⟩ | ⟨g,cap,cur,rfl,_,hg,_⟩
 ·simp [Zbn,Value.ownBlock] at hj
 ·simp [Zbn,Value.ownBlock] at hj
  subst hj
  exact ⟨_,_,_,hg,by simp [Zcm]⟩
theorem RowL.step {w w':World} {cv cv':Value} {ds:List (ND × Nat)} {xs:List Value} {x0 x1 x2 x3:Value} {n:ND} {k:Nat} (h:RowL w cv ds xs) (hn:CNode w x0 x1 x2 x3 n) (ha:Appended w 0 135 5 cv (ds.length+1) (xs++[x0,x1,x2,x3,.int .i64 k]) cv' w') :
  RowL w' cv' (ds++[(n,k)]) (xs++[x0,x1,x2,x3,.int .i64 k]):=by
 have hS:=Zju h.owns
 have hxl:=h.owns.1
 refine ⟨by simpa using ha.owns,fun i d hd => ?_⟩
 rcases Nat.lt_or_ge i ds.length with hi | hi
 ·rw [Qc hi] at hd
  obtain ⟨p0,p1,p2,p3,y0,y1,y2,y3,y4,g⟩:=h.all i d hd
  exact ⟨p0,p1,p2,p3,by rw [Qc (by omega)]; exact y0,by rw [Qc (by omega)]; exact y1,by rw [Qc (by omega)]; exact y2,by rw [Qc (by omega)]; exact y3,by rw [Qc (by omega)]; exact y4,g.keep ha.kept hS⟩
 ·have e:i=ds.length:=by
   have:=(Qa.1 hd).1
   simp at this; omega
  subst e
  rw [Qd (Qe _)] at hd
  simp at hd
  subst hd
  exact ⟨x0,x1,x2,x3,by rw [Qd (by omega)]; simp [hxl],by rw [Qd (by omega),show ds.length * 5+1 - xs.length=1 by omega]; rfl,by rw [Qd (by omega),show ds.length * 5+2 - xs.length=2 by omega]; rfl,by rw [Qd (by omega),show ds.length * 5+3 - xs.length=3 by omega]; rfl,by rw [Qd (by omega),show ds.length * 5+4 - xs.length=4 by omega]; rfl,hn.keep ha.kept hS⟩
structure CX where
 ca:Option Addr
 cc:Nat
 na:Option Addr
 nc:Nat
 wa:Option Addr
 wc:Nat
 va:Option Addr
 vl:Nat
 vc:Nat
 fa:Option Addr
 fl:Nat
 fc:Nat
def CX.cells (x:CX) (cl nl wl tr st:Nat) (T:List UInt8):Array Value:=#[.slice x.ca cl x.cc,.slice x.na nl x.nc,.slice x.wa wl x.wc,.int .i64 tr,.int .i64 st,.slice x.va x.vl x.vc,.slice x.fa x.fl x.fc,.string ⟨T.toArray⟩]
structure CSr (w:World) (b:Nat) (x:CX) (cs:List Cls) (a:List (List Sym) × Names) (m:SN):Prop where
 box:w.heap[b]?=some (.cells (x.cells cs.length a.2.length m.way.length m.tries m.status m.tree) 112 (0,0))
 prog:∃ xs,ProgIn w (.slice x.ca cs.length x.cc) cs xs
 names:w.ownsRow 0 9 1 (.slice x.na a.2.length x.nc) a.2.length (strs a.2)
 way:∃ ys,RowL w (.slice x.wa m.way.length x.wc) m.way.reverse ys
 found:m.status=1→(∃ n,TermsIn w (.slice x.va x.vl x.vc) n.vals∧NOk n∧NNm n∧Same n m.found)∧w.ownsRow 0 3 1 (.slice x.fa x.fl x.fc) m.found.used.length (ints m.found.used)
theorem CSr.ext {w w':World} {b:Nat} {x:CX} {cs:List Cls} {a:List (List Sym) × Names} {m:SN} (h:CSr w b x cs a m) (e:Ext w w'):CSr w' b x cs a m:=by
 obtain ⟨xs,h1⟩:=h.prog
 obtain ⟨ys,h2⟩:=h.way
 refine ⟨(e.block _ (Zab h.box)).trans h.box,⟨xs,h1.ext e⟩,Zai h.names (fun k hk=>e.block k (h.names.lt k hk).2),⟨ys,h2.ext e⟩,fun hs => ?_⟩
 obtain ⟨⟨n,g1,g2⟩,g3⟩:=h.found hs
 exact ⟨⟨n,g1.ext e,g2⟩,Zai g3 (fun k hk=>e.block k (g3.lt k hk).2)⟩
def ownS (b:Nat) (x:CX):Nat→Prop:=fun k=>k=b∨(∃ a,x.wa=some a∧a.block=k)
theorem CSr.keep {S:Nat→Prop} {w w':World} {b:Nat} {x:CX} {cs:List Cls} {a:List (List Sym) × Names} {m:SN} (h:CSr w b x cs a m) (hk:Kept S w w') (hS:OffCode S w) (ho:∀ k,ownS b x k→¬ S k):CSr w' b x cs a m:=by
 obtain ⟨xs,h1⟩:=h.prog
 obtain ⟨ys,h2⟩:=h.way
 refine ⟨(hk.block _ (Zab h.box) (ho _ (Or.inl rfl))).trans h.box,⟨xs,hS.prog hk h1⟩,hS.own (by simp [Zcm]) hk h.names,⟨ys,h2.keep hk hS (fun k hj=>ho k (Or.inr ?_))⟩,fun hs => ?_⟩
 ·rcases h2.owns.2 with ⟨e,_⟩ | ⟨g,cap,cur,e,_⟩
  ·rw [e] at hj; simp [Value.ownBlock] at hj
  ·rw [e] at hj
   simp [Value.ownBlock] at hj
   simp at e
   exact ⟨_,e.1,hj⟩
 ·obtain ⟨⟨n,g1,g2⟩,g3⟩:=h.found hs
  exact ⟨⟨n,hS.terms hk g1,g2⟩,hS.own (by simp [Zcm]) hk g3⟩
theorem CSr.upd {w w':World} {b:Nat} {x x':CX} {cs:List Cls} {a:List (List Sym) × Names} {m m':SN} (h:CSr w b x cs a m) (hk:Kept (only b) w w') (hbox:w'.heap[b]?=some (.cells (x'.cells cs.length a.2.length m'.way.length m'.tries m'.status m'.tree) 112 (0,0))) (hx:x'.ca=x.ca∧x'.cc=x.cc∧x'.na=x.na∧x'.nc=x.nc)
  (hway:∃ ys,RowL w (.slice x'.wa m'.way.length x'.wc) m'.way.reverse ys) (hf:m'.status=1→(∃ n,TermsIn w (.slice x'.va x'.vl x'.vc) n.vals∧NOk n∧NNm n∧Same n m'.found)∧w.ownsRow 0 3 1 (.slice x'.fa x'.fl x'.fc) m'.found.used.length (ints m'.found.used)):CSr w' b x' cs a m':=by
 obtain ⟨xs,h1⟩:=h.prog
 obtain ⟨ys,h2⟩:=hway
 have hS:OffCode (only b) w:=fun k e=>by
  have e:k=b:=e
  subst e
  exact ⟨_,_,_,h.box,by simp [Zcm]⟩
 obtain ⟨e1,e2,e3,e4⟩:=hx
 refine ⟨hbox,⟨xs,by rw [e1,e2]; exact hS.prog hk h1⟩,by rw [e3,e4]; exact hS.own (by simp [Zcm]) hk h.names,⟨ys,h2.keep hk hS (fun k hj e => ?_)⟩,fun hs => ?_⟩
 ·have e:k=b:=e
  subst e
  rcases h2.owns.2 with ⟨e,_⟩ | ⟨g,cap,cur,e,_,hg,_⟩
  ·rw [e] at hj; simp [Value.ownBlock] at hj
  ·rw [e] at hj
   simp [Value.ownBlock] at hj
   subst hj
   rw [h.box] at hg
   simp at hg
 ·obtain ⟨⟨n,g1,g2⟩,g3⟩:=hf hs
  exact ⟨⟨n,hS.terms hk g1,g2⟩,hS.own (by simp [Zcm]) hk g3⟩
theorem CSr.off {w:World} {b:Nat} {x:CX} {cs:List Cls} {a:List (List Sym) × Names} {m:SN} (h:CSr w b x cs a m):OffCode (only b) w:=fun k e=>by
 have e:k=b:=e
 subst e
 exact ⟨_,_,_,h.box,by simp [Zcm]⟩
theorem CSr.upd' {w w':World} {b:Nat} {x x':CX} {cs:List Cls} {a:List (List Sym) × Names} {m m':SN} (h:CSr w b x cs a m) (hk:Kept (only b) w w') (hbox:w'.heap[b]?=some (.cells (x'.cells cs.length a.2.length m'.way.length m'.tries m'.status m'.tree) 112 (0,0))) (hx:x'.ca=x.ca∧x'.cc=x.cc∧x'.na=x.na∧x'.nc=x.nc)
  (hway:∃ ys,RowL w (.slice x'.wa m'.way.length x'.wc) m'.way.reverse ys) (hf:m'.status=1→(∃ n,TermsIn w' (.slice x'.va x'.vl x'.vc) n.vals∧NOk n∧NNm n∧Same n m'.found)∧w'.ownsRow 0 3 1 (.slice x'.fa x'.fl x'.fc) m'.found.used.length (ints m'.found.used)):CSr w' b x' cs a m':=by
 obtain ⟨xs,h1⟩:=h.prog
 obtain ⟨ys,h2⟩:=hway
 have hS:=h.off
 obtain ⟨e1,e2,e3,e4⟩:=hx
 refine ⟨hbox,⟨xs,by rw [e1,e2]; exact hS.prog hk h1⟩,by rw [e3,e4]; exact hS.own (by simp [Zcm]) hk h.names,⟨ys,h2.keep hk hS (fun k hj e => ?_)⟩,hf⟩
 have e:k=b:=e
 subst e
 rcases h2.owns.2 with ⟨e,_⟩ | ⟨g,cap,cur,e,_,hg,_⟩
 ·rw [e] at hj; simp [Value.ownBlock] at hj
 ·rw [e] at hj
  simp [Value.ownBlock] at hj
  subst hj
  rw [h.box] at hg
  simp at hg
def Zhk (w:World) (x x':CX):Prop:=(∀ k,(∃ p,x'.wa=some p∧p.block=k)→(∃ p,x.wa=some p∧p.block=k)∨w.heap.size≤k)∧x'.ca=x.ca∧x'.cc=x.cc∧x'.na=x.na∧x'.nc=x.nc
theorem Zlk {wa:Option Addr} {n c k:Nat}:(Value.slice wa n c).ownBlock=some k↔∃ p,wa=some p∧p.block=k:=by
 cases wa <;> simp [Value.ownBlock]
theorem CSr.offS {w:World} {b:Nat} {x:CX} {cs:List Cls} {a:List (List Sym) × Names} {m:SN} (h:CSr w b x cs a m):OffCode (ownS b x) w:=fun k hk=>by
 rcases hk with rfl | hk
 ·exact ⟨_,_,_,h.box,by simp [Zcm]⟩
 ·obtain ⟨ys,h2⟩:=h.way
  exact Zju h2.owns k (Zlk.2 hk)
theorem box8 {w:World} {b:Nat} {u0 u1 u2 u3 u4 u5 u6 u7:Value} {t:TypeId} (h:w.heap[b]?=some (.cells #[u0,u1,u2,u3,u4,u5,u6,u7] t (0,0))) :
  w.cell? ⟨b,0,none⟩=some u0∧w.cell? ⟨b,1,none⟩=some u1∧w.cell? ⟨b,2,none⟩=some u2∧w.cell? ⟨b,3,none⟩=some u3∧w.cell? ⟨b,4,none⟩=some u4∧w.cell? ⟨b,5,none⟩=some u5∧w.cell? ⟨b,6,none⟩=some u6∧w.cell? ⟨b,7,none⟩=some u7∧∀ i,w.frozen? ⟨b,i,none⟩=false :=
 ⟨Zaa h 0 _ rfl,Zaa h 1 _ rfl,Zaa h 2 _ rfl,Zaa h 3 _ rfl,Zaa h 4 _ rfl,Zaa h 5 _ rfl,Zaa h 6 _ rfl,Zaa h 7 _ rfl,fun i=>Zad h i⟩
theorem Ygf {way:List (ND × Nat)} {i:Nat} {d:ND × Nat} (h:way.reverse[i]?=some d):(Zgj way)[i]?=some (d.2 - 1):=by
 unfold Zgj
 rw [← List.map_reverse,Qj,h]
 rfl
theorem Zrr (w:World) (b:Nat) (wa:Option Addr) (wc:Nat) (way:List (ND × Nat)) (ys:List Value) (hb2:w.cell? ⟨b,2,none⟩=some (.slice wa way.length wc)) (hW:RowL w (.slice wa way.length wc) way.reverse ys) (hw:way.length≤200000) (hk:∀ y ∈ way,1≤y.2∧y.2≤4000) :
  Calls Tryz.prog 75 #[.pointer (some ⟨b,0,none⟩)] w fun e w'=>∃ fa fc,e = .returned (.slice fa way.length fc)∧Ext w w'∧w'.ownsRow w.heap.size 3 1 (.slice fa way.length fc) way.length (ints (Zgj way)):=by
 have hbl:b<w.heap.size:=World.block_lt_of_cell? w ⟨b,2,none⟩ hb2
 obtain ⟨L,hL⟩:∃ L,L=way.length:=⟨_,rfl⟩
 rw [← hL] at hW hb2 hw ⊢
 have hul:(Zgj way).length=L:=by rw [hL]; simp [Zgj]
 have HW:=Zac hW
 have Hul:=Zac hul
 have Hk:=Zac hk
 have HL:=Zac hL
 clear hW hul hk hL
 go_enter Tryz.func75,Tryz.ntmps75
 go_wp2
 go_loopg [3,11] (L+1) (fun gk nv iv wr=>∃ (i:Nat) (ga:Option Addr) (gc:Nat),nv = .slice ga i gc∧iv = .int .i64 i∧i≤L∧L - i<gk∧Ext w wr∧wr.ownsRow w.heap.size 3 1 (.slice ga i gc) i (ints ((Zgj way).take i)))
 case atStart=>exact ⟨0,none,0,rfl,by go_num,by omega,by omega,Ext.of (Qx _ _),by simpa [ints] using World.ownsRow_nil w w.heap.size 3 1⟩
 case round =>
  obtain ⟨i,ga,gc,rfl,rfl,hi,hgk,hE,hrow⟩:=hrel
  have hs:=hE.size
  have HE:=Zac hE
  have Hrow:=Zac hrow
  clear hE hrow
  by_cases hlt:i<L
  ·obtain ⟨d,hd⟩:∃ d,way.reverse[i]?=some d:=⟨_,Qb (by rw [List.length_reverse,← HL.out]; exact hlt)⟩
   have hu:=Ygf hd
   have hdm:d ∈ way:=List.mem_reverse.1 (Qh hd)
   obtain ⟨hd1,hd2⟩:=Hk.out d hdm
   obtain ⟨x0,x1,x2,x3,y0,y1,y2,y3,y4,hnode⟩:=HW.out.all i d hd
   obtain ⟨ga',gc',va',vl',vc',ra',rl',rc',u',rfl,rfl,rfl,rfl,hu'⟩:=hnode.shape
   have ho:=HW.out.owns
   rw [List.length_reverse,← HL.out] at ho
   obtain ⟨wb,wcap,wcur,hwe,_,hwb,_⟩:=Zao ho (by omega)
   simp only [Value.slice.injEq] at hwe
   obtain ⟨rfl,_,rfl⟩:=hwe
   have hwl:=Zab hwb
   have c0:=(HE.out.cell (p:=⟨wb,i * 5,none⟩) hwl).trans (Zag ho _ _ y0)
   have c1:=(HE.out.cell (p:=⟨wb,i * 5+1,none⟩) hwl).trans (Zag ho _ _ y1)
   have c2:=(HE.out.cell (p:=⟨wb,i * 5+2,none⟩) hwl).trans (Zag ho _ _ y2)
   have c3:=(HE.out.cell (p:=⟨wb,i * 5+3,none⟩) hwl).trans (Zag ho _ _ y3)
   have c4:=(HE.out.cell (p:=⟨wb,i * 5+4,none⟩) hwl).trans (Zag ho _ _ y4)
   obtain ⟨W1,hW1⟩:∃ W1,W1=wr.alloc (.cells #[.slice ga' d.1.goals.length gc',.slice va' vl' vc',.slice ra' rl' rc',.int .i64 u',.int .i64 d.2] 135):=⟨_,rfl⟩
   have hE1:Ext wr W1:=by rw [hW1]; exact (Ext.of (by repeat' (first | with_reducible(first|exact Qx _ _|apply Kept.drew|apply Kept.drewN|apply Qz|refine Qy ?_ ?_ _)|exact fun h=>absurd h (by simp <;> omega))))
   have Hrow1:=Zac (Zai Hrow.out (fun k hk=>hE1.block k (Hrow.out.lt k hk).2))
   have hs1:W1.heap.size=wr.heap.size+1:=by rw [hW1]; simp
   have Htk:Hid (ints ((Zgj way).take (i+1))=ints ((Zgj way).take i)++[.int .i64 ((d.2:Int) - 1)]):=by
    show _=_
    rw [List.take_add_one,hu]
    simp [ints]
    omega
   have HE1:=Zac hE1
   have HW1:=Zac hW1
   have hd3:(-(2:Int) ^ 63≤(d.2:Int) - 1):=by omega
   clear hd hu hdm y0 y1 y2 y3 y4 hnode ho hwb hE1 hW1
   go_wp2_with (at_builtin; rw [← HW1.out]; go_loud (refine Zal W1 rfl (.tmp 15) (.tmp 19) 25 rfl w.heap.size 3 Tryz.infoInt Tryz.underlying25 rfl (by decide) (.slice ga i gc) i (ints ((Zgj way).take i)) rfl Hrow1.out #[.int .i64 ((d.2:Int) - 1)] rfl (by omega) rfl (Zhn _) ?_ ?_ ?_))
   ·omega
   ·omega
   intro v' w2 hap
   obtain ⟨ga2,gc2,rfl⟩:=Zae hap.owns
   have Hap:=Zac hap
   clear hap
   go_wp2
   go_roundg (L - i)
   case measure=>omega
   case rel =>
    refine ⟨i+1,ga2,gc2,rfl,by go_num,by omega,by omega,(HE.out.trans (HE1.out.mono hs)).trans (Hap.out.kept.below (by omega) (fun k e=>(Hrow1.out.lt k e).1)),?_⟩
    rw [Htk.out]
    exact Hap.out.owns
  ·have he:i=L:=by omega
   subst he
   have Hfin:Hid (ints ((Zgj way).take i)=ints (Zgj way)):=by
    show _=_
    rw [List.take_of_length_le (by rw [Hul.out]; omega)]
   go_wp2
   go_ret
   exact ⟨ga,gc,rfl,HE.out,by rw [← Hfin.out]; exact Hrow.out⟩
set_option maxHeartbeats 8000000 in
theorem Zuf (w:World) (b:Nat) (x:CX) (cs:List Cls) (a:List (List Sym) × Names) (m:SN) (h:CSr w b x cs a m) (hw:m.way.length≤200000) (hk:∀ y ∈ m.way,y.2≤4000) (hcl:cs.length≤24) (hT:m.tree.length+m.way.length≤200000) :
  Calls Tryz.prog 53 #[.pointer (some ⟨b,0,none⟩)] w fun e w'=>e = .returned (.tuple #[])∧Kept (only b) w w'∧CSr w' b x cs a (Zdc cs m):=by
 have hbx:=h.box
 obtain ⟨ca,cc,na,nc,wa,wc,va,vl,vc,fa,fl,fc⟩:=x
 simp only [CX.cells] at hbx
 obtain ⟨b0,b1,b2,b3,b4,b5,b6,b7,bf⟩:=box8 hbx
 have H:=Zac h
 have Hk:=Zac hk
 have HT:=Zac hT
 have hbl:=Zab hbx
 clear h hbx hk hT
 go_enter Tryz.func53,Tryz.ntmps53
 go_wp2
 go_loopg [2] (m.way.length+1) (fun gk lv wr=>∃ (way':List (ND × Nat)) (T':List UInt8),way'.length<gk∧lv = .int .i64 ((way'.length:Int) - 1)∧Zdr cs way' T'=Zdr cs m.way m.tree∧T'.length+way'.length≤200000∧way'.length≤200000∧(∀ y ∈ way',y.2≤4000)∧Kept (only b) w wr∧CSr wr b ⟨ca,cc,na,nc,wa,wc,va,vl,vc,fa,fl,fc⟩ cs a { m with way:=way',tree:=T' })
 case atStart=>exact ⟨m.way,m.tree,by omega,rfl,rfl,HT.out,hw,Hk.out,Qx _ _,H.out⟩
 case round =>
  clear b0 b1 b2 b3 b4 b5 b6 b7 bf
  obtain ⟨way',T',hgk,hlv,hlw,hT,hwl,hk',hK,hC⟩:=hrel
  have hbx:=hC.box
  simp only [CX.cells] at hbx
  obtain ⟨b0,b1,b2,b3,b4,b5,b6,b7,bf⟩:=box8 hbx
  have hbl':=Zab hbx
  cases hw':way' with
  | nil =>
   have hlv':u2 = .int .i64 (-1):=by rw [hlv,hw']; rfl
   subst hlv'
   have Hfin:Hid (∀ u,Kept (only b) wr u→(∀ k,u.heap[k]?=wr.heap[k]?)→Kept (only b) w u∧CSr u b ⟨ca,cc,na,nc,wa,wc,va,vl,vc,fa,fl,fc⟩ cs a (Zdc cs m)):=fun u hu he=>by
    refine ⟨hK.trans hu,?_⟩
    have e:Zdc cs m = { m with way:=way',tree:=T' }:=by
     unfold Zdc
     rw [← hlw,hw']
     rfl
    rw [e]
    exact hC.ext ⟨hu.os,hu.tape,hu.output,hu.size,fun k _=>he k⟩
   clear hC hbx hK hlw hk' hlv hw' hgk hwl hT
   go_wp2_with fail
   go_quiet (fail)
   go_wp2
   go_end0
   exact ⟨rfl,Hfin.out _ ((Qx _ wr).drewN _) (fun _=>rfl)⟩
  | cons y r =>
   obtain ⟨yn,yk⟩:=y
   have hlv':u2 = .int .i64 (r.length:Int):=by rw [hlv,hw']; simp
   subst hlv'
   subst hw'
   simp only [Qf] at b2 hgk hwl hT
   obtain ⟨ys,hrow⟩:=hC.way
   simp only [List.reverse_cons,Qf] at hrow
   have ho:=hrow.owns
   rw [Qg,List.length_reverse,Qn] at ho
   obtain ⟨wb,wcap,wcur,hwe,_,hwb,_⟩:=Zao ho (by omega)
   simp only [Value.slice.injEq] at hwe
   obtain ⟨rfl,_,rfl⟩:=hwe
   obtain ⟨x0,x1,x2,x3,y0,y1,y2,y3,y4,hnode⟩:=hrow.all r.length (yn,yk) (by rw [Qd (by simp)]; simp)
   have c4:=Zag ho _ _ y4
   simp only at c4
   have hyk:=hk' (yn,yk) (by simp)
   simp only at hyk
   have hwbl:=Zab hwb
   by_cases hN:cs.length≤yk
   ·have hN':(cs.length:Int)≤(yk:Int):=by omega
    have hpop:=hrow.pop List.length_reverse
    have Hstr:=Zac (Zbi T' [41])
    have Hbx:=Zac hbx
    have Hnext:Hid (∀ u,Kept (only b) wr u→u.heap[b]?=some (.cells #[.slice ca cs.length cc,.slice na a.2.length nc,.slice (some ⟨wb,0,none⟩) r.length wc,.int .i64 m.tries,.int .i64 m.status,.slice va vl vc,.slice fa fl fc,.string ⟨(T'++[41]).toArray⟩] 112 (0,0))→Kept (only b) w u∧CSr u b ⟨ca,cc,na,nc,some ⟨wb,0,none⟩,wc,va,vl,vc,fa,fl,fc⟩ cs a { m with way:=r,tree:=T'++[41] }):=fun u hu hb=>⟨hK.trans hu,hC.upd hu hb ⟨rfl,rfl,rfl,rfl⟩ ⟨_,hpop⟩ hC.found⟩
    have Hlw:Hid (Zdr cs r (T'++[41])=Zdr cs m.way m.tree):=by
     have h1:=hlw
     simp only [Zdr] at h1
     rw [if_pos hN] at h1
     exact h1
    have Hk2:Hid (∀ y ∈ r,y.2≤4000):=fun y hy=>hk' y (by simp [hy])
    clear hC hbx hK hlw hk' hlv hrow ho y0 y1 y2 y3 y4 hnode hwb hpop hN
    go_wp2_with fail
    go_quiet (fail)
    go_wp2
    go_roundg (r.length+1)
    case measure=>omega
    case rel =>
     obtain ⟨g1,g2⟩:=Hnext.out _ ((((Qx (only b) wr).drewN _).put 7 _).put 2 _) (Zaf (Zaf (w:=wr.drewN _) Hbx.out 7 _) 2 _)
     exact ⟨r,T'++[41],by omega,rfl,Hlw.out,by simp; omega,by omega,Hk2.out,g1,g2⟩
   ·have hN':¬ (cs.length:Int)≤(yk:Int):=by omega
    have Hfin:Hid (∀ u,Kept (only b) wr u→(∀ k,u.heap[k]?=wr.heap[k]?)→Kept (only b) w u∧CSr u b ⟨ca,cc,na,nc,some ⟨wb,0,none⟩,wc,va,vl,vc,fa,fl,fc⟩ cs a (Zdc cs m)):=fun u hu he=>by
     refine ⟨hK.trans hu,?_⟩
     have e:Zdc cs m = { m with way:=(yn,yk)::r,tree:=T' }:=by
      unfold Zdc
      rw [← hlw]
      simp only [Zdr]
      rw [if_neg hN]
     rw [e]
     exact hC.ext ⟨hu.os,hu.tape,hu.output,hu.size,fun k _=>he k⟩
    clear hC hbx hK hlw hk' hlv hrow ho y0 y1 y2 y3 y4 hnode hwb hN
    go_wp2_with fail
    go_quiet (fail)
    go_wp2
    go_end0
    exact ⟨rfl,Hfin.out _ ((Qx _ wr).drewN _) (fun _=>rfl)⟩
theorem Tryz.infoLevel:(Tryz.prog.info? 135).map (fun i=>(i.zero,i.size,i.bytes))=some (some (.agg #[.slice none 0 0,.slice none 0 0,.slice none 0 0,.int .i64 0,.int .i64 0]),5,88):=by kernel_rfl
theorem Zug {a0 a1 a2:Option Addr} {l0 l1 l2 c0 c1 c2:Nat} {v k:Int}:∀ u ∈ (#[Value.slice a0 l0 c0,.slice a1 l1 c1,.slice a2 l2 c2,.int .i64 v,.int .i64 k]:Array Value).toList,u.oneCell'=true:=by
 intro u hu
 simp at hu
 rcases hu with rfl | rfl | rfl | rfl | rfl <;> rfl
theorem Ybp (w:World) (b:Nat) (x:CX) (cs:List Cls) (a:List (List Sym) × Names) (m:SN) (gv vv rv uv:Value) (n:ND) (h:CSr w b x cs a m) (hn:CNode w gv vv rv uv n) (hw:m.way.length≤200000) (hg:n.goals=[]) (hu:n.used=Zgj m.way) (hk:∀ y ∈ m.way,1≤y.2∧y.2≤4000) (hT:m.tree.length≤200000) :
  Calls Tryz.prog 52 #[.pointer (some ⟨b,0,none⟩),.agg #[gv,vv,rv,uv]] w fun e w'=>e = .returned (.tuple #[])∧∃ x',Kept (ownS b x) w w'∧CSr w' b x' cs a (Zcd m n)∧Zhk w x x':=by
 obtain ⟨n1,hN,hU,hOk,hNm,hFw,hS⟩:=hn
 obtain ⟨ga,gc,va',vl',vc',ra,rl,rc,u,rfl,rfl,rfl,rfl,hu4⟩:=CNode.shape ⟨n1,hN,hU,hOk,hNm,hFw,hS⟩
 have hbx:=h.box
 obtain ⟨ca,cc,na,nc,wa,wc,va,vl,vc,fa,fl,fc⟩:=x
 simp only [CX.cells] at hbx
 obtain ⟨b0,b1,b2,b3,b4,b5,b6,b7,bf⟩:=box8 hbx
 have hbl:=Zab hbx
 obtain ⟨ys,hrow⟩:=h.way
 have Hstr:=Zac (Zbi m.tree [33])
 have hen:Zcd m n = { m with tree:=m.tree++[33],status:=1,found:=n }:=by unfold Zcd; rw [if_pos hg]
 have HTL:Hid (∀ y,Kept (only b) w y→y.heap[b]?=some (.cells #[.slice ca cs.length cc,.slice na a.2.length nc,.slice wa m.way.length wc,.int .i64 m.tries,.int .i64 1,.slice va' vl' vc',.slice fa fl fc,.string ⟨(m.tree++[33]).toArray⟩] 112 (0,0))→Calls Tryz.prog 75 #[.pointer (some ⟨b,0,none⟩)] y fun e y'=>∃ fa' fc',e = .returned (.slice fa' m.way.length fc')∧Kept (only b) w y'∧y'.heap[b]?=some (.cells #[.slice ca cs.length cc,.slice na a.2.length nc,.slice wa m.way.length wc,.int .i64 m.tries,.int .i64 1,.slice va' vl' vc',.slice fa fl fc,.string ⟨(m.tree++[33]).toArray⟩] 112 (0,0))∧y'.ownsRow 0 3 1 (.slice fa' m.way.length fc') m.way.length (ints (Zgj m.way))):=fun y hy hb=>by
  refine (Zrr y b wa wc m.way ys (Zaa hb 2 _ rfl) (hrow.keep hy h.off (fun k hj e => ?_)) hw hk).mono ?_
  ·have e:k=b:=e
   subst e
   rcases hrow.owns.2 with ⟨e,_⟩ | ⟨g,cap,cur,e,_,hg,_⟩
   ·rw [e] at hj; simp [Value.ownBlock] at hj
   ·rw [e] at hj
    simp [Value.ownBlock] at hj
    subst hj
    rw [hbx] at hg
    simp at hg
  ·rintro e y' ⟨fa',fc',rfl,hE,ho⟩
   exact ⟨fa',fc',rfl,hy.then (Kept.of_below hE) (fun i hi h=>by have:=hy.size; omega),(hE.block _ (Zab hb)).trans hb,Zbe ho (Qm _)⟩
 have Hfin:Hid (∀ y fa' fc',Kept (only b) w y→y.heap[b]?=some (.cells #[.slice ca cs.length cc,.slice na a.2.length nc,.slice wa m.way.length wc,.int .i64 m.tries,.int .i64 1,.slice va' vl' vc',.slice fa fl fc,.string ⟨(m.tree++[33]).toArray⟩] 112 (0,0))→y.ownsRow 0 3 1 (.slice fa' m.way.length fc') m.way.length (ints (Zgj m.way))→∃ x',Kept (ownS b ⟨ca,cc,na,nc,wa,wc,va,vl,vc,fa,fl,fc⟩) w (y.setCell ⟨b,6,none⟩ (.slice fa' m.way.length fc'))∧CSr (y.setCell ⟨b,6,none⟩ (.slice fa' m.way.length fc')) b x' cs a (Zcd m n)∧Zhk w ⟨ca,cc,na,nc,wa,wc,va,vl,vc,fa,fl,fc⟩ x'):=fun y fa' fc' hy hb ho=>by
  have hk2:Kept (only b) w (y.setCell ⟨b,6,none⟩ (.slice fa' m.way.length fc')):=hy.put 6 _
  have hoff:OffCode (only b) y:=fun k e=>by
   have e:k=b:=e
   subst e
   exact ⟨_,_,_,hb,by simp [Zcm]⟩
  have hk3:Kept (only b) y (y.setCell ⟨b,6,none⟩ (.slice fa' m.way.length fc')):=(Qx _ _).put 6 _
  refine ⟨⟨ca,cc,na,nc,wa,wc,va',vl',vc',fa',m.way.length,fc'⟩,hk2.mono (fun i hi e=>Or.inl e),?_,⟨fun k hk=>Or.inl hk,rfl,rfl,rfl,rfl⟩⟩
  rw [hen]
  refine h.upd' hk2 (Zaf hb 6 _) ⟨rfl,rfl,rfl,rfl⟩ ⟨ys,hrow⟩ (fun _=>⟨⟨n1,h.off.terms hk2 hN.vals,hOk,hNm,hS⟩,?_⟩)
  have hl:n.used.length=m.way.length:=by rw [hu]; simp [Zgj]
  show World.ownsRow _ 0 _ 1 _ n.used.length (ints n.used)
  rw [hl,hu]
  exact hoff.own (by simp [Zcm]) hk3 ho
 have Hbx:=Zac hbx
 rw [hg]
 clear h hN hrow hbx hk hu hen hS hOk hNm hFw hU
 go_enter Tryz.func52,Tryz.ntmps52
 go_wp2_with fail
 refine (HTL.out _ (by repeat (first | exact Qx _ _ | apply Qz | apply Kept.put | apply Kept.drew)) (Zau (by rw [← Hstr.out]; exact Zaf (Zaf (Zaf Hbx.out 7 _) 4 _) 5 _) _)).mono ?_
 rintro e w3 ⟨fa',fc',rfl,hK3,hb3,ho3⟩
 have c6:=Zaa hb3 6 _ rfl
 have cf:=fun i=>Zad hb3 i
 have H3:=Zac (Hfin.out w3 fa' fc' hK3 hb3 ho3)
 have hbl3:=Zab hb3
 clear hK3 hb3 ho3 b0 b1 b2 b3 b4 b5 b6 b7 bf
 go_wp2
 go_end0
 exact ⟨rfl,H3.out⟩
theorem Zpx (w:World) (b:Nat) (x:CX) (cs:List Cls) (a:List (List Sym) × Names) (m:SN) (gv vv rv uv:Value) (n:ND) (h:CSr w b x cs a m) (hn:CNode w gv vv rv uv n) (hw:m.way.length≤200000) (hg:n.goals≠[]) (hT:m.tree.length≤200000) :
  Calls Tryz.prog 52 #[.pointer (some ⟨b,0,none⟩),.agg #[gv,vv,rv,uv]] w fun e w'=>e = .returned (.tuple #[])∧∃ x',Kept (ownS b x) w w'∧CSr w' b x' cs a (Zcd m n)∧Zhk w x x':=by
 obtain ⟨ga,gc,va',vl',vc',ra,rl,rc,u,rfl,rfl,rfl,rfl,hu4⟩:=hn.shape
 have hgl:0<n.goals.length:=List.length_pos_iff.2 hg
 obtain ⟨z,hz⟩:∃ z,z=n.goals.length:=⟨_,rfl⟩
 rw [← hz] at hgl hn ⊢
 have hbx:=h.box
 obtain ⟨ca,cc,na,nc,wa,wc,va,vl,vc,fa,fl,fc⟩:=x
 simp only [CX.cells] at hbx
 obtain ⟨b0,b1,b2,b3,b4,b5,b6,b7,bf⟩:=box8 hbx
 have hbl:=Zab hbx
 obtain ⟨ys,hrow⟩:=h.way
 obtain ⟨L,hL⟩:∃ L,L=m.way.length:=⟨_,rfl⟩
 have ho:=hrow.owns
 rw [List.length_reverse] at ho
 simp only [← hL] at b2 ho hw
 have Hstr:=Zac (Zbi m.tree [40])
 have hen:Zcd m n = { m with way:=(n,0)::m.way,tree:=m.tree++[40] }:=by unfold Zcd; rw [if_neg hg]
 have HL:=Zac hL
 have Hbx:=Zac hbx
 have H:=Zac h
 have Hn:=Zac hn
 have Hrow:=Zac hrow
 have Ho:=Zac ho
 have Hen:=Zac hen
 have hzi:(0:Int)<(z:Int):=by omega
 clear h hn hrow ho hbx hen hg hz hL
 go_enter Tryz.func52,Tryz.ntmps52
 go_wp2_with fail
 obtain ⟨U,hU⟩:∃ U,U=(w.setCell ⟨b,7,none⟩ (.string (⟨m.tree.toArray⟩++⟨#[40]⟩))).alloc (.cells #[.slice ga z gc,.slice va' vl' vc',.slice ra rl rc,.int .i64 u] 87):=⟨_,rfl⟩
 rw [← hU]
 have hKU:Kept (only b) w U:=by rw [hU]; exact ((Qx _ _).put 7 _).alloc _
 have hbU:U.heap[b]?=some (.cells #[.slice ca cs.length cc,.slice na a.2.length nc,.slice wa L wc,.int .i64 m.tries,.int .i64 m.status,.slice va vl vc,.slice fa fl fc,.string ⟨(m.tree++[40]).toArray⟩] 112 (0,0)):=by rw [hU,← Hstr.out,HL.out]; exact Zau (Zaf Hbx.out 7 _) _
 have hnU:U.heap[w.heap.size]?=some (.cells #[.slice ga z gc,.slice va' vl' vc',.slice ra rl rc,.int .i64 u] 87 (0,0)):=by rw [hU]; exact Zdm (by simp) _
 have hsU:U.heap.size=w.heap.size+1:=by rw [hU]; simp
 have hap0:∀ k,(Value.slice wa L wc).ownBlock=some k→k≠b:=fun k hj e=>by
  subst e
  rcases Ho.out.2 with ⟨e,_⟩ | ⟨g,cap,cur,e,_,hg,_⟩
  ·rw [e] at hj; simp [Value.ownBlock] at hj
  ·rw [e] at hj
   simp [Value.ownBlock] at hj
   subst hj
   rw [Hbx.out] at hg
   simp at hg
 have hrU:=Hrow.out.keep hKU H.out.off (fun k hj e=>hap0 k (by rw [HL.out]; exact hj) e)
 have hoU:U.ownsRow 0 135 5 (.slice wa L wc) L ys:=by
  have:=hrU.owns
  rw [List.length_reverse,← HL.out] at this
  exact this
 have Hfin:Hid (∀ w2 wa2 wc2,Appended (U.drewN 1) 0 135 5 (.slice wa L wc) (L+1) (ys++[.slice ga z gc,.slice va' vl' vc',.slice ra rl rc,.int .i64 u,.int .i64 0]) (.slice wa2 (L+1) wc2) w2→w2.heap[b]?=some (.cells #[.slice ca cs.length cc,.slice na a.2.length nc,.slice wa L wc,.int .i64 m.tries,.int .i64 m.status,.slice va vl vc,.slice fa fl fc,.string ⟨(m.tree++[40]).toArray⟩] 112 (0,0))∧∃ x',Kept (ownS b ⟨ca,cc,na,nc,wa,wc,va,vl,vc,fa,fl,fc⟩) w (w2.setCell ⟨b,2,none⟩ (.slice wa2 (L+1) wc2))∧CSr (w2.setCell ⟨b,2,none⟩ (.slice wa2 (L+1) wc2)) b x' cs a (Zcd m n)∧Zhk w ⟨ca,cc,na,nc,wa,wc,va,vl,vc,fa,fl,fc⟩ x'):=fun w2 wa2 wc2 hap=>by
  have hb2:w2.heap[b]?=_:=(hap.kept.block b (by show b<U.heap.size; omega) (fun e=>hap0 b e rfl)).trans hbU
  refine ⟨hb2,?_⟩
  have hK2:Kept (Zbn (.slice wa L wc)) U w2:=⟨hap.kept.os,hap.kept.tape,hap.kept.output,hap.kept.size,hap.kept.block⟩
  have hK3:Kept (only b) w2 (w2.setCell ⟨b,2,none⟩ (.slice wa2 (L+1) wc2)):=(Qx _ _).put 2 _
  have hK:Kept (ownS b ⟨ca,cc,na,nc,wa,wc,va,vl,vc,fa,fl,fc⟩) w (w2.setCell ⟨b,2,none⟩ (.slice wa2 (L+1) wc2)):=((hKU.mono (fun i _ e=>Or.inl e)).trans ((hK2.mono (fun i _ e=>Or.inr (Zlk.1 e))):Kept (ownS b ⟨ca,cc,na,nc,wa,wc,va,vl,vc,fa,fl,fc⟩) U w2)).trans (hK3.mono (fun i _ e=>Or.inl e))
  have hS:=H.out.offS
  obtain ⟨xs,hP⟩:=H.out.prog
  have hR2:RowL w2 (.slice wa2 (L+1) wc2) (m.way.reverse++[(n,0)]) _:=hrU.step (k:=0) (Hn.out.keep hKU H.out.off) ⟨by rw [List.length_reverse,← HL.out]; exact hap.owns,by rw [← HL.out]; exact hK2,by rw [← HL.out]; exact hap.where_⟩
  have hoff2:OffCode (only b) w2:=fun k e=>by
   have e:k=b:=e
   subst e
   exact ⟨_,_,_,hb2,by simp [Zcm]⟩
  have hR3:=hR2.keep hK3 hoff2 (fun k hj e=>by
   have e:k=b:=e
   subst e
   rcases hR2.owns.2 with ⟨e,_⟩ | ⟨g,cap,cur,e,_,hg,_⟩
   ·rw [e] at hj; simp [Value.ownBlock] at hj
   ·rw [e] at hj
    simp [Value.ownBlock] at hj
    subst hj
    rw [hb2] at hg
    simp at hg)
  refine ⟨⟨ca,cc,na,nc,wa2,wc2,va,vl,vc,fa,fl,fc⟩,hK,?_,⟨fun k hk => ?_,rfl,rfl,rfl,rfl⟩⟩
  ·rw [Hen.out]
   refine ⟨?_,⟨xs,hS.prog hK hP⟩,hS.own (by simp [Zcm]) hK H.out.names,⟨ys++[.slice ga z gc,.slice va' vl' vc',.slice ra rl rc,.int .i64 u,.int .i64 ((0:Nat):Int)],?_⟩,fun hs => ?_⟩
   ·simp only [CX.cells,Qf]
    rw [← HL.out]
    exact Zaf hb2 2 _
   ·simp only [List.reverse_cons,Qf]
    rw [← HL.out]
    exact hR3
   ·obtain ⟨⟨n',g1,g2⟩,g3⟩:=H.out.found hs
    exact ⟨⟨n',hS.terms hK g1,g2⟩,hS.own (by simp [Zcm]) hK g3⟩
  ·have hj:(Value.slice wa2 (L+1) wc2).ownBlock=some k:=Zlk.2 hk
   rcases hap.where_ with e | ⟨g,e,hg⟩
   ·rw [e] at hj
    exact Or.inl (Zlk.1 hj)
   ·rw [e] at hj
    simp at hj
    subst hj
    exact Or.inr (by have:U.heap.size≤g:=hg; omega)
 have HoU:=Zac hoU
 have c2:=Zaa hbU 2 _ rfl
 have cf:=fun i=>Zad hbU i
 have k0:=Zaa hnU 0 _ rfl
 have k1:=Zaa hnU 1 _ rfl
 have k2:=Zaa hnU 2 _ rfl
 have k3:=Zaa hnU 3 _ rfl
 clear hU hKU hbU hnU hap0 hrU hoU b0 b1 b2 b3 b4 b5 b6 b7 bf
 go_region_law (refine Zcs (U.drewN 1) rfl (.tmp 19) (.tmp 22) 110 rfl 0 135 Tryz.infoLevel Tryz.underlying110 rfl (by decide) (.slice wa L wc) L ys rfl HoU.out #[.slice ga z gc,.slice va' vl' vc',.slice ra rl rc,.int .i64 u,.int .i64 0] rfl (by show _=U.heap.size; omega) rfl Zug (by omega) (by omega) rfl ?_; intro v' w2 hap; obtain ⟨wa2,wc2,rfl⟩:=Zae hap.owns; obtain ⟨hb2,hfin⟩:=Hfin.out _ _ _ hap; have d2:=Zaa hb2 2 _ rfl; have df:=fun i=>Zad hb2 i; have H2:=Zac hfin; clear hap hb2 hfin)
 all_goals
  go_wp2
  (try simp only [Exit.inBlock,Exit.then])
  refine bodyPost_ret (results_none rfl _ _ _) rfl ?_
  exact ⟨rfl,H2.out⟩
theorem RowL.bump {w:World} {wb cap:Nat} {ds:List (ND × Nat)} {n:ND} {k:Nat} {xs:List Value} (h:RowL w (.slice (some ⟨wb,0,none⟩) (ds.length+1) cap) (ds++[(n,k)]) xs) (k':Nat) :
  RowL (w.setCell ⟨wb,ds.length * 5+4,none⟩ (.int .i64 k')) (.slice (some ⟨wb,0,none⟩) (ds.length+1) cap) (ds++[(n,k')]) (xs.set (ds.length * 5+4) (.int .i64 k')):=by
 have ho:=h.owns
 have hxl:=ho.1
 rw [Qg,Qn] at ho hxl
 have hS:=Zju ho
 have hk:=Zih w wb (ds.length+1) cap (ds.length * 5+4) (.int .i64 k')
 refine ⟨by rw [Qg,Qn]; exact Zjy ho _ _,fun i d hd => ?_⟩
 rcases Nat.lt_or_ge i ds.length with hi | hi
 ·rw [Qc hi] at hd
  obtain ⟨p0,p1,p2,p3,y0,y1,y2,y3,y4,g⟩:=h.all i d (by rw [Qc hi]; exact hd)
  exact ⟨p0,p1,p2,p3,by rw [List.getElem?_set_ne (by omega)]; exact y0,by rw [List.getElem?_set_ne (by omega)]; exact y1,by rw [List.getElem?_set_ne (by omega)]; exact y2,by rw [List.getElem?_set_ne (by omega)]; exact y3,by rw [List.getElem?_set_ne (by omega)]; exact y4,g.keep hk hS⟩
 ·have e:i=ds.length:=by
   have:=(Qa.1 hd).1
   simp at this; omega
  subst e
  rw [Qd (Qe _)] at hd
  simp at hd
  subst hd
  obtain ⟨p0,p1,p2,p3,y0,y1,y2,y3,y4,g⟩:=h.all ds.length (n,k) (by rw [Qd (Qe _)]; simp)
  exact ⟨p0,p1,p2,p3,by rw [List.getElem?_set_ne (by omega)]; exact y0,by rw [List.getElem?_set_ne (by omega)]; exact y1,by rw [List.getElem?_set_ne (by omega)]; exact y2,by rw [List.getElem?_set_ne (by omega)]; exact y3,by rw [List.getElem?_set_self (by omega)],g.keep hk hS⟩
theorem CSr.bump {w:World} {b wb:Nat} {x:CX} {cs:List Cls} {a:List (List Sym) × Names} {m:SN} {n:ND} {k:Nat} {r:List (ND × Nat)} (h:CSr w b x cs a m) (hw:m.way=(n,k)::r) (hx:x.wa=some ⟨wb,0,none⟩) :
  Kept (ownS b x) w ((w.setCell ⟨wb,r.length * 5+4,none⟩ (.int .i64 ((k+1:Nat):Int))).setCell ⟨b,3,none⟩ (.int .i64 ((m.tries+1:Nat):Int)))∧CSr ((w.setCell ⟨wb,r.length * 5+4,none⟩ (.int .i64 ((k+1:Nat):Int))).setCell ⟨b,3,none⟩ (.int .i64 ((m.tries+1:Nat):Int))) b x cs a { m with way:=(n,k+1)::r,tries:=m.tries+1 }:=by
 obtain ⟨ys,hrow⟩:=h.way
 obtain ⟨xs,hP⟩:=h.prog
 rw [hw,hx,Qf,List.reverse_cons] at hrow
 have hbx:=h.box
 have hne:wb≠b:=fun e=>by
  subst e
  rcases hrow.owns.2 with ⟨e,_⟩ | ⟨g,cap,cur,e,_,hg,_⟩
  ·simp at e
  ·simp at e
   obtain ⟨rfl,_⟩:=e
   rw [hbx] at hg
   simp at hg
 have hK1:Kept (Zbn (.slice (some ⟨wb,0,none⟩) (r.length+1) x.wc)) w (w.setCell ⟨wb,r.length * 5+4,none⟩ (.int .i64 ((k+1:Nat):Int))):=Zih w wb (r.length+1) x.wc _ _
 have hb1:(w.setCell ⟨wb,r.length * 5+4,none⟩ (.int .i64 ((k+1:Nat):Int))).heap[b]?=_:=(hK1.block b (Zab hbx) (fun e=>hne (by simpa [Zbn,Value.ownBlock] using e))).trans hbx
 have hK2:Kept (only b) (w.setCell ⟨wb,r.length * 5+4,none⟩ (.int .i64 ((k+1:Nat):Int))) _:=(Qx (only b) _).put 3 (.int .i64 ((m.tries+1:Nat):Int))
 have hK:Kept (ownS b x) w ((w.setCell ⟨wb,r.length * 5+4,none⟩ (.int .i64 ((k+1:Nat):Int))).setCell ⟨b,3,none⟩ (.int .i64 ((m.tries+1:Nat):Int))):=(hK1.mono (fun i _ e=>Or.inr (by rw [hx]; exact Zlk.1 e))).trans (hK2.mono (fun i _ e=>Or.inl e))
 have hS:=h.offS
 have hR1:=RowL.bump (ds:=r.reverse) (n:=n) (k:=k) (xs:=ys) (by rw [List.length_reverse]; exact hrow) (k+1)
 rw [List.length_reverse] at hR1
 have hoff1:OffCode (only b) (w.setCell ⟨wb,r.length * 5+4,none⟩ (.int .i64 ((k+1:Nat):Int))):=fun j e=>by
  have e:j=b:=e
  subst e
  exact ⟨_,_,_,hb1,by simp [Zcm]⟩
 have hR2:=hR1.keep hK2 hoff1 (fun j hj e=>by
  have e:j=b:=e
  subst e
  exact hne (by simpa [Value.ownBlock] using hj))
 refine ⟨hK,(by have:=Zaf hb1 3 (.int .i64 ((m.tries+1:Nat):Int)); rw [hw] at this; exact this),⟨xs,hS.prog hK hP⟩,hS.own (by simp [Zcm]) hK h.names,⟨_,by rw [hx]; simp only [List.reverse_cons,Qf]; exact hR2⟩,fun hs => ?_⟩
 obtain ⟨⟨n',g1,g2⟩,g3⟩:=h.found hs
 exact ⟨⟨n',hS.terms hK g1,g2⟩,hS.own (by simp [Zcm]) hK g3⟩
def TreePh (W:World) (b:Nat) (T X:List UInt8):List Value→World→Prop
 | [],y=>y=W
 | [v],y=>y=W∧v = .string ⟨X.toArray⟩
 | [v,_],y=>v = .string ⟨X.toArray⟩∧y=W.setCell ⟨b,7,none⟩ (.string ⟨(T++X).toArray⟩)
 | _,_=>False
theorem TreePh.at {W:World} {b:Nat} {T X:List UInt8} {vs:List Value} {y:World} (h:TreePh W b T X vs y):(vs.length≤1→y=W)∧(1≤vs.length→vs.getD 0 undef = .string ⟨X.toArray⟩):=by
 match vs,h with
 | [],h=>exact ⟨fun _=>h,fun h=>by simp at h⟩
 | [v],h=>exact ⟨fun _=>h.1,fun _=>by simpa using h.2⟩
 | [v,v'],h=>exact ⟨fun h=>by simp at h,fun _=>by simpa using h.1⟩
theorem Zwp (w:World) (b:Nat) (x:CX) (cs:List Cls) (a:List (List Sym) × Names) (m:SN) (h:CSr w b x cs a m) (hI:InvN cs a m) (h0:m.status=0) (hw:m.way≠[]) (ht:m.tries<3000) (hcs:∀ c ∈ cs,COk c∧CNm c) (hcf:∀ c ∈ cs,CFew c) (hcl:cs.length≤24) :
  Calls Tryz.prog 76 #[.pointer (some ⟨b,0,none⟩)] w fun e w'=>e = .returned (.tuple #[])∧∃ x',Kept (ownS b x) w w'∧CSr w' b x' cs a (Zat cs m)∧Zhk w x x':=by
 obtain ⟨n,k,r,c,hw1,hc,hg⟩:=hI.head hw
 have hkl:=(Qa.1 hc).1
 have hlen:=hI.len
 rw [hw1,Qf] at hlen
 have hrl:r.length+1≤100000:=by omega
 obtain ⟨xs,hP⟩:=h.prog
 obtain ⟨ys,hrow⟩:=h.way
 have hbx:=h.box
 obtain ⟨ca,cc,na,nc,wa,wc,va,vl,vc,fa,fl,fc⟩:=x
 simp only [CX.cells] at hbx hP hrow
 rw [hw1,Qf,List.reverse_cons] at hrow
 rw [hw1,Qf,h0] at hbx
 have ho:=hrow.owns
 rw [Qg,List.length_reverse,Qn] at ho
 obtain ⟨wb,wcap,wcur,hwe,_,hwb,hwcap⟩:=Zao ho (by omega)
 simp only [Value.slice.injEq] at hwe
 obtain ⟨rfl,_,rfl⟩:=hwe
 obtain ⟨x0,x1,x2,x3,y0,y1,y2,y3,y4,hnode⟩:=hrow.all r.length (n,k) (by rw [Qd (by simp)]; simp)
 obtain ⟨lb,lcap,lcur,hle,_,hlb,_⟩:=Zao hP.owns (by omega)
 simp only [Value.slice.injEq] at hle
 obtain ⟨rfl,_,rfl⟩:=hle
 obtain ⟨b0,b1,b2,b3,b4,b5,b6,b7,bf⟩:=box8 hbx
 have c4:=Zag ho _ _ y4
 simp only at c4
 have hwf:=fun i=>Zad hwb i
 have hbl:=Zab hbx
 have hwbl:=Zab hwb
 have hne:wb≠b:=fun e=>by
  subst e
  rw [hbx] at hwb
  simp at hwb
 have hne':b≠wb:=fun e=>hne e.symm
 have hki:¬ ((cs.length:Int)≤(k:Int)):=by omega
 have hgd:decide ((r.length:Int)<0)=false:=by rw [decide_eq_false_iff_not]; omega
 obtain ⟨tr,htr⟩:∃ x,x=m.tries:=⟨_,rfl⟩
 rw [← htr] at hbx b3
 have htr3:tr≤3000:=by omega
 have HI:=Zac hI
 have H:=Zac h
 have Hcs:=Zac hcs
 have Hcf:=Zac hcf
 have Hw1:=Zac hw1
 have Hc:=Zac hc
 have Hg:=Zac hg
 have H0:=Zac h0
 have Htr:=Zac htr
 have Ht:=Zac ht
 clear h hI hcs hcf hw1 hc hg h0 hw hP hrow ho hwb hlb hbx y0 y1 y2 y3 y4 hnode htr ht hlen
 go_enter Tryz.func76,Tryz.ntmps76
 go_wp2_with fail
 go_quiet (fail)
 go_wp2_with fail
 obtain ⟨W4,hW4⟩:∃ W4,W4=((w.drewN nq).setCell ⟨wb,r.length * 5+4,none⟩ (.int .i64 ((k:Int)+1))).setCell ⟨b,3,none⟩ (.int .i64 ((tr:Int)+1)):=⟨_,rfl⟩
 rw [← hW4]
 have hE0:Ext w (w.drewN nq):=Ext.of ((Qx _ w).drewN _)
 obtain ⟨hK4,hC4⟩:=(H.out.ext hE0).bump Hw1.out rfl
 rw [show ((k+1:Nat):Int)=(k:Int)+1 by omega,← Htr.out,show ((tr+1:Nat):Int)=(tr:Int)+1 by omega,← hW4] at hK4 hC4
 have hKw:Kept (ownS b ⟨some ⟨lb,0,none⟩,cc,na,nc,some ⟨wb,0,none⟩,wc,va,vl,vc,fa,fl,fc⟩) w W4:=((Qx _ w).drewN nq).trans hK4
 obtain ⟨M4,hM4⟩:∃ M4:SN,M4 = { m with way:=(n,k+1)::r,tries:=tr+1 }:=⟨_,rfl⟩
 rw [← hM4] at hC4
 have hbx4:=hC4.box
 rw [hM4] at hbx4
 simp only [CX.cells,Qf] at hbx4
 rw [H0.out] at hbx4
 clear b0 b1 b2 b3 b4 b5 b6 b7 bf c4 hwf
 obtain ⟨b0,b1,b2,b3,b4,b5,b6,b7,bf⟩:=box8 hbx4
 obtain ⟨ys4,hrow4⟩:=hC4.way
 rw [hM4] at hrow4
 simp only [Qf,List.reverse_cons] at hrow4
 have ho4:=hrow4.owns
 rw [Qg,List.length_reverse,Qn] at ho4
 obtain ⟨x0,x1,x2,x3,y0,y1,y2,y3,y4,hnode⟩:=hrow4.all r.length (n,k+1) (by rw [Qd (by simp)]; simp)
 obtain ⟨n1,hN1,rfl,hOk,hNm,hFw,hSm⟩:=hnode
 obtain ⟨ga,gcap,rfl⟩:=hN1.goals.shape
 obtain ⟨va',vcap',rfl⟩:=hN1.vals.shape
 obtain ⟨ra',rcap',rfl⟩:=hN1.done.shape
 simp only [Ql] at hN1 y0 y1 y2
 have c0:=Zag ho4 _ _ y0
 have c1:=Zag ho4 _ _ y1
 have c2:=Zag ho4 _ _ y2
 have c3:=Zag ho4 _ _ y3
 obtain ⟨xs4,hP4⟩:=hC4.prog
 obtain ⟨cv0,cv1,cv2,l0,l1,l2,hcl2⟩:=hP4.cell Hc.out
 obtain ⟨d0,d1,rfl⟩:=Zae hcl2.head
 obtain ⟨d2,d3,rfl⟩:=hcl2.body.shape
 obtain ⟨d4,d5,rfl⟩:=Zae hcl2.names
 have hbl4:=Zab hbx4
 have hwbl4:wb<W4.heap.size:=Nat.lt_of_lt_of_le hwbl hKw.size
 have hlbl:lb<W4.heap.size:=World.block_lt_of_cell? W4 ⟨lb,k * 3,none⟩ l0
 obtain ⟨hco,hcm⟩:=Hcs.out c (Qh Hc.out)
 have HIc:Hid (∀ Z u,Ext W4.drew u→(∀ k,Z k→W4.heap.size≤k∧k<u.heap.size)→Calls Tryz.prog 97 #[.agg #[.slice ga n1.goals.length gcap,.slice va' n1.vals.length vcap',.slice ra' n1.done.length rcap',.int .i64 n1.vars],.agg #[.slice d0 c.head.length d1,.slice d2 c.body.length d3,.slice d4 c.names.length d5]] u fun e u'=>∃ r,e = .returned r∧Ext u u'∧TryX n1 c k Z r u'):=fun Z u hu hZ=>by
  have hwu:Ext W4 u:=hu.undrew
  refine (Zrp u _ _ _ _ _ _ n1 c k hOk hco (hN1.ext hwu) (hcl2.ext hwu)).mono ?_
  intro e u' h
  exact h.toX (fun j hj=>(hZ j hj).2)
 have Hco:=Zac hco
 have HOk:=Zac hOk
 have HNm:=Zac hNm
 have HFw:=Zac hFw
 have HSm:=Zac hSm
 have Hcm:=Zac hcm
 have HCf:Hid (CFew c):=Hcf.out c (Qh Hc.out)
 have HC4:=Zac hC4
 have HK4:=Zac hKw
 have HM4:=Zac hM4
 have hrlt:r.length<r.length+1:=by omega
 clear hW4 hE0 hK4 hC4 hKw hM4 hbx4 hrow4 ho4 y0 y1 y2 y3 y4 hN1 hP4 hcl2 hco hOk hNm hFw hSm hcm
 refine Zjm (by kernel_rfl) [.pur (.pointer (some ⟨b,0,none⟩)),.pur (.pointer (some ⟨b,0,none⟩)),.pur (.pointer (some ⟨b,2,none⟩)),.pur (.slice (some ⟨wb,0,none⟩) (r.length+1) wc),.pur (.int .i64 r.length),.pur (.pointer (some ⟨wb,r.length * 5,none⟩)),.pur (.pointer (some ⟨wb,r.length * 5,none⟩)),.pur (.agg #[.slice ga n1.goals.length gcap,.slice va' n1.vals.length vcap',.slice ra' n1.done.length rcap',.int .i64 n1.vars]),
  .pur (.pointer (some ⟨b,0,none⟩)),.pur (.pointer (some ⟨b,0,none⟩)),.pur (.pointer (some ⟨b,0,none⟩)),.pur (.slice (some ⟨lb,0,none⟩) cs.length cc),.pur (.int .i64 k),.pur (.pointer (some ⟨lb,k * 3,none⟩)),.pur (.agg #[.slice d0 c.head.length d1,.slice d2 c.body.length d3,.slice d4 c.names.length d5]),
  .cal,.post (fun v=>v),.post (Zgw 0),.post (Zgw 1),.alo 87 #[.slice none 0 0,.slice none 0 0,.slice none 0 0,.int .i64 0] 20 (fun v=>cellsOf (Zgw 0 v)),.sto 19,.post (Zgw 1)] 15 (by kernel_rfl) (TryX n1 c k) 97 _ TryX.stable HIc.out ?_ rfl (by decide) ?_
 ·refine ⟨fun vc β u hu => ?_,fun vc β u hu => ?_,fun vc β u hu => ?_,fun vc β u hu => ?_,fun vc β u hu => ?_,fun vc β u hu => ?_,fun vc β u hu => ?_,fun vc β u hu => ?_,fun vc β u hu => ?_,fun vc β u hu => ?_,fun vc β u hu => ?_,fun vc β u hu => ?_,fun vc β u hu => ?_,fun vc β u hu => ?_,fun vc β u hu => ?_,fun vc β u => ?_,?_,?_,?_,fun vc β u => ?_,?_,?_,trivial⟩
  all_goals try (simp [pa,Kd.val,go_sem,hu.up b0,hu.up b2,hu.up c0,hu.up c1,hu.up c2,hu.up c3,hu.up l0,hu.up l1,hu.up l2,hkl]; done)
  all_goals try (simp [pa,Kd.val,go_sem]; done)
  all_goals try (rintro vc β Z u ⟨g1,g2,g3,v1,v2,v3,q1,q2,q3,uu,qq,rfl,_⟩; simp [pa,Kd.val,go_sem,Zgw]; done)
  all_goals try (simp [pa,Kd.val,go_sem]; intro h; omega)
  rintro vc β Z u t z sx cl he ⟨g1,g2,g3,v1,v2,v3,q1,q2,q3,uu,qq,rfl,_⟩ hb
  simp at he
  obtain ⟨rfl,rfl,rfl,rfl⟩:=he
  have z0:=Zaa hb 0 _ rfl
  have z1:=Zaa hb 1 _ rfl
  have z2:=Zaa hb 2 _ rfl
  have z3:=Zaa hb 3 _ rfl
  have zf:=fun i=>Zad hb i
  refine ⟨_,?_,Zaf (Zaf (Zaf (Zaf hb 0 _) 1 _) 2 _) 3 _,((((Qx (only (β 19)) u).put 0 _).put 1 _).put 2 _).put 3 _⟩
  simp [pa,Kd.val,go_sem,z0,z1,z2,z3,zf,Zgw]
 rintro vc β w5 hext5 ⟨g1,g2,g3,v1,v2,v3,q1,q2,q3,uu,qq,rfl,hqq⟩ hbox _
 have hext5:=hext5.undrew
 have hs5:=hext5.size
 obtain ⟨hb0,hbx⟩:=hbox 19 _ _ _ _ rfl
 have hbx':w5.heap[β 19]?=some (.cells #[.slice g1 g2 g3,.slice v1 v2 v3,.slice q1 q2 q3,.int .i64 uu] 87 (0,0)):=hbx
 generalize hbe:β 19=bt at *
 have z0:=Zaa hbx' 0 _ rfl
 have z1:=Zaa hbx' 1 _ rfl
 have z2:=Zaa hbx' 2 _ rfl
 have z3:=Zaa hbx' 3 _ rfl
 have hC5:=HC4.out.ext hext5
 have HK5:=Zac (HK4.out.then (Kept.of_below hext5) (S':=fun j=>W4.heap.size≤j) (fun i hi hh=>by have:=HK4.out.size; omega))
 have hbx5:=hC5.box
 rw [HM4.out] at hbx5
 simp only [CX.cells,Qf] at hbx5
 rw [H0.out] at hbx5
 clear b0 b1 b2 b3 b4 b5 b6 b7 bf c0 c1 c2 c3 l0 l1 l2
 obtain ⟨b0,b1,b2,b3,b4,b5,b6,b7,bf⟩:=box8 hbx5
 have hbl5:=Zab hbx5
 have hbtl:=Zab hbx'
 have Hbx5:=Zac hbx5
 have HC5:=Zac hC5
 have hway4:M4.way=(n,k+1)::r:=by rw [HM4.out]
 have hlen4:M4.tree.length+M4.way.length≤100000:=by
  have h1:=HI.out.len
  have h2:=Ht.out
  rw [Hw1.out] at h1
  rw [HM4.out]
  simp only [Qf] at h1 ⊢
  omega
 have hnx4:∀ y ∈ M4.way,1≤y.2∧y.2≤4000:=fun y hy=>by
  rw [hway4] at hy
  rcases Qp.1 hy with rfl | hy
  ·exact ⟨Nat.succ_le_succ (Qm _),by show k+1≤_; omega⟩
  ·have h1:=(HI.out.way y (by rw [Hw1.out]; simp [hy])).2.2.1
   have h2:=HI.out.used
   rw [Hw1.out] at h2
   exact ⟨h2.2.1 y hy,by omega⟩
 have HL:Hid (∀ u (xx:CX) (mm:SN),CSr u b xx cs a mm→mm.way.length≤200000→(∀ y ∈ mm.way,y.2≤4000)→mm.tree.length+mm.way.length≤200000→Calls Tryz.prog 53 #[.pointer (some ⟨b,0,none⟩)] u fun e w'=>e = .returned (.tuple #[])∧Kept (only b) u w'∧CSr w' b xx cs a (Zdc cs mm)):=fun u xx mm h1 h2 h3 h4=>Zuf u b xx cs a mm h1 h2 h3 hcl h4
 have Hlen4:=Zac hlen4
 have Hnx4:=Zac hnx4
 have Hway4:=Zac hway4
 clear hlen4 hnx4 hway4 hbx hbx' hbx5 hC5 hbox hext5
 simp only [paAll,pa,Kd.val,if_true,Act.put,Zgw]
 rw [hbe]
 rcases hqq with ⟨rfl,hq⟩ | ⟨rfl,ch,hq⟩ | ⟨rfl,ch,q0,hq12,hq,rfl,rfl,hg',hv',hr'⟩
 ·have hq0:(tryN n c k).2=0:=by
   rcases hq with h | h
   ·exact absurd (List.eq_nil_of_length_eq_zero (by rw [← HSm.out.gl,h]; rfl)) Hg.out
   ·exact (Zga HOk.out HSm.out Hco.out h).1.symm
  have hmk:Zat cs m=Zdc cs M4:=by
   unfold Zat
   rw [Hw1.out]
   simp only [Hc.out]
   rw [if_neg (by omega),if_neg (by omega),HM4.out,Htr.out]
  have HL5:=Zac (HL.out w5 _ M4 HC5.out (by have:=Hlen4.out; omega) (fun y hy=>(Hnx4.out y hy).2) (by have:=Hlen4.out; omega))
  have Hmk:=Zac hmk
  clear hq hq0 hmk HL
  go_wp2_with fail
  refine HL5.out.mono ?_
  rintro e w6 ⟨rfl,hK6,hC6⟩
  have H6:Hid (∃ x',Kept (ownS b ⟨some ⟨lb,0,none⟩,cc,na,nc,some ⟨wb,0,none⟩,wc,va,vl,vc,fa,fl,fc⟩) w w6∧CSr w6 b x' cs a (Zat cs m)∧Zhk w ⟨some ⟨lb,0,none⟩,cc,na,nc,some ⟨wb,0,none⟩,wc,va,vl,vc,fa,fl,fc⟩ x'):=⟨_,HK5.out.trans (hK6.mono (fun i _ e=>Or.inl e)),by rw [Hmk.out]; exact hC6,⟨fun j hj=>Or.inl hj,rfl,rfl,rfl,rfl⟩⟩
  clear hK6 hC6
  go_wp2
  go_end0
  exact ⟨rfl,H6.out⟩
 ·have hq3:(tryN n c k).2=3:=(Zga HOk.out HSm.out Hco.out hq).1.symm
  obtain ⟨M5,hM5⟩:∃ M5:SN,M5 = { M4 with status:=3 }:=⟨_,rfl⟩
  have hmk:Zat cs m=Zdc cs M5:=by
   unfold Zat
   rw [Hw1.out]
   simp only [Hc.out]
   rw [if_pos hq3,hM5,HM4.out,Htr.out]
  have hKs:Kept (only b) w5 (w5.setCell ⟨b,4,none⟩ (.int .i64 3)):=(Qx _ _).put 4 _
  have hC5':CSr (w5.setCell ⟨b,4,none⟩ (.int .i64 3)) b ⟨some ⟨lb,0,none⟩,cc,na,nc,some ⟨wb,0,none⟩,wc,va,vl,vc,fa,fl,fc⟩ cs a M5:=by
   refine HC5.out.upd hKs ?_ ⟨rfl,rfl,rfl,rfl⟩ (by rw [hM5]; exact HC5.out.way) (fun h=>by rw [hM5] at h; simp at h)
   have:=Zaf HC5.out.box 4 (.int .i64 3)
   rw [hM5]
   exact this
  have hw5:M5.way=M4.way∧M5.tree=M4.tree:=by rw [hM5]; exact ⟨rfl,rfl⟩
  have HL5:=Zac (HL.out _ _ M5 hC5' (by rw [hw5.1]; have:=Hlen4.out; omega) (fun y hy=>(Hnx4.out y (by rw [← hw5.1]; exact hy)).2) (by rw [hw5.1,hw5.2]; have:=Hlen4.out; omega))
  have Hmk:=Zac hmk
  have HK5':=Zac (HK5.out.trans (hKs.mono (fun i _ e=>Or.inl e)))
  clear hq hq3 hmk HL hC5' hKs hw5 hM5
  go_wp2_with fail
  refine HL5.out.mono ?_
  rintro e w6 ⟨rfl,hK6,hC6⟩
  have H6:Hid (∃ x',Kept (ownS b ⟨some ⟨lb,0,none⟩,cc,na,nc,some ⟨wb,0,none⟩,wc,va,vl,vc,fa,fl,fc⟩) w w6∧CSr w6 b x' cs a (Zat cs m)∧Zhk w ⟨some ⟨lb,0,none⟩,cc,na,nc,some ⟨wb,0,none⟩,wc,va,vl,vc,fa,fl,fc⟩ x'):=⟨_,HK5'.out.trans (hK6.mono (fun i _ e=>Or.inl e)),by rw [Hmk.out]; exact hC6,⟨fun j hj=>Or.inl hj,rfl,rfl,rfl,rfl⟩⟩
  clear hK6 hC6
  go_wp2
  go_end0
  exact ⟨rfl,H6.out⟩
 ·obtain ⟨e1,e2⟩:=Zga HOk.out HSm.out Hco.out hq
  obtain ⟨hOk2,hSm2⟩:=e2 hq12
  have hk12:(tryN n c k).2=1∨(tryN n c k).2=2:=by rw [← e1]; exact hq12
  have hNm2:=Yek hq hq12 HNm.out Hcm.out
  have hFw2:=Zwf hq hq12 HFw.out HCf.out
  obtain ⟨vs1,hg1,_⟩:=hg'
  obtain ⟨vs2,hv1,_⟩:=hv'
  obtain ⟨vs3,hr1,_⟩:=hr'
  have hN5:NodeIn w5 (.slice g1 ch.goals.length g3) (.slice v1 v2 v3) (.slice q1 q2 q3) ch:=⟨⟨vs1,hg1⟩,⟨vs2,hv1⟩,⟨vs3,hr1⟩⟩
  have hCN:CNode w5 (.slice g1 ch.goals.length g3) (.slice v1 v2 v3) (.slice q1 q2 q3) (.int .i64 ch.vars) (tryN n c k).1:=⟨ch,hN5,rfl,hOk2,hNm2,hFw2,hSm2⟩
  obtain ⟨X,hX⟩:∃ X,X=Lib.decDigits k:=⟨_,rfl⟩
  have hXl:X.length≤24:=by rw [hX]; have:=Zks k; omega
  obtain ⟨T,hT⟩:∃ T,T=m.tree:=⟨_,rfl⟩
  have hTl:T.length≤100000:=by
   have:=Hlen4.out
   rw [HM4.out] at this
   simp only at this
   rw [hT]; omega
  obtain ⟨M5,hM5⟩:∃ M5:SN,M5 = { M4 with tree:=T++X }:=⟨_,rfl⟩
  have hMt:M4.tree=T:=by rw [HM4.out,hT]
  have hmk:Zat cs m=Zdc cs (Zcd M5 (tryN n c k).1):=by
   unfold Zat
   rw [Hw1.out]
   simp only [Hc.out]
   rw [if_neg (by omega),if_pos hk12,hM5,HM4.out,Htr.out,hT,hX]
  obtain ⟨w6,hw6⟩:∃ w6,w6=w5.drew.setCell ⟨b,7,none⟩ (.string ⟨(T++X).toArray⟩):=⟨_,rfl⟩
  have hK56:Kept (only b) w5 w6:=by rw [hw6]; exact ((Qx _ _).drew).put 7 _
  have hC6:CSr w6 b ⟨some ⟨lb,0,none⟩,cc,na,nc,some ⟨wb,0,none⟩,wc,va,vl,vc,fa,fl,fc⟩ cs a M5:=by
   refine HC5.out.upd hK56 ?_ ⟨rfl,rfl,rfl,rfl⟩ (by rw [hM5]; exact HC5.out.way) (fun h=>by rw [hM5] at h ⊢; exact HC5.out.found h)
   have:=Zaf (w:=w5.drew) HC5.out.box 7 (.string ⟨(T++X).toArray⟩)
   rw [hw6,hM5]
   exact this
  have hCN6:=hCN.keep hK56 HC5.out.off
  have hw5:M5.way=M4.way∧M5.tree=T++X:=by rw [hM5]; exact ⟨rfl,rfl⟩
  have hlen5:M5.tree.length+M5.way.length≤150000:=by
   have:=Hlen4.out
   rw [hw5.1,hw5.2,Qg]
   rw [hMt] at this
   omega
  have hused:(tryN n c k).1.used=Zgj M5.way:=by
   have h2:=HI.out.used
   rw [Hw1.out] at h2
   rw [Zgc hk12,hw5.1,Hway4.out,Zlc,h2.1]
  have hnx5:∀ y ∈ M5.way,1≤y.2∧y.2≤4000:=fun y hy=>Hnx4.out y (by rw [← hw5.1]; exact hy)
  have HEn:Hid (Calls Tryz.prog 52 #[.pointer (some ⟨b,0,none⟩),.agg #[.slice g1 ch.goals.length g3,.slice v1 v2 v3,.slice q1 q2 q3,.int .i64 ch.vars]] w6 fun e w'=>e = .returned (.tuple #[])∧∃ x',Kept (ownS b ⟨some ⟨lb,0,none⟩,cc,na,nc,some ⟨wb,0,none⟩,wc,va,vl,vc,fa,fl,fc⟩) w6 w'∧CSr w' b x' cs a (Zcd M5 (tryN n c k).1)∧Zhk w6 ⟨some ⟨lb,0,none⟩,cc,na,nc,some ⟨wb,0,none⟩,wc,va,vl,vc,fa,fl,fc⟩ x'):=by
   by_cases hgl:(tryN n c k).1.goals=[]
   ·exact Ybp w6 b _ cs a M5 _ _ _ _ _ hC6 hCN6 (by omega) hgl hused hnx5 (by rw [hw5.2,Qg]; omega)
   ·exact Zpx w6 b _ cs a M5 _ _ _ _ _ hC6 hCN6 (by omega) hgl (by rw [hw5.2,Qg]; omega)
  have Hbd:Hid ((Zcd M5 (tryN n c k).1).way.length≤200000∧(∀ y ∈ (Zcd M5 (tryN n c k).1).way,y.2≤4000)∧(Zcd M5 (tryN n c k).1).tree.length+(Zcd M5 (tryN n c k).1).way.length≤200000):=by
   show _∧_∧_
   unfold Zcd
   split
   ·simp only [Qg,Qn]
    exact ⟨by omega,fun y hy=>(hnx5 y hy).2,by omega⟩
   ·simp only [Qg,Jt,Qf]
    refine ⟨by omega,fun y hy => ?_,by omega⟩
    rcases Qp.1 hy with rfl | hy
    ·exact Qm _
    ·exact (hnx5 y hy).2
  have HXt:=Zac (Zmb k w5.drew (by omega))
  rw [← hX] at HXt
  have Hmk:=Zac hmk
  have HK56:=Zac hK56
  have hs6:=hK56.size
  have Hw6:=Zac hw6
  have z6:∀ i v,w5.cell? ⟨bt,i,none⟩=some v→w6.cell? ⟨bt,i,none⟩=some v:=fun i v hv=>hK56.cell hv (fun e=>by
   have e:bt=b:=e
   have:W4.heap.size≤bt:=hb0
   omega)
  have z0:=z6 0 _ z0
  have z1:=z6 1 _ z1
  have z2:=z6 2 _ z2
  have z3:=z6 3 _ z3
  have b7':w5.drew.cell? ⟨b,7,none⟩=some (.string ⟨T.toArray⟩):=by rw [hT]; exact b7
  have bf':∀ i,w5.drew.frozen? ⟨b,i,none⟩=false:=bf
  have hbt6:bt<w6.heap.size:=by omega
  clear hq e1 e2 hOk2 hSm2 hk12 hNm2 hFw2 hg1 hv1 hr1 hN5 hCN hX hT hM5 hMt hmk hC6 hCN6 hw5 hlen5 hused hnx5 hK56 hw6 z6 b0 b1 b2 b3 b4 b5 b6 b7 bf
  go_wp2_with fail
  refine Zev (by kernel_rfl) [.rd 0 2 (fun _ => .pointer (some ⟨b,0,none⟩)),.rd 0 2 (fun _ => .pointer (some ⟨b,0,none⟩)),.rd 0 2 (fun _ => .pointer (some ⟨b,7,none⟩)),.rd 0 1 (fun _ => .string ⟨T.toArray⟩),.rd 0 2 (fun _ => .int .i64 k),.st 0,.rd 1 2 (fun _ => .string ⟨(T++X).toArray⟩),.rd 0 2 (fun _ => .pointer (some ⟨b,0,none⟩)),.rd 0 2 (fun _ => .pointer (some ⟨b,7,none⟩)),.st 1] 2 7 (by kernel_rfl) (TreePh w5.drew b T X) rfl ?_ ?_
  ·refine ⟨⟨trivial,fun vs y _ hl hS => ?_⟩,⟨trivial,fun vs y _ hl hS => ?_⟩,⟨trivial,fun vs y _ hl hS => ?_⟩,⟨trivial,fun vs y _ hl hS => ?_⟩,⟨trivial,fun vs y _ hl hS => ?_⟩,⟨trivial,fun vs y hl hS => ?_⟩,⟨trivial,fun vs y hl0 hl hS => ?_⟩,⟨trivial,fun vs y _ hl hS => ?_⟩,⟨trivial,fun vs y _ hl hS => ?_⟩,⟨trivial,fun vs y hl hS => ?_⟩,trivial⟩
   ·simp [phAll,phA,pa,Ph.kd,Ph.val,Kd.val,go_sem]
   ·simp [phAll,phA,pa,Ph.kd,Ph.val,Kd.val,go_sem]
   ·simp [phAll,phA,pa,Ph.kd,Ph.val,Kd.val,go_sem]
   ·obtain rfl:=hS.at.1 hl
    simp [phAll,phA,pa,Ph.kd,Ph.val,Kd.val,go_sem,b7']
   ·simp [phAll,phA,pa,Ph.kd,Ph.val,Kd.val,go_sem]
   ·obtain rfl:=List.length_eq_zero_iff.1 hl
    obtain rfl:y=w5.drew:=hS
    refine .call 41 #[.int .i64 k] _ (by simp [phAll,phA,pa,Ph.kd,Ph.val,Kd.val,go_sem]) (HXt.out.mono ?_)
    rintro e u ⟨rfl,rfl⟩
    exact ⟨_,rfl,rfl,rfl⟩
   ·have h0:=hS.at.2 hl0
    rw [List.getD_eq_getElem?_getD] at h0
    simp [phAll,phA,pa,Ph.kd,Ph.val,Kd.val,go_sem,h0,Zbi,show ¬ 9223372036854775807<T.length+X.length by omega]
   ·simp [phAll,phA,pa,Ph.kd,Ph.val,Kd.val,go_sem]
   ·simp [phAll,phA,pa,Ph.kd,Ph.val,Kd.val,go_sem]
   ·obtain ⟨v,rfl⟩:=List.length_eq_one_iff.1 hl
    obtain ⟨rfl,hv⟩:=hS
    exact .skip _ (by simp [phAll,phA,pa,Ph.kd,Ph.val,Kd.val,go_sem,b7',bf']) ⟨hv,rfl⟩
  rintro vs y hl hS
  obtain ⟨v,v',rfl⟩:∃ v v',vs=[v,v']:=by
   match vs,hl with
   | [v,v'],_=>exact ⟨v,v',rfl⟩
  obtain ⟨hv,hy⟩:=hS
  rw [← Hw6.out] at hy
  subst hy
  simp only [phAll,phA,paAll,pa,Ph.kd,Ph.val,Kd.val,List.map_cons,List.map_nil,if_true,Act.put,List.setIfInBounds_toArray,List.set_cons_succ,List.set_cons_zero]
  clear hv b7' bf'
  go_wp2_with fail
  refine HEn.out.mono ?_
  rintro e w7 ⟨rfl,x7,hK7,hC7,hN7⟩
  have HL7:=Zac (HL.out w7 x7 _ hC7 Hbd.out.1 Hbd.out.2.1 Hbd.out.2.2)
  have HK7:=Zac hK7
  have HN7:=Zac hN7
  clear hK7 hC7 hN7 HL HEn
  go_wp2_with fail
  refine HL7.out.mono ?_
  rintro e w8 ⟨rfl,hK8,hC8⟩
  have H8:Hid (∃ x',Kept (ownS b ⟨some ⟨lb,0,none⟩,cc,na,nc,some ⟨wb,0,none⟩,wc,va,vl,vc,fa,fl,fc⟩) w w8∧CSr w8 b x' cs a (Zat cs m)∧Zhk w ⟨some ⟨lb,0,none⟩,cc,na,nc,some ⟨wb,0,none⟩,wc,va,vl,vc,fa,fl,fc⟩ x'):=⟨x7,((HK5.out.trans (HK56.out.mono (fun i _ e=>Or.inl e))).trans HK7.out).trans (hK8.mono (fun i _ e=>Or.inl e)),by rw [Hmk.out]; exact hC8,⟨fun j hj=>by
   rcases HN7.out.1 j hj with h | h
   ·exact Or.inl h
   ·have:=HK5.out.size
    have:=HK56.out.size
    exact Or.inr (by omega),HN7.out.2⟩⟩
  clear hK8 hC8
  go_wp2
  go_end0
  exact ⟨rfl,H8.out⟩
theorem Ygg (n:ND) (c:Cls) (k:Nat):Zij n c k≠2:=by
 unfold Zij
 split
 ·omega
 ·split <;> omega
theorem Zfv {cs:List Cls} {n:Nat} {s:SN} (h:n=0∨s.status≠0∨s.way=[]∨3000≤s.tries):Zca cs n s=(s,0):=by
 cases n with
 | zero=>rfl
 | succ n =>
  unfold Zca
  rw [if_neg]
  rintro ⟨h1,h2,h3⟩
  rcases h with h | h | h | h
  ·omega
  ·exact h h1
  ·exact h2 h
  ·omega
theorem Yjs {cs:List Cls} {n:Nat} {s:SN} (h1:s.status=0) (h2:s.way≠[]) (h3:s.tries<3000):Zca cs (n+1) s=((Zca cs n (Zat cs s)).1,(Zca cs n (Zat cs s)).2+1):=by
 rw [Zca,if_pos ⟨h1,h2,h3⟩]
theorem Yjt {cs:List Cls} {n j:Nat} {m m':SN} (h:m.status≠2∧m.status≠3) (hl:Zca cs n { m with status:=0 }=((Zca cs (n - j) m').1,(Zca cs (n - j) m').2+j)) (hs:Zca cs (n - j) m'=(m',0)):Zcz cs n m=(endN m',j):=by
 unfold Zcz
 rw [if_neg (by omega),hl,hs]
 simp
end Go.Proofs.YtlmjilpjmgjjcaaGreatDoor
