/-
  PROVED HERE: plain facts on rows of words that lie in memory (the conditions stand in each statement).
-/
import Derived.Test.YtlmjilpjmgjjcaaGreatDoorT8
import Derived.Laws.OwnMore
namespace Go.Proofs.YtlmjilpjmgjjcaaGreatDoor
open Go.RowKit
set_option linter.unusedSimpArgs false
set_option linter.unusedVariables false
set_option maxRecDepth 10000 in
set_option maxHeartbeats 2000000 in
theorem Zvu (w:World) (X:Nat→Prop) (Bs:Nat) (cv:Value) (L:List (Nat × List Sym)) (xs:List Value) (a b c:Value) (l:List Sym) (h:Rep X w a b c l) (hS:RowS X w Bs cv L.length L xs) (hX:∀ k,X k→k<w.heap.size) (hb:∀ k,(ap (sgm (L.take k)) l).length≤4000) (hL:L.length≤4000) :
  Calls Tryz.prog 183 #[.agg #[a,b,c],cv] w fun e w'=>∃ a' b' c',e = .returned (.agg #[a',b',c'])∧Ext w w'∧Rep X w' a' b' c' (ap (sgm L) l):=by
 have hw:=h.wf _ (Nat.le_refl _)
 obtain ⟨s1,n1,c1a,c1l,c1c,rfl,rfl,rfl⟩:=h.shape
 obtain ⟨sa,scap,rfl⟩:=Zad hS.owns
 have H:=Zaa h
 have HS:=Zaa hS
 have HX:=Zaa hX
 have Hb:=Zaa hb
 have Hw:=Zaa hw
 clear h hS hX hb hw
 go_enter Tryz.func183,Tryz.ntmps183
 go_wp2
 go_loopg [5] (L.length+1) (fun gk i wr=>∃ (k:Nat) (s2:ByteArray) (n2:Nat) (c2a:Option Addr) (c2l c2c:Nat),i = .int .i64 k∧k≤L.length∧L.length - k<gk∧Ext w wr ∧
   wr.heap[w.heap.size]?=some (.cells #[.string s2,.int .i64 n2,.slice c2a c2l c2c] 183 (0,0))∧wr.heap[w.heap.size+1]?=some (.cells #[.string ⟨#[]⟩,.int .i64 0,.slice none 0 0] 183 (0,0)) ∧
   Rep (boxed X w.heap.size 2) wr (.string s2) (.int .i64 n2) (.slice c2a c2l c2c) (ap (sgm (L.take k)) l))
 case atStart =>
  refine ⟨0,s1,n1,c1a,c1l,c1c,by go_num,Nat.zero_le _,by omega,(Ext.of (by repeat' (first | with_reducible exact Kept.refl _ _ | with_reducible apply Kept.drew | with_reducible apply Kept.drewN | with_reducible apply Kept.alloc | with_reducible refine Kept.setCell ?_ ?_ _ | exact fun h=>absurd h (by simp <;> omega)))),Zag (heap_alloc_new w _) _,by simpa using heap_alloc_new (w.alloc _) _,?_⟩
  have e:ap (sgm (L.take 0)) l=l:=by rw [List.take_zero]; exact ap_id Hw.out
  rw [e]
  exact H.out.ext (Ext.of (by repeat' (first | with_reducible exact Kept.refl _ _ | with_reducible apply Kept.drew | with_reducible apply Kept.drewN | with_reducible apply Kept.alloc | with_reducible refine Kept.setCell ?_ ?_ _ | exact fun h=>absurd h (by simp <;> omega)))) (fun k hk h=>Zfu h hk)
 case round =>
  obtain ⟨k,s2,n2,c2a,c2l,c2c,rfl,hk,hg,hext,h0,h1,hrep⟩:=hrel
  obtain ⟨b0,b1,b2,bf⟩:=box3 h0
  obtain ⟨d0,d1,d2,df⟩:=box3 h1
  have hsz:=Zac h1
  have Hext:=Zaa hext
  have H0:=Zaa h0
  have H1:=Zaa h1
  have Hrep:=Zaa hrep
  clear hext h0 h1 hrep
  by_cases hlt:k<L.length
  ·obtain ⟨p,hp⟩:∃ p,L[k]?=some p:=⟨_,List.getElem?_eq_getElem hlt⟩
   obtain ⟨v,t⟩:=p
   obtain ⟨a',b',c',x0,x1,x2,x3,hrt⟩:=HS.out.all k _ hp
   obtain ⟨s3,n3,c3a,c3l,c3c,rfl,rfl,rfl⟩:=hrt.shape
   have hrow':=HS.out.ext (Y:=X) (B':=Bs) Hext.out (fun _ h=>h) (Nat.le_refl _)
   obtain ⟨g,cap',cur,hge,hBg,hgb,hcp⟩:=Zal hrow'.owns (by omega)
   simp only [Value.slice.injEq] at hge
   obtain ⟨rfl,_,rfl⟩:=hge
   have y0:wr.cell? ⟨g,k * 4,none⟩=some (.int .i64 v):=Zaf hrow'.owns _ _ x0
   have y1:wr.cell? ⟨g,k * 4+1,none⟩=some (.string s3):=Zaf hrow'.owns _ _ x1
   have y2:wr.cell? ⟨g,k * 4+2,none⟩=some (.int .i64 n3):=Zaf hrow'.owns _ _ x2
   have y3:wr.cell? ⟨g,k * 4+3,none⟩=some (.slice c3a c3l c3c):=Zaf hrow'.owns _ _ x3
   have hsg:ap (sgm (L.take (k+1))) l=ap (sub1 v t) (ap (sgm (L.take k)) l):=by
    rw [List.take_add_one,hp,Option.toList_some,Zqi,Zwr]
   have hb1:=Hb.out (k+1)
   rw [hsg] at hb1
   have HI:=Zaa (Zmw (ap (sgm (L.take k)) l).length wr.drew (boxed X w.heap.size 2) (.string s2) (.int .i64 n2) (.slice c2a c2l c2c) (ap (sgm (L.take k)) l) v (.string s3) (.int .i64 n3) (.slice c3a c3l c3c) t (Nat.le_refl _) (Hrep.out.on (fun k _ hn _=>⟨rfl,hn⟩)) (hrt.ext (Hext.out.trans ⟨rfl,rfl,rfl,Nat.le_refl _,fun _ _=>rfl⟩) (fun k hk h=>Zfu h hk)) (fun k h=>by have:=Zdy HX.out k h; show k<wr.heap.size; omega) hb1)
   have Hsg:=Zaa hsg
   clear hgb hrow' hrt x0 x1 x2 x3 hp hsg hb1
   go_wp2_with fail
   refine Zjo (by kernel_rfl) [.pur (.agg #[.string s2,.int .i64 n2,.slice c2a c2l c2c]),.pur (.slice (some ⟨g,0,none⟩) L.length scap),.pur (.int .i64 k),.pur (.pointer (some ⟨g,k * 4,none⟩)),.pur (.agg #[.int .i64 v,.string s3,.int .i64 n3,.slice c3a c3l c3c]),.cal,.sto 0] 5 6 (by kernel_rfl)
    (fun r u=>∃ (s:ByteArray) (n:Nat) (ca:Option Addr) (cl cc:Nat),r = .agg #[.string s,.int .i64 n,.slice ca cl cc]∧Ext wr u∧Rep (boxed X w.heap.size 2) u (.string s) (.int .i64 n) (.slice ca cl cc) (ap (sub1 v t) (ap (sgm (L.take k)) l)))
    (fun r u=>∃ (s:ByteArray) (n:Nat) (ca:Option Addr) (cl cc:Nat) (u0:World),Ext wr u0∧Rep (boxed X w.heap.size 2) u0 (.string s) (.int .i64 n) (.slice ca cl cc) (ap (sub1 v t) (ap (sgm (L.take k)) l)) ∧
     u=((u0.setCell ⟨w.heap.size,0,none⟩ (.string s)).setCell ⟨w.heap.size,1,none⟩ (.int .i64 n)).setCell ⟨w.heap.size,2,none⟩ (.slice ca cl cc)) 204
    #[.agg #[.string s2,.int .i64 n2,.slice c2a c2l c2c],.agg #[.int .i64 v,.string s3,.int .i64 n3,.slice c3a c3l c3c]] ?_ ?_ rfl (by decide) (Or.inl ⟨0,rfl⟩) ?_
   ·refine HI.out.mono ?_
    rintro e u ⟨a',b',c',rfl,he,hr⟩
    obtain ⟨s4,n4,c4a,c4l,c4c,rfl,rfl,rfl⟩:=hr.shape
    exact ⟨_,rfl,s4,n4,c4a,c4l,c4c,rfl,he.undrew,hr⟩
   ·refine ⟨fun vc => ?_,fun vc => ?_,fun vc => ?_,fun vc => ?_,fun vc => ?_,fun vc => ?_,?_,trivial⟩
    all_goals try (simp [pa,Kd.val,go_sem,b0,b1,b2,y0,y1,y2,y3,hlt]; done)
    rintro vc u ⟨s,n,ca,cl,cc,rfl,he,hr⟩
    obtain ⟨q0,q1,q2,qf⟩:=box3 ((he.block _ (by omega)).trans H0.out)
    refine ⟨_,?_,s,n,ca,cl,cc,u,he,hr,rfl⟩
    simp [pa,Kd.val,go_sem,q0,q1,q2,qf]
   rintro vc w1 ⟨s,n,ca,cl,cc,u0,he,hr,rfl⟩
   simp only [paAll,pa,Kd.val,if_true,Act.put]
   have He:=Zaa he
   have Hr:=Zaa hr
   have hs0:=he.size
   clear he hr
   go_wp2
   go_roundg (L.length - k)
   case measure=>omega
   case rel =>
    have hst:=Zkf ((He.out.block _ (by omega)).trans H0.out) (.string s) (.int .i64 n) (.slice ca cl cc)
    refine ⟨k+1,s,n,ca,cl,cc,by go_num,by omega,by omega,?_,hst.1,(hst.2.block _ (by omega) (by omega)).trans ((He.out.block _ (by omega)).trans H1.out),?_⟩
    ·exact (Hext.out.trans (He.out.mono Hext.out.size)).trans (hst.2.below (by omega) (fun j e=>by have e:j=w.heap.size:=e; omega))
    ·rw [Hsg.out]
     exact Hr.out.on (fun j hj hn _=>⟨hst.2.block j hj (fun e=>hn (Or.inr (by omega))),hn⟩)
  ·have hek:k=L.length:=by omega
   subst hek
   go_wp2
   refine bodyPost_ret (v := .agg #[.string s2,.int .i64 n2,.slice c2a c2l c2c]) (by simp [results,Tryz.results183,go_sem,d0,d1,d2,df]) rfl ?_
   have hr:=Hrep.out
   rw [List.take_length] at hr
   refine ⟨_,_,_,rfl,Hext.out.trans (Kept.below (S:=fun k=>w.heap.size≤k∧k<w.heap.size+2) (by repeat' (first | with_reducible exact Kept.refl _ _ | with_reducible apply Kept.drew | with_reducible apply Kept.drewN | with_reducible apply Kept.alloc | with_reducible refine Kept.setCell ?_ ?_ _ | (intro _; simp only; omega))) (by omega) (fun j h=>h.1)),?_⟩
   refine (hr.stay (B:=w.heap.size) (Stay.of (S:=fun k=>w.heap.size≤k∧k<w.heap.size+2) (by repeat' (first | with_reducible exact Kept.refl _ _ | with_reducible apply Kept.drew | with_reducible apply Kept.drewN | with_reducible apply Kept.alloc | with_reducible refine Kept.setCell ?_ ?_ _ | (intro _; simp only; omega))) (by omega) (fun j h=>Or.inr h) (fun j h=>h.1))).ext (Below.refl _ _) (fun k _ h=>Or.inl h)
theorem Tryz.infoGoal:(Tryz.prog.info? 200).map (fun i=>(i.zero,i.size,i.bytes))=some (some (.agg #[.string ⟨#[]⟩,.int .i64 0,.slice none 0 0,.int .i64 0]),4,56):=by kernel_rfl
structure RowG (X:Nat→Prop) (w:World) (B:Nat) (cv:Value) (n:Nat) (gs:List (List Sym × Nat)) (xs:List Value):Prop where
 owns:w.ownsRow B 200 4 cv n xs
 len:gs.length=n
 all:∀ (i:Nat) (g:List Sym × Nat),gs[i]?=some g→∃ a b c,xs[i * 4]?=some a∧xs[i * 4+1]?=some b∧xs[i * 4+2]?=some c∧xs[i * 4+3]?=some (.int .i64 g.2)∧Rep X w a b c g.1
theorem RowG.nil (X:Nat→Prop) (w:World) (B:Nat):RowG X w B (.slice none 0 0) 0 [] []:=⟨World.ownsRow_nil _ _ _ _,rfl,fun i l' h=>by simp at h⟩
theorem RowG.on {X Y:Nat→Prop} {w w':World} {B n:Nat} {cv:Value} {gs:List (List Sym × Nat)} {xs:List Value} (h:RowG X w B cv n gs xs) (ho:∀ k,cv.ownBlock=some k→w'.heap[k]?=w.heap[k]?) (hk:∀ k,k<w.heap.size→¬ X k→Zeq w k→w'.heap[k]?=w.heap[k]?∧¬ Y k):RowG Y w' B cv n gs xs :=
 ⟨Zan h.owns ho,h.len,fun i s hs=>by
  obtain ⟨a,b,c,x0,x1,x2,x3,g⟩:=h.all i s hs
  exact ⟨a,b,c,x0,x1,x2,x3,g.on hk⟩⟩
theorem RowG.ext {X Y:Nat→Prop} {w w':World} {B B' n:Nat} {cv:Value} {gs:List (List Sym × Nat)} {xs:List Value} (h:RowG X w B cv n gs xs) (e:Ext w w') (hy:∀ k,k<w.heap.size→Y k→X k) (hB:B'≤B):RowG Y w' B' cv n gs xs:=by
 have:=h.on (Y:=Y) (w':=w') (fun k hk=>e.block k (h.owns.lt k hk).2) (fun k hk hn _=>⟨e.block k hk,fun h=>hn (hy k hk h)⟩)
 exact ⟨Zbe this.owns hB,this.len,this.all⟩
theorem RowG.step {X:Nat→Prop} {w w':World} {B n d:Nat} {cv cv':Value} {gs:List (List Sym × Nat)} {xs:List Value} {a b c:Value} {t:List Sym} (h:RowG X w B cv n gs xs) (hr:Rep X w a b c t) (ha:Appended w B 200 4 cv (n+1) (xs++[a,b,c,.int .i64 d]) cv' w') :
  RowG X w' B cv' (n+1) (gs++[(t,d)]) (xs++[a,b,c,.int .i64 d]):=by
 have hon:∀ {a b c:Value} {l:List Sym},Rep X w a b c l→Rep X w' a b c l:=fun hr=>hr.on (fun k hk hx ht=>by
  obtain ⟨cur,hc⟩:=ht
  exact ⟨ha.kept.block k hk (Zah h.owns (by decide) hc),hx⟩)
 have hxl:=h.owns.1
 have hL:=h.len
 refine ⟨ha.owns,by simp [hL],fun i s hs => ?_⟩
 rcases Nat.lt_or_ge i gs.length with hi | hi
 ·rw [List.getElem?_append_left hi] at hs
  obtain ⟨a',b',c',x0,x1,x2,x3,g⟩:=h.all i s hs
  refine ⟨a',b',c',?_,?_,?_,?_,hon g⟩
  ·rw [List.getElem?_append_left (by omega)]; exact x0
  ·rw [List.getElem?_append_left (by omega)]; exact x1
  ·rw [List.getElem?_append_left (by omega)]; exact x2
  ·rw [List.getElem?_append_left (by omega)]; exact x3
 ·have:=(List.getElem?_eq_some_iff.1 hs).1
  simp at this
  have e:i=gs.length:=by omega
  subst e
  simp at hs
  subst hs
  rw [hL]
  refine ⟨a,b,c,?_,?_,?_,?_,hon hr⟩
  ·rw [List.getElem?_append_right (by omega),hxl]; simp
  ·rw [List.getElem?_append_right (by omega),hxl]; simp
  ·rw [List.getElem?_append_right (by omega),hxl]; simp
  ·rw [List.getElem?_append_right (by omega),hxl]; simp
theorem Zlx {s:ByteArray} {n m:Int} {ca:Option Addr} {cl cc:Nat}:∀ u ∈ (#[Value.string s,.int .i64 n,.slice ca cl cc,.int .i64 m]:Array Value).toList,u.oneCell'=true:=Zqh
set_option maxRecDepth 10000 in
set_option maxHeartbeats 2000000 in
theorem Zmz (w:World) (X:Nat→Prop) (Bg Bs:Nat) (gv cv:Value) (gs:List (List Sym × Nat)) (L:List (Nat × List Sym)) (ys xs:List Value) (hG:RowG X w Bg gv gs.length gs ys) (hS:RowS X w Bs cv L.length L xs) (hX:∀ k,X k→k<w.heap.size) (hb:∀ k,∀ g ∈ gs,(ap (sgm (L.take k)) g.1).length≤4000) (hL:L.length≤4000) (hg:gs.length≤4000) :
  Calls Tryz.prog 182 #[gv,cv] w fun e w'=>∃ gv' zs,e = .returned gv'∧Ext w w'∧RowG X w' w.heap.size gv' gs.length (carr (sgm L) gs) zs:=by
 obtain ⟨sa,scap,rfl⟩:=Zad hS.owns
 obtain ⟨ga,gcap,rfl⟩:=Zad hG.owns
 have HG:=Zaa hG
 have HS:=Zaa hS
 have HX:=Zaa hX
 have Hb:=Zaa hb
 clear hG hS hX hb
 go_enter Tryz.func182,Tryz.ntmps182
 go_wp2
 go_loopg [5,6] (gs.length+1) (fun gk ov i wr=>∃ (k:Nat) (zs:List Value),i = .int .i64 k∧k≤gs.length∧gs.length - k<gk∧Ext w wr∧RowG X wr w.heap.size ov k (carr (sgm L) (gs.take k)) zs)
 case atStart=>exact ⟨0,[],by go_num,Nat.zero_le _,by omega,Below.refl _ _,RowG.nil _ _ _⟩
 case round =>
  obtain ⟨k,zs,rfl,hk,hgk,hext,hrow⟩:=hrel
  obtain ⟨oa,ocap,rfl⟩:=Zad hrow.owns
  have Hext:=Zaa hext
  have Hrow:=Zaa hrow
  have hsz:=hext.size
  clear hext hrow
  by_cases hlt:k<gs.length
  ·obtain ⟨p,hp⟩:∃ p,gs[k]?=some p:=⟨_,List.getElem?_eq_getElem hlt⟩
   obtain ⟨t,d⟩:=p
   obtain ⟨a',b',c',x0,x1,x2,x3,hrt⟩:=HG.out.all k _ hp
   obtain ⟨s3,n3,c3a,c3l,c3c,rfl,rfl,rfl⟩:=hrt.shape
   have hrow':=HG.out.ext (Y:=X) (B':=Bg) Hext.out (fun _ _ h=>h) (Nat.le_refl _)
   obtain ⟨g,cap',cur,hge,hBg,hgb,hcp⟩:=Zal hrow'.owns (by omega)
   simp only [Value.slice.injEq] at hge
   obtain ⟨rfl,_,rfl⟩:=hge
   have y0:wr.cell? ⟨g,k * 4,none⟩=some (.string s3):=Zaf hrow'.owns _ _ x0
   have y1:wr.cell? ⟨g,k * 4+1,none⟩=some (.int .i64 n3):=Zaf hrow'.owns _ _ x1
   have y2:wr.cell? ⟨g,k * 4+2,none⟩=some (.slice c3a c3l c3c):=Zaf hrow'.owns _ _ x2
   have y3:wr.cell? ⟨g,k * 4+3,none⟩=some (.int .i64 d):=Zaf hrow'.owns _ _ x3
   have HI:=Zaa (Zvu wr X Bs _ L xs _ _ _ t (hrt.ext Hext.out (fun _ _ h=>h)) (HS.out.ext Hext.out (fun _ h=>h) (Nat.le_refl _)) (fun k h=>by have:=HX.out k h; omega) (fun j=>Hb.out j _ (List.mem_of_getElem? hp)) hL)
   have Hp:=Zaa hp
   have hgl:=Zac hgb
   clear hgb hrow' hrt x0 x1 x2 x3 hp
   go_wp2_with fail
   refine HI.out.mono ?_
   rintro e w1 ⟨a',b',c',rfl,hext1,hrep1⟩
   obtain ⟨s4,n4,c4a,c4l,c4c,rfl,rfl,rfl⟩:=hrep1.shape
   have z3:w1.cell? ⟨g,k * 4+3,none⟩=some (.int .i64 d):=(hext1.cell (p:=⟨g,k * 4+3,none⟩) hgl).trans y3
   have hs1:=hext1.size
   have hg1:g<w1.heap.size:=by omega
   have hrow1:=Hrow.out.ext (Y:=X) (B':=w.heap.size) (w':=(w1.alloc (.cells #[.string s4,.int .i64 n4,.slice c4a c4l c4c] 183)).drewN 1) (hext1.trans (Ext.of ((((Kept.refl Zbg w1).alloc _).drewN 1)) |>.mono hs1)) (fun _ _ h=>h) (Nat.le_refl _)
   have Hrow1:=Zaa hrow1
   have Hext1:=Zaa hext1
   have Hrep1:=Zaa hrep1
   clear hrow1 hext1 hrep1 y0 y1 y2 y3
   go_wp2_with fail
   go_region_law (refine Zdj ((w1.alloc (.cells #[.string s4,.int .i64 n4,.slice c4a c4l c4c] 183)).drewN 1) rfl (.tmp 21) (.tmp 29) 150 rfl w.heap.size 200 Tryz.infoGoal Tryz.underlying150 rfl (by decide) (.slice oa k ocap) k zs rfl Hrow1.out.owns #[.string s4,.int .i64 n4,.slice c4a c4l c4c,.int .i64 d] rfl (by simp) rfl Zlx (by omega) (by simp; omega) rfl ?_; intro v' w2 hap; obtain ⟨v1a,v1cap,rfl⟩:=Zad hap.owns; have Hap:=Zaa hap; clear hap)
   all_goals
    have htk:carr (sgm L) (gs.take (k+1))=carr (sgm L) (gs.take k)++[(ap (sgm L) t,d)]:=by
     rw [List.take_add_one,Hp.out]; simp [carr]
    have Htk:=Zaa htk
    clear htk z3
    go_wp2
    go_roundg (gs.length - k)
    case measure=>omega
    case rel =>
     have hr1:=Hrep1.out.ext (Y:=X) (w':=(w1.alloc (.cells #[.string s4,.int .i64 n4,.slice c4a c4l c4c] 183)).drewN 1) (Ext.of ((((Kept.refl Zbg w1).alloc _).drewN 1))) (fun _ _ h=>h)
     have:=Hrow1.out.step hr1 Hap.out
     rw [← Htk.out] at this
     refine ⟨k+1,_,by go_num,by omega,by omega,?_,this⟩
     have h1:Below w.heap.size w w1:=Hext.out.trans (Hext1.out.mono hsz)
     have h2:Below w.heap.size w1 ((w1.alloc (.cells #[.string s4,.int .i64 n4,.slice c4a c4l c4c] 183)).drewN 1):=(Ext.of ((((Kept.refl Zbg w1).alloc _).drewN 1))).mono (by omega)
     exact (h1.trans h2).trans (Hap.out.kept.below (by show w.heap.size≤(w1.alloc _).heap.size; simp; omega) (fun j e=>(Hrow1.out.owns.lt j e).1))
  ·have hek:k=gs.length:=by omega
   subst hek
   go_wp2
   go_ret
   have hr:=Hrow.out
   rw [List.take_length] at hr
   exact ⟨_,zs,rfl,Hext.out,hr⟩
structure RepN (X:Nat→Prop) (w:World) (gv vv dv uv:Value) (n:ND):Prop where
 goals:∃ xs,RowG X w 0 gv n.goals.length n.goals xs
 vals:∃ xs,RowT X w vv n.vals xs
 done:∃ xs,RowG X w 0 dv n.done.length n.done xs
 used:w.ownsRow 0 3 1 uv n.used.length (ints n.used)
theorem RepN.ext {X Y:Nat→Prop} {w w':World} {gv vv dv uv:Value} {n:ND} (h:RepN X w gv vv dv uv n) (e:Ext w w') (hy:∀ k,k<w.heap.size→Y k→X k):RepN Y w' gv vv dv uv n:=by
 obtain ⟨xs,h1⟩:=h.goals
 obtain ⟨ys,h2⟩:=h.vals
 obtain ⟨zs,h3⟩:=h.done
 exact ⟨⟨xs,h1.ext e hy (Nat.le_refl _)⟩,⟨ys,h2.ext e hy⟩,⟨zs,h3.ext e hy (Nat.le_refl _)⟩,Zan h.used (fun k hk=>e.block k (h.used.lt k hk).2)⟩
theorem box5 {w:World} {b:Nat} {u0 u1 u2 u3 u4:Value} {t:TypeId} (h:w.heap[b]?=some (.cells #[u0,u1,u2,u3,u4] t (0,0))) :
  w.cell? ⟨b,0,none⟩=some u0∧w.cell? ⟨b,1,none⟩=some u1∧w.cell? ⟨b,2,none⟩=some u2∧w.cell? ⟨b,3,none⟩=some u3∧w.cell? ⟨b,4,none⟩=some u4∧∀ i,w.frozen? ⟨b,i,none⟩=false :=
 ⟨Zab h 0 _ rfl,Zab h 1 _ rfl,Zab h 2 _ rfl,Zab h 3 _ rfl,Zab h 4 _ rfl,fun i=>Zae h i⟩
theorem Zly {α:Type} {l:List α} {k:Nat} {x:α} {p:α→Bool} (h:l[k]?=some x):(l.take (k+1)).any p=((l.take k).any p || p x):=by
 rw [List.take_add_one,h]; simp
set_option maxRecDepth 10000 in
set_option maxHeartbeats 4000000 in
theorem kind_any (w:World) (X:Nat→Prop) (gv vv dv uv:Value) (n:ND) (h:RepN X w gv vv dv uv n) (hg:n.goals.length≤4000) (hd:n.done.length≤4000) (hu:n.used.length≤4000) (hs:∀ g ∈ n.goals,g.1.length≤4000) (hs2:∀ g ∈ n.done,g.1.length≤4000) :
  Calls Tryz.prog 184 #[.agg #[gv,vv,dv,uv,.int .i64 n.vars]] w fun e w'=>e = .returned (.int .i64 (Zde n))∧Ext w w':=by
 obtain ⟨xs,h1⟩:=h.goals
 obtain ⟨ys,h2⟩:=h.vals
 obtain ⟨zs,h3⟩:=h.done
 have h4:=h.used
 obtain ⟨ga,gcap,rfl⟩:=Zad h1.owns
 obtain ⟨va,vcap,rfl⟩:=Zad h2.1
 obtain ⟨da,dcap,rfl⟩:=Zad h3.owns
 obtain ⟨ua,ucap,rfl⟩:=Zad h4
 have H1:=Zaa h1
 have H3:=Zaa h3
 have Hs:=Zaa hs
 have Hs2:=Zaa hs2
 obtain ⟨q0,hq0⟩:∃ q:Bool,q=(decide (40<n.goals.length) || decide (100<n.used.length)):=⟨_,rfl⟩
 have Hq0:=Zaa hq0
 clear h h1 h2 h3 h4 hs hs2
 clear hq0
 by_cases c1:40<n.goals.length
 ·have c1':(40:Int)<n.goals.length:=by omega
  go_enter Tryz.func184,Tryz.ntmps184
  go_wp2
  go_loopg [3,4] (n.goals.length+1) (fun gk ov i wr=>∃ (k:Nat) (o:Bool),i = .int .i64 k∧ov = .bool o∧k≤n.goals.length∧n.goals.length - k<gk∧Ext w wr∧o=(q0 || (n.goals.take k).any bigG) ∧
    wr.heap[w.heap.size]?=some (.cells #[.slice ga n.goals.length gcap,.slice va n.vals.length vcap,.slice da n.done.length dcap,.slice ua n.used.length ucap,.int .i64 n.vars] 152 (0,0)))
  case atStart=>exact ⟨0,q0,by go_num,(by rw [Hq0.out]; simp [c1] <;> omega),Nat.zero_le _,by omega,(Ext.of (by repeat' (first | with_reducible exact Kept.refl _ _ | with_reducible apply Kept.drew | with_reducible apply Kept.drewN | with_reducible apply Kept.alloc | with_reducible refine Kept.setCell ?_ ?_ _ | exact fun h=>absurd h (by simp <;> omega)))),by simp,heap_alloc_new w _⟩
  case round =>
   obtain ⟨k,o,rfl,rfl,hk,hgk,hext,ho,hb⟩:=hrel
   obtain ⟨b0,b1,b2,b3,b4,bf⟩:=box5 hb
   have Hext:=Zaa hext
   have Hb:=Zaa hb
   have Ho:=Zaa ho
   have hsz:=Zac hb
   clear hext hb ho
   by_cases hlt:k<n.goals.length
   ·obtain ⟨p,hp⟩:∃ p,n.goals[k]?=some p:=⟨_,List.getElem?_eq_getElem hlt⟩
    obtain ⟨t,d⟩:=p
    obtain ⟨a',b',c',x0,x1,x2,x3,hrt⟩:=H1.out.all k _ hp
    obtain ⟨s3,n3,c3a,c3l,c3c,rfl,rfl,rfl⟩:=hrt.shape
    have hrow':=H1.out.ext (Y:=X) (B':=0) Hext.out (fun _ _ h=>h) (Nat.le_refl _)
    obtain ⟨g,cap',cur,hge,hBg,hgb,hcp⟩:=Zal hrow'.owns (by omega)
    simp only [Value.slice.injEq] at hge
    obtain ⟨rfl,_,rfl⟩:=hge
    have y0:wr.cell? ⟨g,k * 4,none⟩=some (.string s3):=Zaf hrow'.owns _ _ x0
    have y1:wr.cell? ⟨g,k * 4+1,none⟩=some (.int .i64 n3):=Zaf hrow'.owns _ _ x1
    have y2:wr.cell? ⟨g,k * 4+2,none⟩=some (.slice c3a c3l c3c):=Zaf hrow'.owns _ _ x2
    have ht4:t.length≤4000:=Hs.out _ (List.mem_of_getElem? hp)
    have HI:=Zaa (Zgi t.length wr X _ _ _ t (Nat.le_refl _) ht4 (hrt.ext Hext.out (fun _ _ h=>h)))
    have Hn:Hid ((n.goals.take (k+1)).any bigG=((n.goals.take k).any bigG || decide (30<t.length))):=Zly hp
    clear hgb hrow' hrt x0 x1 x2 x3 hp
    go_wp2_with fail
    refine HI.out.mono ?_
    rintro e w1 ⟨rfl,hext1⟩
    have Hext1:=Zaa hext1
    clear hext1 y0 y1 y2
    cases o
    ·go_wp2
     go_roundg (n.goals.length - k)
     case measure=>omega
     case rel =>
      refine ⟨k+1,decide (30<t.length),by go_num,(by simp <;> omega),by omega,by omega,Hext.out.trans (Hext1.out.mono Hext.out.size),?_,(Hext1.out.block _ hsz).trans Hb.out⟩
      have:=Ho.out
      rw [Hn.out,← Bool.or_assoc,← this]; simp
    ·go_wp2
     go_roundg (n.goals.length - k)
     case measure=>omega
     case rel =>
      refine ⟨k+1,true,by go_num,rfl,by omega,by omega,Hext.out.trans (Hext1.out.mono Hext.out.size),?_,(Hext1.out.block _ hsz).trans Hb.out⟩
      have:=Ho.out
      rw [Hn.out,← Bool.or_assoc,← this]; simp
   ·have hek:k=n.goals.length:=by omega
    subst hek
    have Ho':Hid (o=(q0 || n.goals.any bigG)):=by have:=Ho.out; rw [List.take_length] at this; exact this
    clear Ho
    go_wp2
    have Hext2:=Zaa Hext.out
    have Hb2:=Zaa Hb.out
    have Ho2:=Zaa Ho'.out
    obtain ⟨o2,ho2⟩:∃ o2:Bool,o2=o:=⟨_,rfl⟩
    subst ho2
    clear Ho' Hext Hb b0 b1 b2 b3 b4 bf
    go_loopg [3,6] (n.done.length+1) (fun gk ov i wr=>∃ (k:Nat) (o:Bool),i = .int .i64 k∧ov = .bool o∧k≤n.done.length∧n.done.length - k<gk∧Ext w wr∧o=(o2 || (n.done.take k).any bigG) ∧
      wr.heap[w.heap.size]?=some (.cells #[.slice ga n.goals.length gcap,.slice va n.vals.length vcap,.slice da n.done.length dcap,.slice ua n.used.length ucap,.int .i64 n.vars] 152 (0,0)))
    case atStart=>exact ⟨0,o2,by go_num,rfl,Nat.zero_le _,by omega,Hext2.out,by simp,Hb2.out⟩
    case round =>
     obtain ⟨k,o,rfl,rfl,hk,hgk,hext,ho,hb⟩:=hrel
     obtain ⟨b0,b1,b2,b3,b4,bf⟩:=box5 hb
     have Hext:=Zaa hext
     have Hb:=Zaa hb
     have Ho:=Zaa ho
     have hsz:=Zac hb
     clear hext hb ho
     by_cases hlt:k<n.done.length
     ·obtain ⟨p,hp⟩:∃ p,n.done[k]?=some p:=⟨_,List.getElem?_eq_getElem hlt⟩
      obtain ⟨t,d⟩:=p
      obtain ⟨a',b',c',x0,x1,x2,x3,hrt⟩:=H3.out.all k _ hp
      obtain ⟨s3,n3,c3a,c3l,c3c,rfl,rfl,rfl⟩:=hrt.shape
      have hrow':=H3.out.ext (Y:=X) (B':=0) Hext.out (fun _ _ h=>h) (Nat.le_refl _)
      obtain ⟨g,cap',cur,hge,hBg,hgb,hcp⟩:=Zal hrow'.owns (by omega)
      simp only [Value.slice.injEq] at hge
      obtain ⟨rfl,_,rfl⟩:=hge
      have y0:wr.cell? ⟨g,k * 4,none⟩=some (.string s3):=Zaf hrow'.owns _ _ x0
      have y1:wr.cell? ⟨g,k * 4+1,none⟩=some (.int .i64 n3):=Zaf hrow'.owns _ _ x1
      have y2:wr.cell? ⟨g,k * 4+2,none⟩=some (.slice c3a c3l c3c):=Zaf hrow'.owns _ _ x2
      have ht4:t.length≤4000:=Hs2.out _ (List.mem_of_getElem? hp)
      have HI:=Zaa (Zgi t.length wr X _ _ _ t (Nat.le_refl _) ht4 (hrt.ext Hext.out (fun _ _ h=>h)))
      have Hn:Hid ((n.done.take (k+1)).any bigG=((n.done.take k).any bigG || decide (30<t.length))):=Zly hp
      clear hgb hrow' hrt x0 x1 x2 x3 hp
      go_wp2_with fail
      refine HI.out.mono ?_
      rintro e w1 ⟨rfl,hext1⟩
      have Hext1:=Zaa hext1
      clear hext1 y0 y1 y2
      cases o
      ·go_wp2
       go_roundg (n.done.length - k)
       case measure=>omega
       case rel =>
        refine ⟨k+1,decide (30<t.length),by go_num,(by simp <;> omega),by omega,by omega,Hext.out.trans (Hext1.out.mono Hext.out.size),?_,(Hext1.out.block _ hsz).trans Hb.out⟩
        have:=Ho.out
        rw [Hn.out,← Bool.or_assoc,← this]; simp
      ·go_wp2
       go_roundg (n.done.length - k)
       case measure=>omega
       case rel =>
        refine ⟨k+1,true,by go_num,rfl,by omega,by omega,Hext.out.trans (Hext1.out.mono Hext.out.size),?_,(Hext1.out.block _ hsz).trans Hb.out⟩
        have:=Ho.out
        rw [Hn.out,← Bool.or_assoc,← this]; simp
     ·have hek:k=n.done.length:=by omega
      subst hek
      have Ho':Hid (o=(o2 || n.done.any bigG)):=by have:=Ho.out; rw [List.take_length] at this; exact this
      clear Ho
      cases o
      ·by_cases hg0:n.goals=[]
       ·have hg1:((n.goals.length:Int) == 0)=true:=by rw [hg0]; rfl
        have Hg0:=Zaa hg0
        clear hg0
        go_wp2
        go_ret
        refine ⟨?_,Hext.out⟩
        have hk:Zde n=2:=by unfold Zde Zjf; rw [← Hq0.out,← Ho2.out,← Ho'.out,if_neg (by simp),if_pos Hg0.out]
        rw [hk]; rfl
       ·have hg1:((n.goals.length:Int) == 0)=false:=by
         rw [beq_eq_false_iff_ne]
         cases hgg:n.goals with
         | nil=>exact absurd hgg hg0
         | cons _ _=>simp; omega
        have Hg0:=Zaa hg0
        clear hg0
        go_wp2
        go_ret
        refine ⟨?_,Hext.out⟩
        have hk:Zde n=1:=by unfold Zde Zjf; rw [← Hq0.out,← Ho2.out,← Ho'.out,if_neg (by simp),if_neg Hg0.out]
        rw [hk]; rfl
      ·go_wp2
       go_ret
       refine ⟨?_,Hext.out⟩
       have hk:Zde n=3:=by unfold Zde Zjf; rw [← Hq0.out,← Ho2.out,← Ho'.out]; rfl
       rw [hk]; rfl
 ·have c1':¬ (40:Int)<n.goals.length:=by omega
  go_enter Tryz.func184,Tryz.ntmps184
  go_wp2
  go_loopg [3,4] (n.goals.length+1) (fun gk ov i wr=>∃ (k:Nat) (o:Bool),i = .int .i64 k∧ov = .bool o∧k≤n.goals.length∧n.goals.length - k<gk∧Ext w wr∧o=(q0 || (n.goals.take k).any bigG) ∧
    wr.heap[w.heap.size]?=some (.cells #[.slice ga n.goals.length gcap,.slice va n.vals.length vcap,.slice da n.done.length dcap,.slice ua n.used.length ucap,.int .i64 n.vars] 152 (0,0)))
  case atStart=>exact ⟨0,q0,by go_num,(by rw [Hq0.out]; simp [c1] <;> omega),Nat.zero_le _,by omega,(Ext.of (by repeat' (first | with_reducible exact Kept.refl _ _ | with_reducible apply Kept.drew | with_reducible apply Kept.drewN | with_reducible apply Kept.alloc | with_reducible refine Kept.setCell ?_ ?_ _ | exact fun h=>absurd h (by simp <;> omega)))),by simp,heap_alloc_new w _⟩
  case round =>
   obtain ⟨k,o,rfl,rfl,hk,hgk,hext,ho,hb⟩:=hrel
   obtain ⟨b0,b1,b2,b3,b4,bf⟩:=box5 hb
   have Hext:=Zaa hext
   have Hb:=Zaa hb
   have Ho:=Zaa ho
   have hsz:=Zac hb
   clear hext hb ho
   by_cases hlt:k<n.goals.length
   ·obtain ⟨p,hp⟩:∃ p,n.goals[k]?=some p:=⟨_,List.getElem?_eq_getElem hlt⟩
    obtain ⟨t,d⟩:=p
    obtain ⟨a',b',c',x0,x1,x2,x3,hrt⟩:=H1.out.all k _ hp
    obtain ⟨s3,n3,c3a,c3l,c3c,rfl,rfl,rfl⟩:=hrt.shape
    have hrow':=H1.out.ext (Y:=X) (B':=0) Hext.out (fun _ _ h=>h) (Nat.le_refl _)
    obtain ⟨g,cap',cur,hge,hBg,hgb,hcp⟩:=Zal hrow'.owns (by omega)
    simp only [Value.slice.injEq] at hge
    obtain ⟨rfl,_,rfl⟩:=hge
    have y0:wr.cell? ⟨g,k * 4,none⟩=some (.string s3):=Zaf hrow'.owns _ _ x0
    have y1:wr.cell? ⟨g,k * 4+1,none⟩=some (.int .i64 n3):=Zaf hrow'.owns _ _ x1
    have y2:wr.cell? ⟨g,k * 4+2,none⟩=some (.slice c3a c3l c3c):=Zaf hrow'.owns _ _ x2
    have ht4:t.length≤4000:=Hs.out _ (List.mem_of_getElem? hp)
    have HI:=Zaa (Zgi t.length wr X _ _ _ t (Nat.le_refl _) ht4 (hrt.ext Hext.out (fun _ _ h=>h)))
    have Hn:Hid ((n.goals.take (k+1)).any bigG=((n.goals.take k).any bigG || decide (30<t.length))):=Zly hp
    clear hgb hrow' hrt x0 x1 x2 x3 hp
    go_wp2_with fail
    refine HI.out.mono ?_
    rintro e w1 ⟨rfl,hext1⟩
    have Hext1:=Zaa hext1
    clear hext1 y0 y1 y2
    cases o
    ·go_wp2
     go_roundg (n.goals.length - k)
     case measure=>omega
     case rel =>
      refine ⟨k+1,decide (30<t.length),by go_num,(by simp <;> omega),by omega,by omega,Hext.out.trans (Hext1.out.mono Hext.out.size),?_,(Hext1.out.block _ hsz).trans Hb.out⟩
      have:=Ho.out
      rw [Hn.out,← Bool.or_assoc,← this]; simp
    ·go_wp2
     go_roundg (n.goals.length - k)
     case measure=>omega
     case rel =>
      refine ⟨k+1,true,by go_num,rfl,by omega,by omega,Hext.out.trans (Hext1.out.mono Hext.out.size),?_,(Hext1.out.block _ hsz).trans Hb.out⟩
      have:=Ho.out
      rw [Hn.out,← Bool.or_assoc,← this]; simp
   ·have hek:k=n.goals.length:=by omega
    subst hek
    have Ho':Hid (o=(q0 || n.goals.any bigG)):=by have:=Ho.out; rw [List.take_length] at this; exact this
    clear Ho
    go_wp2
    have Hext2:=Zaa Hext.out
    have Hb2:=Zaa Hb.out
    have Ho2:=Zaa Ho'.out
    obtain ⟨o2,ho2⟩:∃ o2:Bool,o2=o:=⟨_,rfl⟩
    subst ho2
    clear Ho' Hext Hb b0 b1 b2 b3 b4 bf
    go_loopg [3,6] (n.done.length+1) (fun gk ov i wr=>∃ (k:Nat) (o:Bool),i = .int .i64 k∧ov = .bool o∧k≤n.done.length∧n.done.length - k<gk∧Ext w wr∧o=(o2 || (n.done.take k).any bigG) ∧
      wr.heap[w.heap.size]?=some (.cells #[.slice ga n.goals.length gcap,.slice va n.vals.length vcap,.slice da n.done.length dcap,.slice ua n.used.length ucap,.int .i64 n.vars] 152 (0,0)))
    case atStart=>exact ⟨0,o2,by go_num,rfl,Nat.zero_le _,by omega,Hext2.out,by simp,Hb2.out⟩
    case round =>
     obtain ⟨k,o,rfl,rfl,hk,hgk,hext,ho,hb⟩:=hrel
     obtain ⟨b0,b1,b2,b3,b4,bf⟩:=box5 hb
     have Hext:=Zaa hext
     have Hb:=Zaa hb
     have Ho:=Zaa ho
     have hsz:=Zac hb
     clear hext hb ho
     by_cases hlt:k<n.done.length
     ·obtain ⟨p,hp⟩:∃ p,n.done[k]?=some p:=⟨_,List.getElem?_eq_getElem hlt⟩
      obtain ⟨t,d⟩:=p
      obtain ⟨a',b',c',x0,x1,x2,x3,hrt⟩:=H3.out.all k _ hp
      obtain ⟨s3,n3,c3a,c3l,c3c,rfl,rfl,rfl⟩:=hrt.shape
      have hrow':=H3.out.ext (Y:=X) (B':=0) Hext.out (fun _ _ h=>h) (Nat.le_refl _)
      obtain ⟨g,cap',cur,hge,hBg,hgb,hcp⟩:=Zal hrow'.owns (by omega)
      simp only [Value.slice.injEq] at hge
      obtain ⟨rfl,_,rfl⟩:=hge
      have y0:wr.cell? ⟨g,k * 4,none⟩=some (.string s3):=Zaf hrow'.owns _ _ x0
      have y1:wr.cell? ⟨g,k * 4+1,none⟩=some (.int .i64 n3):=Zaf hrow'.owns _ _ x1
      have y2:wr.cell? ⟨g,k * 4+2,none⟩=some (.slice c3a c3l c3c):=Zaf hrow'.owns _ _ x2
      have ht4:t.length≤4000:=Hs2.out _ (List.mem_of_getElem? hp)
      have HI:=Zaa (Zgi t.length wr X _ _ _ t (Nat.le_refl _) ht4 (hrt.ext Hext.out (fun _ _ h=>h)))
      have Hn:Hid ((n.done.take (k+1)).any bigG=((n.done.take k).any bigG || decide (30<t.length))):=Zly hp
      clear hgb hrow' hrt x0 x1 x2 x3 hp
      go_wp2_with fail
      refine HI.out.mono ?_
      rintro e w1 ⟨rfl,hext1⟩
      have Hext1:=Zaa hext1
      clear hext1 y0 y1 y2
      cases o
      ·go_wp2
       go_roundg (n.done.length - k)
       case measure=>omega
       case rel =>
        refine ⟨k+1,decide (30<t.length),by go_num,(by simp <;> omega),by omega,by omega,Hext.out.trans (Hext1.out.mono Hext.out.size),?_,(Hext1.out.block _ hsz).trans Hb.out⟩
        have:=Ho.out
        rw [Hn.out,← Bool.or_assoc,← this]; simp
      ·go_wp2
       go_roundg (n.done.length - k)
       case measure=>omega
       case rel =>
        refine ⟨k+1,true,by go_num,rfl,by omega,by omega,Hext.out.trans (Hext1.out.mono Hext.out.size),?_,(Hext1.out.block _ hsz).trans Hb.out⟩
        have:=Ho.out
        rw [Hn.out,← Bool.or_assoc,← this]; simp
     ·have hek:k=n.done.length:=by omega
      subst hek
      have Ho':Hid (o=(o2 || n.done.any bigG)):=by have:=Ho.out; rw [List.take_length] at this; exact this
      clear Ho
      cases o
      ·by_cases hg0:n.goals=[]
       ·have hg1:((n.goals.length:Int) == 0)=true:=by rw [hg0]; rfl
        have Hg0:=Zaa hg0
        clear hg0
        go_wp2
        go_ret
        refine ⟨?_,Hext.out⟩
        have hk:Zde n=2:=by unfold Zde Zjf; rw [← Hq0.out,← Ho2.out,← Ho'.out,if_neg (by simp),if_pos Hg0.out]
        rw [hk]; rfl
       ·have hg1:((n.goals.length:Int) == 0)=false:=by
         rw [beq_eq_false_iff_ne]
         cases hgg:n.goals with
         | nil=>exact absurd hgg hg0
         | cons _ _=>simp; omega
        have Hg0:=Zaa hg0
        clear hg0
        go_wp2
        go_ret
        refine ⟨?_,Hext.out⟩
        have hk:Zde n=1:=by unfold Zde Zjf; rw [← Hq0.out,← Ho2.out,← Ho'.out,if_neg (by simp),if_neg Hg0.out]
        rw [hk]; rfl
      ·go_wp2
       go_ret
       refine ⟨?_,Hext.out⟩
       have hk:Zde n=3:=by unfold Zde Zjf; rw [← Hq0.out,← Ho2.out,← Ho'.out]; rfl
       rw [hk]; rfl
theorem RepT.repX:∀ (f:Nat) {w:World} {lo hi:Nat} {a b c:Value} {l:List Sym},RepT f w lo hi a b c l→RepX (fun _=>False) f w a b c l:=by
 intro f
 induction f with
 | zero=>intro w lo hi a b c l h; exact h.elim
 | succ f ih =>
  intro w lo hi a b c l h
  rcases h with h | ⟨nm,ls,xs,h1,h2,h3,h4,h5,h6,h7⟩
  ·exact Or.inl h
  ·refine Or.inr ⟨nm,ls,xs,h1,h2,h3,h4,Zbe h5 (Nat.zero_le _),fun _ _ h=>h,fun i l' hl => ?_⟩
   obtain ⟨a',b',c',g1,g2,g3,g4⟩:=h7 i l' hl
   exact ⟨a',b',c',g1,g2,g3,ih g4⟩
theorem RepT.rep {f:Nat} {w:World} {lo hi:Nat} {a b c:Value} {l:List Sym} (h:RepT f w lo hi a b c l):Rep (fun _=>False) w a b c l:=⟨f,h.repX⟩
theorem RepX.repT {X:Nat→Prop}:∀ (f:Nat) {w:World} {a b c:Value} {l:List Sym},RepX X f w a b c l→RepT f w 0 w.heap.size a b c l:=by
 intro f
 induction f with
 | zero=>intro w a b c l h; exact h.elim
 | succ f ih =>
  intro w a b c l h
  rcases h with h | ⟨nm,ls,xs,h1,h2,h3,h4,h5,h6,h7⟩
  ·exact Or.inl h
  ·refine Or.inr ⟨nm,ls,xs,h1,h2,h3,h4,h5,fun k hk=>(h5.lt k hk).2,fun i l' hl => ?_⟩
   obtain ⟨a',b',c',g1,g2,g3,g4⟩:=h7 i l' hl
   exact ⟨a',b',c',g1,g2,g3,ih g4⟩
theorem Rep.repT {X:Nat→Prop} {w:World} {a b c:Value} {l:List Sym} (h:Rep X w a b c l) {f:Nat} (hf:l.length≤f):RepT f w 0 w.heap.size a b c l:=by
 obtain ⟨g,h⟩:=h
 exact (h.len.mono hf).repT f
theorem Kids.rowT {f:Nat} {w:World} {lo:Nat} {cv:Value} {acc:List (List Sym)} {xs:List Value} (h:Kids f w lo cv acc xs):RowT (fun _=>False) w cv acc xs :=
 ⟨Zbe h.owns (Nat.zero_le _),fun _ _ h=>h,fun i l' hl=>by
  obtain ⟨a,b,c,_,_,x0,x1,x2,_,_,_,g⟩:=h.all i l' hl
  exact ⟨a,b,c,x0,x1,x2,g.rep⟩⟩
structure RowC (X:Nat→Prop) (w:World) (lv:Value) (cs:List Cls) (xs:List Value):Prop where
 owns:w.ownsRow 0 185 5 lv cs.length xs
 all:∀ (i:Nat) (c:Cls),cs[i]?=some c→∃ a b d bv ys,xs[i * 5]?=some a∧xs[i * 5+1]?=some b∧xs[i * 5+2]?=some d∧xs[i * 5+3]?=some bv∧xs[i * 5+4]?=some (.int .i64 c.n)∧Rep X w a b d c.head∧RowT X w bv c.body ys
theorem RowC.ext {X Y:Nat→Prop} {w w':World} {lv:Value} {cs:List Cls} {xs:List Value} (h:RowC X w lv cs xs) (e:Ext w w') (hy:∀ k,k<w.heap.size→Y k→X k):RowC Y w' lv cs xs :=
 ⟨Zan h.owns (fun k hk=>e.block k (h.owns.lt k hk).2),fun i c hc=>by
  obtain ⟨a,b,d,bv,ys,x0,x1,x2,x3,x4,g1,g2⟩:=h.all i c hc
  exact ⟨a,b,d,bv,ys,x0,x1,x2,x3,x4,g1.ext e hy,g2.ext e hy⟩⟩
theorem Zna {xs:List (List Value)} (h5:∀ x ∈ xs,x.length=5) {i:Nat} {x:List Value} (hx:xs[i]?=some x) (j:Nat) (hj:j<5):xs.flatten[i * 5+j]?=x[j]?:=by
 induction xs generalizing i with
 | nil=>simp at hx
 | cons y ys ih =>
  have hy:=h5 y (by simp)
  cases i with
  | zero =>
   simp at hx; subst hx
   rw [List.flatten_cons,List.getElem?_append_left (by omega)]
   simp
  | succ i =>
   rw [List.flatten_cons,List.getElem?_append_right (by omega),hy]
   have e:(i+1) * 5+j - 5=i * 5+j:=by omega
   rw [e]
   exact ih (fun z hz=>h5 z (by simp [hz])) (by simpa using hx)
theorem ClsRow.rowC {w:World} {lo:Nat} {lv:Value} {cs:List Cls} {xs:List (List Value)} (h:ClsRow w lo lv cs xs):RowC (fun _=>False) w lv cs xs.flatten :=
 ⟨Zbe h.owns (Nat.zero_le _),fun i c hc=>by
  obtain ⟨x,hx,s,n,ca,cl,cc,bv,lo',hi',lo'',ys,rfl,g1,g2⟩:=h.all i c hc
  refine ⟨_,_,_,bv,ys,?_,?_,?_,?_,?_,g1.rep,g2.rowT⟩
  ·have:=Zna h.five hx 0 (by omega); simpa using this
  ·have:=Zna h.five hx 1 (by omega); simpa using this
  ·have:=Zna h.five hx 2 (by omega); simpa using this
  ·have:=Zna h.five hx 3 (by omega); simpa using this
  ·have:=Zna h.five hx 4 (by omega); simpa using this⟩
theorem Zkk {w:World} {M:Nat} {cs:Array Value} {t:TypeId} {fr:Nat × Nat} (hM:w.heap[M]?=some (.cells cs t fr)) (ht:t≠183) {k:Nat} (hk:Zeq w k):k≠M:=by
 rintro rfl
 obtain ⟨cur,hc⟩:=hk
 rw [hM] at hc
 simp at hc
 exact ht hc.2.1
theorem Rep.box {X:Nat→Prop} {w w':World} {M:Nat} {cs:Array Value} {t:TypeId} {fr:Nat × Nat} {a b c:Value} {l:List Sym} (h:Rep X w a b c l) (hM:w.heap[M]?=some (.cells cs t fr)) (ht:t≠183) (hk:Kept (fun k=>k=M) w w'):Rep X w' a b c l :=
 h.on (fun k hk' hx hti=>⟨hk.block k hk' (Zkk hM ht hti),hx⟩)
theorem RowT.box {X:Nat→Prop} {w w':World} {M:Nat} {cs:Array Value} {t:TypeId} {fr:Nat × Nat} {cv:Value} {ls:List (List Sym)} {xs:List Value} (h:RowT X w cv ls xs) (hM:w.heap[M]?=some (.cells cs t fr)) (ht:t≠183) (hk:Kept (fun k=>k=M) w w'):RowT X w' cv ls xs :=
 h.on (fun k hk' hx hti=>⟨hk.block k hk' (Zkk hM ht hti),hx⟩)
theorem Zce {w w':World} {M:Nat} {cs:Array Value} {t:TypeId} {fr:Nat × Nat} {B:Nat} {e:TypeId} {size n:Nat} {v:Value} {xs:List Value} (h:w.ownsRow B e size v n xs) (hM:w.heap[M]?=some (.cells cs t fr)) (ht:e≠t) (hk:Kept (fun k=>k=M) w w'):w'.ownsRow B e size v n xs :=
 hk.owns h (fun k hk' e'=>by subst e'; exact Zah h ht hM hk')
theorem RowG.box {X:Nat→Prop} {w w':World} {M:Nat} {cs:Array Value} {t:TypeId} {fr:Nat × Nat} {B n:Nat} {cv:Value} {gs:List (List Sym × Nat)} {xs:List Value} (h:RowG X w B cv n gs xs) (hM:w.heap[M]?=some (.cells cs t fr)) (ht:t≠183) (ht':200≠t) (hk:Kept (fun k=>k=M) w w'):RowG X w' B cv n gs xs :=
 ⟨Zce h.owns hM ht' hk,h.len,fun i s hs=>by
  obtain ⟨a,b,c,x0,x1,x2,x3,g⟩:=h.all i s hs
  exact ⟨a,b,c,x0,x1,x2,x3,g.box hM ht hk⟩⟩
theorem RepN.box {X:Nat→Prop} {w w':World} {M:Nat} {cs:Array Value} {t:TypeId} {fr:Nat × Nat} {gv vv dv uv:Value} {n:ND} (h:RepN X w gv vv dv uv n) (hM:w.heap[M]?=some (.cells cs t fr)) (ht:t≠183) (ht':200≠t) (ht2:3≠t) (hk:Kept (fun k=>k=M) w w'):RepN X w' gv vv dv uv n:=by
 obtain ⟨xs,h1⟩:=h.goals
 obtain ⟨ys,h2⟩:=h.vals
 obtain ⟨zs,h3⟩:=h.done
 exact ⟨⟨xs,h1.box hM ht ht' hk⟩,⟨ys,h2.box hM ht hk⟩,⟨zs,h3.box hM ht ht' hk⟩,Zce h.used hM ht2 hk⟩
theorem Zxz {w:World} {B:Nat} {e:TypeId} {size n k:Nat} {v:Value} {xs:List Value} (h:w.ownsRow B e size v n xs) (hk:v.ownBlock=some k):∃ cur,w.heap[k]?=some (.cells cur e (0,0)):=by
 rcases h.2 with ⟨rfl,rfl⟩ | ⟨g,cap,cur,rfl,hb,hg,rest⟩
 ·simp [Value.ownBlock] at hk
 ·have:g=k:=by simpa [Value.ownBlock] using hk
  subst this
  exact ⟨cur,hg⟩
theorem RowT.aside {X:Nat→Prop} {w w':World} {B:Nat} {e:TypeId} {size m:Nat} {v cv:Value} {ys xs:List Value} {ls:List (List Sym)} (h:RowT X w cv ls xs) (ho:w.ownsRow B e size v m ys) (he:e≠183) (hk:Kept (Zbd v) w w'):RowT X w' cv ls xs :=
 h.on (fun k hk' hx ht=>by
  obtain ⟨cur,hc⟩:=ht
  exact ⟨hk.block k hk' (Zah ho he hc),hx⟩)
theorem RowG.aside {X:Nat→Prop} {w w':World} {B B' n:Nat} {e:TypeId} {size m:Nat} {v cv:Value} {ys xs:List Value} {gs:List (List Sym × Nat)} (h:RowG X w B' cv n gs xs) (ho:w.ownsRow B e size v m ys) (he:e≠183) (he':e≠200) (hk:Kept (Zbd v) w w'):RowG X w' B' cv n gs xs :=
 h.on (fun k hk'=>by
  obtain ⟨cur,hc⟩:=Zxz h.owns hk'
  exact hk.block k (h.owns.lt k hk').2 (Zah ho he' hc)) (fun k hk' hx ht=>by
  obtain ⟨cur,hc⟩:=ht
  exact ⟨hk.block k hk' (Zah ho he hc),hx⟩)
theorem Tryz.infoGC:(Tryz.prog.info? 292).map (fun i=>(i.zero,i.size,i.bytes))=some (some (.agg #[.string ⟨#[]⟩,.int .i64 0,.int .i64 0,.int .i64 0,.int .i64 0,.int .i64 0]),6,56):=by kernel_rfl
def Zkl (gs:List GC) (s:Sym):Nat:=gs.findIdx (fun c=>Zel c.sym s)
theorem Zya {gs:List GC} {s:Sym} {k:Nat} {c:GC} (hc:gs[k]?=some c) (h:Zel c.sym s=true) (hb:∀ i d,i<k→gs[i]?=some d→Zel d.sym s=false):Zkl gs s=k:=by
 unfold Zkl
 obtain ⟨hk,rfl⟩:=List.getElem?_eq_some_iff.1 hc
 rw [List.findIdx_eq hk]
 exact ⟨h,fun j hj=>hb j _ hj (List.getElem?_eq_getElem (by omega))⟩
theorem Zug {gs:List GC} {s:Sym} (hb:∀ i d,i<gs.length→gs[i]?=some d→Zel d.sym s=false):Zkl gs s=gs.length:=by
 unfold Zkl
 rw [List.findIdx_eq_length]
 intro c hc
 obtain ⟨i,hi,rfl⟩:=List.getElem_of_mem hc
 exact hb i _ hi (List.getElem?_eq_getElem hi)
theorem gc_one {s:ByteArray} {a b c d e:Int}:∀ u ∈ (#[Value.string s,.int .i64 a,.int .i64 b,.int .i64 c,.int .i64 d,.int .i64 e]:Array Value).toList,u.oneCell'=true:=by
 intro u hu
 simp at hu
 rcases hu with rfl | rfl | rfl | rfl | rfl | rfl <;> rfl
def notV:Value→Value
 | .bool b => .bool (!b)
 | v=>v
theorem Zfk {P:Program} {W w':World} {a:Act} {o:Oper} {v x' v':Value} (s x:Operand) (t:TypeId) (ho:o.op = .call { callee := .builtin .append,args:=#[s,x],argTypes:=#[t,t] }) (hs:a.eval s=v) (hx:a.eval x=x') (hr:(Builtin.append_ #[t,t] o.type #[v,x']).run P W = .ok v' w'):(execOp a.eval o).run P W = .ok (.value v') w':=by
 unfold execOp
 simp only [ho,resolve,invoke,builtin,Sem.run_bind,Sem.run_pure,Result.andThen_ok,List.map_toArray,List.map_cons,List.map_nil,hs,hx,hr]
def Zsf (gb:Nat) (v:Value) (gs:List GC) (s:Sym) (w w':World):Prop:=∃ v',GAt w' gb v' (gs++[⟨s,0,Zkl gs s,0⟩])∧Kept (fun k=>k=gb∨Zbd v k) w w'∧∀ k,Zbd v' k→Zbd v k∨w.heap.size≤k
set_option maxRecDepth 10000 in
set_option maxHeartbeats 4000000 in
theorem Znb (w:World) (gb:Nat) (v:Value) (gs:List GC) (s:Sym) (h:GAt w gb v gs) (hl:gs.length≤4000) :
  Calls Tryz.prog 187 #[.pointer (some ⟨gb,0,none⟩),.agg #[.string ⟨s.name.toArray⟩,.int .i64 s.num,.int .i64 s.args]] w fun e w'=>e = .returned (.tuple #[])∧Zsf gb v gs s w w':=by
 obtain ⟨va,vcap,rfl⟩:=Zad h.owns
 have hgb:=Zac h.box
 have H:=Zaa h
 clear h
 go_enter Tryz.func187,Tryz.ntmps187
 go_wp2
 go_loopg [4] (gs.length+1) (fun gk iv wr=>∃ (k:Nat),iv = .int .i64 k∧k≤gs.length∧gs.length - k<gk∧Ext w wr∧wr.heap[w.heap.size]?=some (.cells #[.string ⟨s.name.toArray⟩,.int .i64 s.num,.int .i64 s.args] 133 (0,0))∧∀ i d,i<k→gs[i]?=some d→Zel d.sym s=false)
 case atStart=>exact ⟨0,by go_num,Nat.zero_le _,by omega,(Ext.of (by repeat' (first | with_reducible exact Kept.refl _ _ | with_reducible apply Kept.drew | with_reducible apply Kept.drewN | with_reducible apply Kept.alloc | with_reducible refine Kept.setCell ?_ ?_ _ | exact fun h=>absurd h (by simp <;> omega)))),heap_alloc_new w _,fun i d h=>by omega⟩
 case round =>
  obtain ⟨k,rfl,hk,hgk,hext,hbox,hbef⟩:=hrel
  have hsr:=hext.size
  have hG:=H.out.ext hext
  have b0:wr.cell? ⟨gb,0,none⟩=some (.slice va gs.length vcap):=Zab hG.box 0 _ rfl
  have hgb':=Zac hG.box
  obtain ⟨s0,s1,s2,sf⟩:=box3 hbox
  have hwb:=Zac hbox
  have gf:=fun i=>Zae hG.box i
  have HG:=Zaa hG
  have Hext:=Zaa hext
  have Hbox:=Zaa hbox
  have Hbef:=Zaa hbef
  clear hG hext hbox hbef
  have Hdone:Hid (∀ (u:World) (v':Value) (w2:World),Ext wr u→Zkl gs s=k→Appended u 0 292 6 (.slice va gs.length vcap) (gs.length+1) (gcs gs++[.string ⟨s.name.toArray⟩,.int .i64 s.num,.int .i64 s.args,.int .i64 0,.int .i64 k,.int .i64 0]) v' w2→Zsf gb (.slice va gs.length vcap) gs s w (w2.setCell ⟨gb,0,none⟩ v')):=fun u v' w2 hu hpl hap=>by
   have hGu:=HG.out.ext hu
   have hsu:=hu.size
   have hblk:=(hap.kept.block gb (Zac hGu.box) (Zah hGu.owns (by decide) hGu.box)).trans hGu.box
   have hK:Kept (fun j=>j=gb) w2 (w2.setCell ⟨gb,0,none⟩ v'):=(Kept.refl (only gb) w2).put 0 _
   refine ⟨v',⟨Zai hblk 0 _,?_⟩,?_,fun j hj => ?_⟩
   ·have:=Zce hap.owns hblk (by decide) hK
    rw [gcs_snoc,hpl]
    simpa [gcV] using this
   ·have k1:Kept (fun k=>k=gb∨Zbd (.slice va gs.length vcap) k) w u:=(Kept.of_below (Hext.out.trans (hu.mono hsr))).mono (fun i hi h=>by omega)
    exact (k1.then hap.kept (fun i _ h=>Or.inr h)).then hK (fun i _ h=>Or.inl h)
   ·rcases hap.where_ with hw | ⟨g,hw,hg⟩
    ·exact Or.inl (hw.symm.trans hj)
    ·have:some g=some j:=hw.symm.trans hj
     simp at this
     exact Or.inr (by omega)
  by_cases hlt:k<gs.length
  ·obtain ⟨c,hc⟩:∃ c,gs[k]?=some c:=⟨_,List.getElem?_eq_getElem hlt⟩
   obtain ⟨cb,cap',he,hcb,hcap,_,_⟩:=HG.out.shape (by omega)
   simp only [Value.slice.injEq] at he
   obtain ⟨rfl,_,rfl⟩:=he
   obtain ⟨c0,c1,c2,_,_,_⟩:=HG.out.cell hc
   have HS:=Zaa (Zxv wr.drew c.sym s)
   have Hc:=Zaa hc
   clear hc
   go_wp2_with fail
   refine Zsd (by kernel_rfl) [.pur (.int .i64 k),.pur (.pointer (some ⟨gb,0,none⟩)),.pur (.pointer (some ⟨gb,0,none⟩)),.pur (.pointer (some ⟨gb,0,none⟩)),.pur (.slice (some ⟨cb,0,none⟩) gs.length vcap),.pur (.int .i64 gs.length),.pur (.bool true),.pur (.bool true),
    .pur (.pointer (some ⟨gb,0,none⟩)),.pur (.pointer (some ⟨gb,0,none⟩)),.pur (.pointer (some ⟨gb,0,none⟩)),.pur (.slice (some ⟨cb,0,none⟩) gs.length vcap),.pur (.int .i64 k),.pur (.pointer (some ⟨cb,k * 6,none⟩)),.pur (.pointer (some ⟨cb,k * 6,none⟩)),.pur (.agg #[.string ⟨c.sym.name.toArray⟩,.int .i64 c.sym.num,.int .i64 c.sym.args]),.pur (.agg #[.string ⟨s.name.toArray⟩,.int .i64 s.num,.int .i64 s.args]),
    .cal,.post notV,.post notV] 17 20 (by kernel_rfl)
    (fun r u=>r = .bool (Zel c.sym s)∧Ext wr u) (fun r u=>r = .bool (Zel c.sym s)∧Ext wr u) 207
    #[.agg #[.string ⟨c.sym.name.toArray⟩,.int .i64 c.sym.num,.int .i64 c.sym.args],.agg #[.string ⟨s.name.toArray⟩,.int .i64 s.num,.int .i64 s.args]] ?_ ?_ rfl (by decide) (Or.inr ⟨by decide,fun _ _ h=>h⟩) ?_
   ·refine HS.out.mono ?_
    rintro e u ⟨rfl,he⟩
    exact ⟨_,rfl,rfl,he.undrew⟩
   ·refine ⟨fun vc => ?_,fun vc => ?_,fun vc => ?_,fun vc => ?_,fun vc => ?_,fun vc => ?_,fun vc => ?_,fun vc => ?_,fun vc => ?_,fun vc => ?_,fun vc => ?_,fun vc => ?_,fun vc => ?_,fun vc => ?_,fun vc => ?_,fun vc => ?_,fun vc => ?_,fun vc => ?_,?_,?_,trivial⟩
    all_goals try (simp [pa,Kd.val,go_sem,b0,s0,s1,s2,c0,c1,c2,hlt]; done)
    all_goals
     rintro vc u (⟨rfl,_⟩ | ⟨rfl,_⟩) <;> simp [pa,Kd.val,go_sem,notV]
   rintro vc u ⟨rfl,hu⟩
   simp only [paAll,pa,Kd.val,if_true,Act.put,notV]
   have hsu:=hu.size
   have hgu0:=HG.out.ext hu
   have hbu:=(hu.block _ hwb).trans Hbox.out
   obtain ⟨s0,s1,s2,sf⟩:=box3 hbu
   have b0:u.cell? ⟨gb,0,none⟩=some (.slice (some ⟨cb,0,none⟩) gs.length vcap):=Zab hgu0.box 0 _ rfl
   have hgu:gb<u.heap.size:=Zac hgu0.box
   have HGu:Hid (GAt (u.drewN 1) gb (.slice (some ⟨cb,0,none⟩) gs.length vcap) gs):=hgu0.on (fun _ _=>rfl)
   have Hrow:Hid ((u.drewN 1).ownsRow 0 292 6 (.slice (some ⟨cb,0,none⟩) gs.length vcap) gs.length (gcs gs)):=HGu.out.owns
   have Hu:=Zaa hu
   have Hbu:=Zaa hbu
   clear hu hgu0 hbu c0 c1 c2
   cases hsv:Zel c.sym s with
   | false =>
    have Hsv:=Zaa hsv
    clear hsv
    simp only [List.setIfInBounds_toArray,Bool.not_false,Bool.not_true,List.set_cons_succ,List.set_cons_zero]
    go_wp2
    go_roundg (gs.length - k)
    case measure=>omega
    case rel =>
     refine ⟨k+1,by go_num,by omega,by omega,Hext.out.trans (Hu.out.mono hsr),Hbu.out,fun i d hi hd => ?_⟩
     by_cases e:i=k
     ·subst e
      rw [Hc.out] at hd
      simp at hd
      subst hd
      exact Hsv.out
     ·exact Hbef.out i d (by omega) hd
   | true =>
    have Hpl:=Zaa (Zya Hc.out hsv Hbef.out)
    clear hsv
    simp only [List.setIfInBounds_toArray,Bool.not_false,Bool.not_true,List.set_cons_succ,List.set_cons_zero]
    go_wp2_with fail
    have Hu':Hid (Ext wr u.drew):=Hu.out.trans ⟨rfl,rfl,rfl,Nat.le_refl _,fun _ _=>rfl⟩
    have hwu:w.heap.size<u.heap.size:=by omega
    refine Zoy (by kernel_rfl) [.pur (.pointer (some ⟨gb,0,none⟩)),.pur (.pointer (some ⟨gb,0,none⟩)),.pur (.pointer (some ⟨gb,0,none⟩)),.pur (.pointer (some ⟨gb,0,none⟩)),.pur (.slice (some ⟨cb,0,none⟩) gs.length vcap),.pur (.agg #[.string ⟨s.name.toArray⟩,.int .i64 s.num,.int .i64 s.args]),.pur (.int .i64 k),.pur (.agg #[.string ⟨s.name.toArray⟩,.int .i64 s.num,.int .i64 s.args,.int .i64 0,.int .i64 k,.int .i64 0]),.pur (.slice (some ⟨u.heap.size,0,none⟩) 1 1),
     .cal,.post (fun _ => .pointer (some ⟨gb,0,none⟩)),.post (fun _ => .pointer (some ⟨gb,0,none⟩)),.sto 0] 8 9 12 (by kernel_rfl)
     (fun v' w2=>Appended u.drew 0 292 6 (.slice (some ⟨cb,0,none⟩) gs.length vcap) (gs.length+1) (gcs gs++[.string ⟨s.name.toArray⟩,.int .i64 s.num,.int .i64 s.args,.int .i64 0,.int .i64 k,.int .i64 0]) v' w2)
     (fun v' w3=>Zsf gb (.slice (some ⟨cb,0,none⟩) gs.length vcap) gs s w w3)
     (u.drew.alloc (.cells #[.string ⟨s.name.toArray⟩,.int .i64 s.num,.int .i64 s.args,.int .i64 0,.int .i64 k,.int .i64 0] 292)) _ rfl (fun o h=>by simp at h; subst h; rfl) ?_ rfl (by decide) (Or.inl ⟨_,rfl⟩) ?_
    ·refine ⟨fun vc uu hu => ?_,fun vc uu hu => ?_,fun vc uu hu => ?_,fun vc uu hu => ?_,fun vc uu hu => ?_,fun vc uu hu => ?_,fun vc uu hu => ?_,fun vc uu hu => ?_,fun vc => ?_,fun vc => ?_,fun vc uu hu => ?_,fun vc uu hu => ?_,fun vc uu hu => ?_,trivial⟩
     all_goals try (simp [paAll,pa,Kd.val,go_sem]; done)
     ·rcases hu with rfl | rfl | h
      ·simp [paAll,pa,Kd.val,go_sem,b0]
      ·simp [paAll,pa,Kd.val,go_sem,b0,hgu]
      ·simp [Zgm] at h
     ·rcases hu with rfl | rfl | h
      ·simp [paAll,pa,Kd.val,go_sem,s0,s1,s2]
      ·simp [paAll,pa,Kd.val,go_sem,s0,s1,s2,hwu]
      ·simp [Zgm] at h
     ·obtain ⟨v',w',hrun,hap⟩:=Zew (P:=Tryz.prog) u.drew 264 264 0 292 Tryz.infoGC Tryz.underlying264 rfl (by decide) (.slice (some ⟨cb,0,none⟩) gs.length vcap) gs.length (gcs gs) Hrow.out #[.string ⟨s.name.toArray⟩,.int .i64 s.num,.int .i64 s.args,.int .i64 0,.int .i64 k,.int .i64 0] rfl gc_one (by omega) (Nat.zero_le _)
      refine ⟨v',w',?_,by simpa using hap⟩
      have hrun':(Builtin.append_ #[264,264] 264 #[.slice (some ⟨cb,0,none⟩) gs.length vcap,.slice (some ⟨u.heap.size,0,none⟩) 1 1]).run Tryz.prog (u.drew.alloc (.cells #[.string ⟨s.name.toArray⟩,.int .i64 s.num,.int .i64 s.args,.int .i64 0,.int .i64 k,.int .i64 0] 292)) = .ok v' w':=hrun
      exact Zfk (.tmp 31) (.tmp 35) 264 rfl (by simp [paAll,pa,Kd.val,go_sem]) (by simp [paAll,pa,Kd.val,go_sem]) hrun'
     ·have hap:Appended _ _ _ _ _ _ _ vc uu:=hu
      have hblk2:=(hap.kept.block gb hgu (Zah Hrow.out (by decide) HGu.out.box)).trans HGu.out.box
      obtain ⟨va2,vc2,rfl⟩:=Zad hap.owns
      refine ⟨uu.setCell ⟨gb,0,none⟩ _,?_,Hdone.out u.drew _ uu ?_ Hpl.out hap⟩
      ·simp [paAll,pa,Kd.val,go_sem,Zae hblk2,(Zab hblk2 0 _ rfl:uu.cell? ⟨gb,0,none⟩=_)]
      ·exact Hu'.out
    rintro vc u3 hout
    simp only [paAll,pa,Kd.val,if_true,Act.put,List.setIfInBounds_toArray,List.set_cons_succ,List.set_cons_zero]
    have Hout:=Zaa hout
    clear hout
    go_wp2
    go_end0
    exact ⟨rfl,Hout.out⟩
  ·have hek:k=gs.length:=by omega
   subst hek
   have hd:decide (((gs.length:Nat):Int)<((gs.length:Nat):Int))=false:=by simp
   have Hpl:=Zaa (Zug (fun i d hi hd'=>Hbef.out i d hi hd'))
   have HGu:Hid (∀ n,GAt (wr.drewN n) gb (.slice va gs.length vcap) gs):=fun n=>HG.out.on (fun _ _=>rfl)
   go_wp2_with fail
   go_quiet (fail)
   obtain ⟨u,hqu⟩:∃ u,u=wr.drewN nq:=⟨_,rfl⟩
   rw [← hqu]
   have b0:u.cell? ⟨gb,0,none⟩=some (.slice va gs.length vcap):=by rw [hqu]; exact b0
   have s0:u.cell? ⟨w.heap.size,0,none⟩=some (.string ⟨s.name.toArray⟩):=by rw [hqu]; exact s0
   have s1:u.cell? ⟨w.heap.size,1,none⟩=some (.int .i64 s.num):=by rw [hqu]; exact s1
   have s2:u.cell? ⟨w.heap.size,2,none⟩=some (.int .i64 s.args):=by rw [hqu]; exact s2
   have hgu:gb<u.heap.size:=by rw [hqu]; exact hgb'
   have hwu:w.heap.size<u.heap.size:=by rw [hqu]; exact hwb
   have HGu:Hid (GAt u.drew gb (.slice va gs.length vcap) gs):=by rw [hqu]; exact HGu.out (nq+1)
   have Hrow:Hid (u.drew.ownsRow 0 292 6 (.slice va gs.length vcap) gs.length (gcs gs)):=HGu.out.owns
   have Hu:Hid (Ext wr u):=by rw [hqu]; exact ⟨rfl,rfl,rfl,Nat.le_refl _,fun _ _=>rfl⟩
   clear hqu
   go_wp2_with fail
   have Hu':Hid (Ext wr u.drew):=Hu.out.trans ⟨rfl,rfl,rfl,Nat.le_refl _,fun _ _=>rfl⟩
   have hwu:w.heap.size<u.heap.size:=by omega
   refine Zoy (by kernel_rfl) [.pur (.pointer (some ⟨gb,0,none⟩)),.pur (.pointer (some ⟨gb,0,none⟩)),.pur (.pointer (some ⟨gb,0,none⟩)),.pur (.pointer (some ⟨gb,0,none⟩)),.pur (.slice va gs.length vcap),.pur (.agg #[.string ⟨s.name.toArray⟩,.int .i64 s.num,.int .i64 s.args]),.pur (.int .i64 gs.length),.pur (.agg #[.string ⟨s.name.toArray⟩,.int .i64 s.num,.int .i64 s.args,.int .i64 0,.int .i64 gs.length,.int .i64 0]),.pur (.slice (some ⟨u.heap.size,0,none⟩) 1 1),
    .cal,.post (fun _ => .pointer (some ⟨gb,0,none⟩)),.post (fun _ => .pointer (some ⟨gb,0,none⟩)),.sto 0] 8 9 12 (by kernel_rfl)
    (fun v' w2=>Appended u.drew 0 292 6 (.slice va gs.length vcap) (gs.length+1) (gcs gs++[.string ⟨s.name.toArray⟩,.int .i64 s.num,.int .i64 s.args,.int .i64 0,.int .i64 gs.length,.int .i64 0]) v' w2)
    (fun v' w3=>Zsf gb (.slice va gs.length vcap) gs s w w3)
    (u.drew.alloc (.cells #[.string ⟨s.name.toArray⟩,.int .i64 s.num,.int .i64 s.args,.int .i64 0,.int .i64 gs.length,.int .i64 0] 292)) _ rfl (fun o h=>by simp at h; subst h; rfl) ?_ rfl (by decide) (Or.inl ⟨_,rfl⟩) ?_
   ·refine ⟨fun vc uu hu => ?_,fun vc uu hu => ?_,fun vc uu hu => ?_,fun vc uu hu => ?_,fun vc uu hu => ?_,fun vc uu hu => ?_,fun vc uu hu => ?_,fun vc uu hu => ?_,fun vc => ?_,fun vc => ?_,fun vc uu hu => ?_,fun vc uu hu => ?_,fun vc uu hu => ?_,trivial⟩
    all_goals try (simp [paAll,pa,Kd.val,go_sem]; done)
    ·rcases hu with rfl | rfl | h
     ·simp [paAll,pa,Kd.val,go_sem,b0]
     ·simp [paAll,pa,Kd.val,go_sem,b0,hgu]
     ·simp [Zgm] at h
    ·rcases hu with rfl | rfl | h
     ·simp [paAll,pa,Kd.val,go_sem,s0,s1,s2]
     ·simp [paAll,pa,Kd.val,go_sem,s0,s1,s2,hwu]
     ·simp [Zgm] at h
    ·obtain ⟨v',w',hrun,hap⟩:=Zew (P:=Tryz.prog) u.drew 264 264 0 292 Tryz.infoGC Tryz.underlying264 rfl (by decide) (.slice va gs.length vcap) gs.length (gcs gs) Hrow.out #[.string ⟨s.name.toArray⟩,.int .i64 s.num,.int .i64 s.args,.int .i64 0,.int .i64 gs.length,.int .i64 0] rfl gc_one (by omega) (Nat.zero_le _)
     refine ⟨v',w',?_,by simpa using hap⟩
     have hrun':(Builtin.append_ #[264,264] 264 #[.slice va gs.length vcap,.slice (some ⟨u.heap.size,0,none⟩) 1 1]).run Tryz.prog (u.drew.alloc (.cells #[.string ⟨s.name.toArray⟩,.int .i64 s.num,.int .i64 s.args,.int .i64 0,.int .i64 gs.length,.int .i64 0] 292)) = .ok v' w':=hrun
     exact Zfk (.tmp 31) (.tmp 35) 264 rfl (by simp [paAll,pa,Kd.val,go_sem]) (by simp [paAll,pa,Kd.val,go_sem]) hrun'
    ·have hap:Appended _ _ _ _ _ _ _ vc uu:=hu
     have hblk2:=(hap.kept.block gb hgu (Zah Hrow.out (by decide) HGu.out.box)).trans HGu.out.box
     obtain ⟨va2,vc2,rfl⟩:=Zad hap.owns
     refine ⟨uu.setCell ⟨gb,0,none⟩ _,?_,Hdone.out u.drew _ uu ?_ Hpl.out hap⟩
     ·simp [paAll,pa,Kd.val,go_sem,Zae hblk2,(Zab hblk2 0 _ rfl:uu.cell? ⟨gb,0,none⟩=_)]
     ·exact Hu'.out
   rintro vc u3 hout
   simp only [paAll,pa,Kd.val,if_true,Act.put,List.setIfInBounds_toArray,List.set_cons_succ,List.set_cons_zero]
   have Hout:=Zaa hout
   clear hout
   go_wp2
   go_end0
   exact ⟨rfl,Hout.out⟩
def Zed (l:List Sym):List GC:=(List.range l.length).map (fun i=>⟨Zba l i,0,Zbm l i,0⟩)
theorem Zbz (l:List Sym):(Zed l).length=l.length:=by simp [Zed]
theorem Zgp {l:List Sym} {i:Nat} (h:i<l.length):(Zed l)[i]?=some ⟨Zba l i,0,Zbm l i,0⟩:=by
 simp [Zed,h]
theorem Zyb (l:List Sym):(Zed l).map GC.sym=l:=by
 apply List.ext_getElem?
 intro i
 rw [List.getElem?_map]
 by_cases h:i<l.length
 ·rw [Zgp h]; simp [Zba,h]
 ·rw [List.getElem?_eq_none (by rw [Zbz]; omega),List.getElem?_eq_none (by omega)]; rfl
theorem Zpa {l:List Sym} {i:Nat} (r:List Sym) (h:i<l.length):Zba (l++r) i=Zba l i:=by
 simp [Zba,List.getD_eq_getElem?_getD,List.getElem?_append_left h]
theorem Zsg {l:List Sym} {i:Nat} (s:Sym) (h:i<l.length):Zbm (l++[s]) i=Zbm l i:=by
 unfold Zbm
 rw [Zpa _ h]
 split
 ·rename_i hn
  rw [List.findIdx_append,if_pos]
  rw [List.findIdx_lt_length]
  refine ⟨Zba l i,?_,by simp [hn]⟩
  simp only [Zba,List.getD_eq_getElem?_getD,List.getElem?_eq_getElem h,Option.getD_some]
  exact List.getElem_mem h
 ·rfl
theorem Zsh (l:List Sym) (s:Sym):Zbm (l++[s]) l.length=Zkl (Zed l) s:=by
 have h1:Zkl (Zed l) s=l.findIdx (fun t=>Zel t s):=by
  have:=List.findIdx_map (Zed l) GC.sym (fun t=>Zel t s)
  rw [Zyb] at this
  exact this.symm
 have h2:Zba (l++[s]) l.length=s:=by simp [Zba]
 rw [h1]
 unfold Zbm
 rw [h2]
 split
 ·rename_i hn
  have hp:(fun t:Sym=>Zel t s)=(fun t=>t.name.isEmpty && t.num == s.num):=by
   funext t; simp [Zel,hn]
  rw [hp,List.findIdx_append]
  split
  ·rfl
  ·rename_i hh
   have:=List.findIdx_le_length (p:=fun t:Sym=>t.name.isEmpty && t.num == s.num) (xs:=l)
   have h0:[s].findIdx (fun t:Sym=>t.name.isEmpty && t.num == s.num)=0:=by simp [List.findIdx_cons,hn]
   omega
 ·rename_i hn
  refine (List.findIdx_eq_length.2 ?_).symm
  intro t _
  have:s.name.isEmpty=false:=by
   cases h:s.name with
   | nil=>exact absurd h hn
   | cons _ _=>rfl
  simp [Zel,this]
theorem Zyc (l:List Sym) (s:Sym):Zed (l++[s])=Zed l++[⟨s,0,Zkl (Zed l) s,0⟩]:=by
 apply List.ext_getElem?
 intro i
 by_cases h:i<l.length
 ·rw [List.getElem?_append_left (by rw [Zbz]; exact h),Zgp h,Zgp (by simp; omega),Zpa _ h,Zsg _ h]
 ·by_cases e:i=l.length
  ·subst e
   rw [Zgp (by simp),List.getElem?_append_right (by rw [Zbz]; omega),Zbz,Zsh]
   simp [Zba]
  ·rw [List.getElem?_eq_none (by rw [Zbz]; simp; omega),List.getElem?_eq_none (by simp [Zbz]; omega)]
def LayAt (w:World) (l:List Sym) (wr:World):Prop:=∃ v,GAt wr (w.heap.size+1) v (Zed l)∧Ext w wr∧(∀ j,Zbd v j→w.heap.size≤j)∧wr.heap[w.heap.size]?=some (.cells #[.slice none 0 0] 266 (0,0))
theorem LayAt.ext {w wr w1:World} {l:List Sym} (h:LayAt w l wr) (e:Ext wr w1):LayAt w l w1:=by
 obtain ⟨v,h1,h2,h3,h4⟩:=h
 exact ⟨v,h1.ext e,h2.trans (e.mono h2.size),h3,(e.block _ (Zac h4)).trans h4⟩
theorem LayAt.add {w wr w1:World} {l:List Sym} {s:Sym} {v:Value} (h1:GAt wr (w.heap.size+1) v (Zed l)) (h2:Ext w wr) (h3:∀ j,Zbd v j→w.heap.size≤j) (h4:wr.heap[w.heap.size]?=some (.cells #[.slice none 0 0] 266 (0,0))) (ha:Zsf (w.heap.size+1) v (Zed l) s wr w1):LayAt w (l++[s]) w1:=by
 obtain ⟨v',g1,g2,g3⟩:=ha
 have hs:=h2.size
 refine ⟨v',by rw [Zyc]; exact g1,h2.trans (g2.below hs (fun k hk => ?_)),fun j hj => ?_,(g2.block _ (Zac h4) ?_).trans h4⟩
 ·rcases hk with rfl | hk
  ·omega
  ·exact h3 k hk
 ·rcases g3 j hj with h | h
  ·exact h3 j h
  ·omega
 ·rintro (h | h)
  ·omega
  ·exact Zah h1.owns (by decide) h4 h
def LaidG (w:World) (l:List Sym) (e:Ending) (w':World):Prop:=∃ v,e = .returned (.agg #[v])∧w'.ownsRow 0 292 6 v l.length (gcs (Zge l (Zed l) 0))∧Ext w w'∧∀ j,Zbd v j→w.heap.size≤j
set_option maxRecDepth 10000 in
set_option maxHeartbeats 4000000 in
theorem Zyd (w:World) (v1 v2:Value) (a b:List Sym) (h1:w.ownsRow 0 133 3 v1 a.length (Zam a)) (h2:w.ownsRow 0 133 3 v2 b.length (Zam b)) (ha:Wf 1 a) (hb:Wf 1 b) (hal:a.length≤1000) (hbl:b.length≤1000) :
  Calls Tryz.prog 157 #[v1,v2] w (LaidG w (a++b)):=by
 have hapos:=Zcw ha
 have hbpos:=Zcw hb
 obtain ⟨g1,cap1,cur1,rfl,_,hg1,hc1⟩:=Zal h1 (by omega)
 obtain ⟨g2,cap2,cur2,rfl,_,hg2,hc2⟩:=Zal h2 (by omega)
 have hgl1:=Zac hg1
 have hgl2:=Zac hg2
 have H1:=Zaa h1
 have H2:=Zaa h2
 have Ha:=Zaa ha
 have Hb:=Zaa hb
 clear h1 h2 ha hb hg1 hg2
 go_enter Tryz.func157,Tryz.ntmps157
 go_wp2
 go_loopg [12] (a.length+1) (fun gk iv wr=>∃ (k:Nat),iv = .int .i64 k∧k≤a.length∧a.length - k<gk∧LayAt w (a.take k) wr)
 case atStart=>exact ⟨0,by go_num,Nat.zero_le _,by omega,.slice none 0 0,⟨by have:=heap_alloc_new (w.alloc (.cells #[.slice none 0 0] 266)) (.cells #[.slice none 0 0] 266); simpa using this,World.ownsRow_nil _ _ _ _⟩,(Ext.of (by repeat' (first | with_reducible exact Kept.refl _ _ | with_reducible apply Kept.drew | with_reducible apply Kept.drewN | with_reducible apply Kept.alloc | with_reducible refine Kept.setCell ?_ ?_ _ | exact fun h=>absurd h (by simp <;> omega)))),fun j hj=>by simp [Zbd,Value.ownBlock] at hj,(Below.heap_alloc _ _ _ (by simp)).trans (heap_alloc_new w _)⟩
 case round =>
  obtain ⟨k,rfl,hk,hgk,hL⟩:=hrel
  obtain ⟨v,hG,hext,hown,hblk⟩:=hL
  have hsr:=hext.size
  have hgb:=Zac hG.box
  have HG:=Zaa hG
  have Hext:=Zaa hext
  have Hown:=Zaa hown
  have Hblk:=Zaa hblk
  clear hG hext hown hblk
  by_cases hlt:k<a.length
  ·obtain ⟨s,hs⟩:∃ s,a[k]?=some s:=⟨_,List.getElem?_eq_getElem hlt⟩
   have ho:=Zan H1.out (fun j hj=>Hext.out.block j (H1.out.lt j hj).2)
   have hgr:g1<wr.heap.size:=by omega
   have e0:wr.cell? ⟨g1,k * 3,none⟩=some (.string ⟨s.name.toArray⟩):=Zaf ho _ _ (by have:=Zbh a k s hs 0 (by omega); rw [Nat.add_zero] at this; rw [this]; rfl)
   have e1:wr.cell? ⟨g1,k * 3+1,none⟩=some (.int .i64 s.num):=Zaf ho _ _ (by rw [Zbh a k s hs 1 (by omega)]; rfl)
   have e2:wr.cell? ⟨g1,k * 3+2,none⟩=some (.int .i64 s.args):=Zaf ho _ _ (by rw [Zbh a k s hs 2 (by omega)]; rfl)
   have hnx:a.take (k+1)=a.take k++[s]:=by rw [List.take_add_one,hs]; rfl
   have Hnx:=Zaa hnx
   clear hs ho hnx
   go_wp2_with fail
   have hE:Ext wr (wr.alloc (.cells #[.string ⟨s.name.toArray⟩,.int .i64 s.num,.int .i64 s.args] 133)):=(Ext.of (by repeat' (first | with_reducible exact Kept.refl _ _ | with_reducible apply Kept.drew | with_reducible apply Kept.drewN | with_reducible apply Kept.alloc | with_reducible refine Kept.setCell ?_ ?_ _ | exact fun h=>absurd h (by simp <;> omega))))
   refine (Znb _ (w.heap.size+1) v (Zed (a.take k)) s (HG.out.ext hE) (by rw [Zbz]; simp; omega)).mono ?_
   rintro e w1 ⟨rfl,hout⟩
   have hL1:=LayAt.add (HG.out.ext hE) (Hext.out.trans (hE.mono hsr)) Hown.out ((hE.block _ (Zac Hblk.out)).trans Hblk.out) hout
   have HL1:=Zaa hL1
   clear hout hL1 hE
   go_wp2
   go_roundg (a.length - k)
   case measure=>omega
   case rel=>exact ⟨k+1,by go_num,by omega,by omega,by rw [Hnx.out]; exact HL1.out⟩
  ·have hek:k=a.length:=by omega
   subst hek
   rw [List.take_length] at HG
   have HLa:Hid (LayAt w a wr):=⟨v,HG.out,Hext.out,Hown.out,Hblk.out⟩
   clear HG Hext Hown Hblk
   go_wp2
   go_loopg [21] (b.length+1) (fun gk iv wr=>∃ (k:Nat),iv = .int .i64 k∧k≤b.length∧b.length - k<gk∧LayAt w ((a++b.take k)) wr)
   case atStart=>exact ⟨0,by go_num,Nat.zero_le _,by omega,by have:=HLa.out; simpa using this⟩
   case round =>
    obtain ⟨k,rfl,hk,hgk,hL⟩:=hrel
    obtain ⟨v,hG,hext,hown,hblk⟩:=hL
    have hsr:=hext.size
    have hgb:=Zac hG.box
    have HG:=Zaa hG
    have Hext:=Zaa hext
    have Hown:=Zaa hown
    have Hblk:=Zaa hblk
    clear hG hext hown hblk
    by_cases hlt:k<b.length
    ·obtain ⟨s,hs⟩:∃ s,b[k]?=some s:=⟨_,List.getElem?_eq_getElem hlt⟩
     have ho:=Zan H2.out (fun j hj=>Hext.out.block j (H2.out.lt j hj).2)
     have hgr:g2<wr.heap.size:=by omega
     have e0:wr.cell? ⟨g2,k * 3,none⟩=some (.string ⟨s.name.toArray⟩):=Zaf ho _ _ (by have:=Zbh b k s hs 0 (by omega); rw [Nat.add_zero] at this; rw [this]; rfl)
     have e1:wr.cell? ⟨g2,k * 3+1,none⟩=some (.int .i64 s.num):=Zaf ho _ _ (by rw [Zbh b k s hs 1 (by omega)]; rfl)
     have e2:wr.cell? ⟨g2,k * 3+2,none⟩=some (.int .i64 s.args):=Zaf ho _ _ (by rw [Zbh b k s hs 2 (by omega)]; rfl)
     have hnx:b.take (k+1)=b.take k++[s]:=by rw [List.take_add_one,hs]; rfl
     have Hnx:=Zaa hnx
     clear hs ho hnx
     go_wp2_with fail
     have hE:Ext wr (wr.alloc (.cells #[.string ⟨s.name.toArray⟩,.int .i64 s.num,.int .i64 s.args] 133)):=(Ext.of (by repeat' (first | with_reducible exact Kept.refl _ _ | with_reducible apply Kept.drew | with_reducible apply Kept.drewN | with_reducible apply Kept.alloc | with_reducible refine Kept.setCell ?_ ?_ _ | exact fun h=>absurd h (by simp <;> omega))))
     refine (Znb _ (w.heap.size+1) v (Zed ((a++b.take k))) s (HG.out.ext hE) (by rw [Zbz]; simp; omega)).mono ?_
     rintro e w1 ⟨rfl,hout⟩
     have hL1:=LayAt.add (HG.out.ext hE) (Hext.out.trans (hE.mono hsr)) Hown.out ((hE.block _ (Zac Hblk.out)).trans Hblk.out) hout
     have HL1:=Zaa hL1
     clear hout hL1 hE
     go_wp2
     go_roundg (b.length - k)
     case measure=>omega
     case rel=>exact ⟨k+1,by go_num,by omega,by omega,by rw [Hnx.out,← List.append_assoc]; exact HL1.out⟩
    ·have hek:k=b.length:=by omega
     subst hek
     rw [List.take_length] at HG
     obtain ⟨cb,cap,rfl,hcb,hcap,hne,hfz⟩:=HG.out.shape (by rw [Zbz]; simp; omega)
     have HG2:=Zaa HG.out
     have hll:(Zed (a++b)).length=a.length+b.length:=by rw [Zbz]; simp
     have Hll:=Zaa hll
     clear hll
     go_wp2_with fail
     refine (Zsc wr (w.heap.size+1) _ (Zed (a++b)) (a++b) HG.out (Zbz _) (fun i c hc => ?_) (Zfz Ha.out Hb.out) (by rw [Zbz]; simp; omega)).mono ?_
     ·have hi:=(List.getElem?_eq_some_iff.1 hc).1
      rw [Zbz] at hi
      rw [Zgp hi] at hc
      simp at hc
      rw [← hc]
     rintro e w1 ⟨rfl,hG1,hk1⟩
     have hblk1:=(hk1.block _ (Zac Hblk.out) (Zah HG2.out.owns (by decide) Hblk.out)).trans Hblk.out
     have b1:w1.cell? ⟨w.heap.size+1,0,none⟩=some (.slice (some ⟨cb,0,none⟩) (Zed (a++b)).length cap):=Zab hG1.box 0 _ rfl
     have b2:w1.cell? ⟨w.heap.size,0,none⟩=some (.slice none 0 0):=Zab hblk1 0 _ rfl
     have bf:=fun i=>Zae hblk1 i
     have hs1:=hk1.size
     have HG1:=Zaa hG1
     have Hk1:=Zaa hk1
     have Hblk1:=Zaa hblk1
     clear hG1 hk1 hblk1
     go_wp2
     have hK:Kept (fun j=>j=w.heap.size) w1 (w1.setCell ⟨w.heap.size,0,none⟩ (.slice (some ⟨cb,0,none⟩) (Zed (a++b)).length cap)):=(Kept.refl (only w.heap.size) w1).put 0 _
     have h0:(w1.setCell ⟨w.heap.size,0,none⟩ (.slice (some ⟨cb,0,none⟩) (Zed (a++b)).length cap)).cell? ⟨w.heap.size,0,none⟩=some (.slice (some ⟨cb,0,none⟩) (Zed (a++b)).length cap):=Zab (Zai Hblk1.out 0 _) 0 _ rfl
     refine bodyPost_ret (v := .agg #[.slice (some ⟨cb,0,none⟩) (Zed (a++b)).length cap]) (by simp [results,Tryz.results157,go_sem,h0]) rfl ⟨_,rfl,?_,?_,Hown.out⟩
     ·have:=Zce HG1.out.owns Hblk1.out (by decide) hK
      rw [Zgf,Zbz] at this
      rw [Zbz]
      exact this
     ·exact (Hext.out.trans (Hk1.out.below hsr Hown.out)).trans (hK.below (by omega) (fun k hk=>by omega))
def sz (gs:List GC) (f:Nat→Int):List GC:=gs.mapIdx (fun i c => { c with size:=f i })
def upd (f:Nat→Int) (x:Nat) (u:Int):Nat→Int:=fun j=>if j=x then u else f j
theorem Zes (gs:List GC) (f:Nat→Int):(sz gs f).length=gs.length:=by simp [sz]
theorem Zsi {gs:List GC} {f:Nat→Int} {i:Nat} {c:GC} (h:gs[i]?=some c):(sz gs f)[i]?=some { c with size:=f i }:=by
 unfold sz; rw [List.getElem?_mapIdx,h]; rfl
theorem sz_up (gs:List GC) (f:Nat→Int):(sz gs f).map GC.up=gs.map GC.up:=by
 apply List.ext_getElem?
 intro i
 rw [List.getElem?_map,List.getElem?_map]
 cases h:gs[i]? with
 | none=>rw [List.getElem?_eq_none (by rw [Zes]; exact List.getElem?_eq_none_iff.1 h)]
 | some c=>rw [Zsi h]; rfl
theorem sz_put (gs:List GC) (f:Nat→Int) (x:Nat) (u:Int):(sz gs f).modify x (fun c => { c with size:=u })=sz gs (upd f x u):=by
 apply List.ext_getElem?
 intro i
 rw [List.getElem?_modify]
 cases h:gs[i]? with
 | none =>
  rw [List.getElem?_eq_none (by rw [Zes]; exact List.getElem?_eq_none_iff.1 h),List.getElem?_eq_none (by rw [Zes]; exact List.getElem?_eq_none_iff.1 h)]; rfl
 | some c =>
  rw [Zsi h,Zsi h]
  by_cases e:x=i
  ·subst e; simp [upd]
  ·have e':¬ i=x:=fun h=>e h.symm
   simp [e,upd,e']
def Zha:Nat→(Nat→Int)→Nat
 | 0,_=>0
 | n+1,f=>Zha n f+if f n=0 then 1 else 0
theorem Zpb (f:Nat→Int) (x:Nat) {u:Int} (hu:u≠0):∀ n,Zha n (upd f x u)≤Zha n f∧(x<n→f x=0→Zha n (upd f x u)<Zha n f):=by
 intro n
 induction n with
 | zero=>exact ⟨Nat.le_refl _,fun h=>by omega⟩
 | succ n ih =>
  obtain ⟨h1,h2⟩:=ih
  by_cases e:n=x
  ·subst e
   have:upd f n u n=u:=by simp [upd]
   simp only [Zha,this,if_neg hu]
   refine ⟨by omega,fun _ h => ?_⟩
   rw [if_pos h]; omega
  ·have:upd f x u n=f n:=by simp [upd,e]
   simp only [Zha,this]
   exact ⟨by omega,fun h h0=>by have:=h2 (by omega) h0; omega⟩
def dnF (n:Nat) (f:Nat→Int) (j:Nat):Prop:=j<n∧0<f j
def SizeOk (n:Nat) (f:Nat→Int) (T:Nat→List Sym):Prop:=∀ j,j<n→f j=0∨f j = -1∨(0<f j∧f j=((min 31 (T j).length:Nat):Int))
def sumM (T:Nat→List Sym) (ρ:Nat→Nat) (ks:List Nat):Nat:=(ks.map (fun k=>min 31 (T (ρ k)).length)).sum
theorem sumM_le (T:Nat→List Sym) (ρ:Nat→Nat) (ks:List Nat):sumM T ρ ks≤31 * ks.length:=by
 induction ks with
 | nil=>simp [sumM]
 | cons k ks ih=>simp only [sumM,List.map_cons,List.sum_cons,List.length_cons] at ih ⊢; omega
theorem sumM_snoc (T:Nat→List Sym) (ρ:Nat→Nat) (ks:List Nat) (k:Nat):sumM T ρ (ks++[k])=sumM T ρ ks+min 31 (T (ρ k)).length:=by simp [sumM]
theorem Zye {T T':Nat→List Sym} {ρ:Nat→Nat} {ks:List Nat} (h:∀ k ∈ ks,T' (ρ k)=T (ρ k)):sumM T' ρ ks=sumM T ρ ks:=by
 unfold sumM; congr 1; exact List.map_congr_left (fun k hk=>by rw [h k hk])
theorem sumM_all (T:Nat→List Sym) (ρ:Nat→Nat) (ks:List Nat):min 31 (1+sumM T ρ ks)=min 31 (1+((ks.map (fun k=>T (ρ k))).flatten).length):=by
 induction ks with
 | nil=>rfl
 | cons k ks ih=>simp only [sumM,List.map_cons,List.sum_cons,List.flatten_cons,List.length_append] at ih ⊢; omega
theorem Zuh {l:List Sym} {n i:Nat} (hw:Wf n l) (hi:i<l.length):(Zba l i).args≤l.length:=by
 obtain ⟨_,e2,_⟩:=Zhh hw hi
 obtain ⟨_,_,_,_,_,hb,_⟩:=Zfa hw hi
 have hkl:∀ k,k<(Zba l i).args→i<Zay l (i+1) k∧Zay l (i+1) k<l.length:=fun k hk=>by
  have:=e2 _ (List.mem_of_getElem? (Zcm l (i+1) _ k hk))
  omega
 have mono:∀ k,k≤(Zba l i).args→i+1+k≤Zay l (i+1) k:=by
  intro k
  induction k with
  | zero=>intro _; simp [Zay]
  | succ k ih =>
   intro hk
   have:=ih (by omega)
   rw [Zcp]
   have:=hkl k (by omega)
   obtain ⟨_,_,_,_,h6,_⟩:=Zfa hw (i:=Zay l (i+1) k) (by omega)
   omega
 rcases Nat.lt_or_ge l.length (Zba l i).args with h | h
 ·exfalso
  have:=mono l.length (by omega)
  have:=hkl l.length h
  omega
 ·exact h
def MeasOut (gb:Nat) (v:Value) (gs:List GC) (l:List Sym) (ρ:Nat→Nat) (f:Nat→Int) (T:Nat→List Sym) (i:Nat) (w:World) (e:Ending) (w':World):Prop:=∃ f',GAt w' gb v (sz gs f')∧Kept (Zbd v) w w' ∧
 ((∃ T',e = .returned (.int .i64 ((min 31 (T' (ρ i)).length:Nat):Int))∧SizeOk gs.length f' T'∧Zha gs.length f'≤Zha gs.length f∧Known (grOf l) ρ (dnF gs.length f') T'∧dnF gs.length f' (ρ i)∧(∀ j,f' j = -1↔f j = -1)∧(∀ j,dnF gs.length f j→dnF gs.length f' j∧T' j=T j)) ∨
  (e = .returned (.int .i64 (-1))∧Stuck (grOf l) ρ (fun r=>f r = -1) i))
def Zqk (m:Nat):Prop:=∀ (w:World) (gb:Nat) (v:Value) (gs:List GC) (l:List Sym) (ρ rk:Nat→Nat) (f:Nat→Int) (T:Nat→List Sym) (i:Nat),GAt w gb v (sz gs f)→CellsOf gs l→Wf 2 l→UpOk (gs.map GC.up) ρ rk→SizeOk gs.length f T→Zha gs.length f≤m→i<gs.length→gs.length≤4000→Known (grOf l) ρ (dnF gs.length f) T →
 Calls Tryz.prog 159 #[.pointer (some ⟨gb,0,none⟩),.int .i64 i] w (MeasOut gb v gs l ρ f T i w)
set_option maxRecDepth 10000 in
set_option maxHeartbeats 4000000 in
theorem meas_step (m:Nat) (IH:∀ k,k<m→Zqk k):Zqk m:=by
 intro w gb v gs l ρ rk f T i h hc hw hu hS hm hi hl hK
 have hrt:=hu.rt
 have hx:=hrt.lt i (by simpa using hi)
 have rx:=hrt.idem i (by simpa using hi)
 rw [List.length_map] at hx
 obtain ⟨x,hxe⟩:∃ x,x=ρ i:=⟨_,rfl⟩
 rw [← hxe] at hx rx
 obtain ⟨cb,cap,rfl,hcb,hcap,hne,hfz⟩:=h.shape (by rw [Zes]; omega)
 have hszl:(sz gs f).length=gs.length:=Zes gs f
 rw [hszl] at h hcap ⊢
 obtain ⟨cx,hcx⟩:∃ c,gs[x]?=some c:=⟨_,List.getElem?_eq_getElem hx⟩
 obtain ⟨hsy,hbe⟩:=hc.all x cx hcx
 have Hr:=Zaa (Zgk w gb (.slice (some ⟨cb,0,none⟩) gs.length cap) (sz gs f) ρ rk i h (by rw [sz_up]; exact hu) (by rw [Zes]; exact hi) (by rw [Zes]; exact hl))
 rw [← hxe] at Hr
 have hgat:∀ f' w',GAt w' gb (.slice (some ⟨cb,0,none⟩) gs.length cap) (sz gs f')→∀ j c,gs[j]?=some c→w'.cell? ⟨cb,j * 6+2,none⟩=some (.int .i64 c.sym.args)∧w'.cell? ⟨cb,j * 6+3,none⟩=some (.int .i64 c.behind)∧w'.cell? ⟨cb,j * 6+5,none⟩=some (.int .i64 (f' j)):=fun f' w' hg j c hj=>by
  have hg':GAt w' gb (.slice (some ⟨cb,0,none⟩) (sz gs f').length cap) (sz gs f'):=by rw [Zes]; exact hg
  obtain ⟨_,_,c2,c3,_,c5⟩:=hg'.cell (Zsi (f:=f') hj)
  exact ⟨c2,c3,c5⟩
 have Hgat:=Zaa hgat
 have b0:w.cell? ⟨gb,0,none⟩=some (.slice (some ⟨cb,0,none⟩) gs.length cap):=Zab h.box 0 _ rfl
 have hgb:=Zac h.box
 obtain ⟨x2,x3,x5⟩:=hgat f w h x cx hcx
 have hcase:=hS x hx
 have harg:cx.sym.args≤4000:=by
  have:=Zuh hw (i:=x) (by rw [← hc.len]; exact hx)
  rw [← hsy,← hc.len] at this
  omega
 have H:=Zaa h
 have Hu:=Zaa hu
 have Hc:=Zaa hc
 have Hw:=Zaa hw
 have HS:=Zaa hS
 have Hm:=Zaa hm
 have HK:=Zaa hK
 have Hih:=Zaa IH
 have Hxe:=Zaa hxe
 have Hrx:=Zaa rx
 have Hcx:=Zaa hcx
 have Hsy:=Zaa hsy
 clear h hu hc hw hS hm hK IH hxe rx hcx hsy hrt hgat hbe hszl
 rcases hcase with h0 | h0 | ⟨h0,h00⟩
 ·have H0:=Zaa h0
  rw [h0] at x5
  clear h0
  go_enter Tryz.func159,Tryz.ntmps159
  go_wp2_with fail
  refine Hr.out.mono ?_
  rintro e w1 ⟨rfl,rfl⟩
  go_wp2
  obtain ⟨KS,hKS⟩:∃ K,K=Zbj l (x+1) cx.sym.args:=⟨_,rfl⟩
  have HKS:=Zaa hKS
  have hKl:KS.length=cx.sym.args:=by rw [hKS,Zdi]
  have HKl:=Zaa hKl
  have Hkids:Hid ((grOf l).kids x=KS):=by show Zbj l (x+1) (Zba l x).args=KS; rw [hKS,← Hsy.out]
  have hkat:∀ k,k<cx.sym.args→KS[k]?=some (Zay l (x+1) k):=fun k hk=>by rw [hKS]; exact Zcm l (x+1) _ k hk
  have hknx:∀ k,k<cx.sym.args→Zay l (x+1) k<gs.length:=fun k hk=>by
   have hxl:x<l.length:=by rw [← Hc.out.len]; exact hx
   obtain ⟨_,ex2,_⟩:=Zhh Hw.out hxl
   obtain ⟨_,_,_,_,_,hbx,_⟩:=Zfa Hw.out hxl
   have:=ex2 _ (List.mem_of_getElem? (by rw [← Hsy.out]; exact Zcm l (x+1) _ k hk))
   have:=Hc.out.len
   omega
  have Hkat:=Zaa hkat
  have Hknx:=Zaa hknx
  clear hKS hKl hkat hknx
  go_loopg [6,7,8] (cx.sym.args+1) (fun gk tv av nv wr=>∃ (k:Nat) (f':Nat→Int) (T':Nat→List Sym),tv = .int .i64 ((1+sumM T' ρ (KS.take k):Nat):Int)∧av = .int .i64 (Zay l (x+1) k:Nat)∧nv = .int .i64 k∧k≤cx.sym.args∧cx.sym.args - k<gk∧GAt wr gb (.slice (some ⟨cb,0,none⟩) gs.length cap) (sz gs f')∧Kept (Zbd (.slice (some ⟨cb,0,none⟩) gs.length cap)) w1 wr ∧
    SizeOk gs.length f' T'∧Zha gs.length f'<Zha gs.length f∧Known (grOf l) ρ (dnF gs.length f') T'∧(∀ j ∈ KS.take k,dnF gs.length f' (ρ j))∧(∀ j,f' j = -1↔f j = -1∨j=x)∧(∀ j,dnF gs.length f j→dnF gs.length f' j∧T' j=T j))
  case atStart =>
   have hon:∀ j,upd f x (-1) j = -1↔f j = -1∨j=x:=fun j=>by
    unfold upd
    by_cases e:j=x
    ·simp [e]
    ·simp [e]
   have hdn:∀ j,dnF gs.length (upd f x (-1)) j↔dnF gs.length f j:=fun j=>by
    unfold dnF upd
    by_cases e:j=x
    ·subst e; simp [H0.out]
    ·simp [e]
   refine ⟨0,upd f x (-1),T,by simp [sumM],by simp [Zay],by go_num,Nat.zero_le _,by omega,?_,(Kept.refl _ w1).setCell (p:=⟨cb,x * 6+5,none⟩) (fun _=>(rfl:some cb=some cb)) _,?_,(Zpb f x (by omega) gs.length).2 hx H0.out,HK.out.congr hdn (fun _ _=>rfl),by simp,hon,fun j hj=>⟨(hdn j).2 hj,rfl⟩⟩
   ·have hg':GAt w1 gb (.slice (some ⟨cb,0,none⟩) (sz gs f).length cap) (sz gs f):=by rw [Zes]; exact H.out
    have:=hg'.put (Zsi (f:=f) Hcx.out) (f:=fun c => { c with size := -1 }) (j:=5) (u := .int .i64 (-1)) (by omega) rfl
    rw [sz_put,Zes] at this
    exact this
   ·intro j hj
    unfold upd
    by_cases e:j=x
    ·simp [e]
    ·simp only [if_neg e]; exact HS.out j hj
  case round =>
   obtain ⟨k,f',T',rfl,rfl,rfl,hk,hgk,hG,hkp,hS',hfr,hkn,hkd,hon,hold⟩:=hrel
   have hsr:=hkp.size
   have b0:wr.cell? ⟨gb,0,none⟩=some (.slice (some ⟨cb,0,none⟩) gs.length cap):=Zab hG.box 0 _ rfl
   have hgb':=Zac hG.box
   have hcb':cb<wr.heap.size:=by omega
   have hfz':∀ j,wr.frozen? ⟨cb,j,none⟩=false:=by
    obtain ⟨cb',cap',e,_,_,_,hf⟩:=hG.shape (by rw [Zes]; omega)
    simp at e
    obtain ⟨rfl,_⟩:=e
    exact hf
   obtain ⟨y2,y3,y5⟩:=Hgat.out f' wr hG x cx Hcx.out
   have hsum:sumM T' ρ (KS.take k)≤31 * 4000:=Nat.le_trans (sumM_le _ _ _) (by simp; omega)
   obtain ⟨S,hSe⟩:∃ S,S=sumM T' ρ (KS.take k):=⟨_,rfl⟩
   rw [← hSe] at hsum ⊢
   have HSe:=Zaa hSe
   have HG:=Zaa hG
   have Hkp:=Zaa hkp
   have HS':=Zaa hS'
   have Hfr:=Zaa hfr
   have Hkn:=Zaa hkn
   have Hkd:=Zaa hkd
   have Hon:=Zaa hon
   have Hold:=Zaa hold
   clear hSe hG hkp hS' hfr hkn hkd hon hold x2 x3 x5
   by_cases hlt:k<cx.sym.args
   ·obtain ⟨nx,hnx⟩:∃ n,n=Zay l (x+1) k:=⟨_,rfl⟩
    have hnxl:=Hknx.out k hlt
    have hnxa:=Hkat.out k hlt
    rw [← hnx] at hnxl hnxa ⊢
    obtain ⟨cn,hcn⟩:∃ c,gs[nx]?=some c:=⟨_,List.getElem?_eq_getElem hnxl⟩
    have hbn:=(Hc.out.all nx cn hcn).2
    have Hmem:Hid (nx ∈ (grOf l).kids (ρ i)):=by show _ ∈ _; rw [← Hxe.out,Hkids.out]; exact List.mem_of_getElem? hnxa
    have HI:=Zaa (Hih.out (Zha gs.length f') (by have:=Hm.out; have:=Hfr.out; omega) wr gb (.slice (some ⟨cb,0,none⟩) gs.length cap) gs l ρ rk f' T' nx HG.out Hc.out Hw.out Hu.out HS'.out (Nat.le_refl _) hnxl hl Hkn.out)
    have Hnx:=Zaa hnx
    have Hnxa:=Zaa hnxa
    have Hcn:=Zaa hcn
    have Hbn:=Zaa hbn
    clear hnx hnxa hcn hbn
    go_wp2_with fail
    refine HI.out.mono ?_
    rintro e w2 ⟨f2,h1,h2,⟨T2,rfl,h3,h4,h5,h6,h7,h8⟩ | ⟨rfl,h3⟩⟩
    ·have hs2:=h2.size
     obtain ⟨_,z3,_⟩:=Hgat.out f2 w2 h1 nx cn Hcn.out
     rw [Hbn.out] at z3
     have b0:w2.cell? ⟨gb,0,none⟩=some (.slice (some ⟨cb,0,none⟩) gs.length cap):=Zab h1.box 0 _ rfl
     have hgb2:=Zac h1.box
     obtain ⟨M,hM⟩:∃ M,M=min 31 (T2 (ρ nx)).length:=⟨_,rfl⟩
     rw [← hM]
     have hMl:M≤31:=by rw [hM]; omega
     have hMn:¬ ((M:Int) = -1):=by omega
     obtain ⟨bn,hbn⟩:∃ q,q=Zbq l nx:=⟨_,rfl⟩
     rw [← hbn] at z3
     have J:=Zaa (And.intro h1 (And.intro h2 (And.intro h3 (And.intro h4 (And.intro h5 (And.intro h6 (And.intro h7 (And.intro h8 (And.intro hM hbn)))))))))
     clear h1 h2 h3 h4 h5 h6 h7 h8 y2 y3 y5 hM hbn
     go_wp2
     go_roundg (cx.sym.args - k)
     case measure=>omega
     case rel =>
      obtain ⟨h1,h2,h3,h4,h5,h6,h7,h8,hM,hbn⟩:=J.out
      have ht:=Zie Hnxa.out
      refine ⟨k+1,f2,T2,?_,?_,by go_num,by omega,by omega,h1,Hkp.out.trans h2,h3,by have:=Hfr.out; omega,h5,?_,fun j=>(h7 j).trans (Hon.out j),fun j hj=>⟨(h8 j (Hold.out j hj).1).1,(h8 j (Hold.out j hj).1).2.trans (Hold.out j hj).2⟩⟩
      ·rw [ht,sumM_snoc,Zye (fun j hj=>(h8 _ (Hkd.out j hj)).2),← HSe.out,← hM]
       congr 1
       omega
      ·rw [Zcp,← Hnx.out,← hbn]
      ·intro j hj
       rw [ht] at hj
       rcases List.mem_append.1 hj with hj | hj
       ·exact (h8 _ (Hkd.out j hj)).1
       ·simp at hj; subst hj; exact h6
    ·have J:=Zaa (And.intro h1 (And.intro h2 h3))
     clear h1 h2 h3 y2 y3 y5
     go_wp2
     go_ret
     obtain ⟨h1,h2,h3⟩:=J.out
     have hst:Stuck (grOf l) ρ (fun r=>f r = -1) i:=Stuck.up (gr_ok Hw.out) (by show _<l.length; rw [← Hc.out.len]; exact hi) (by rw [← Hxe.out]; show _<l.length; rw [← Hc.out.len]; exact hx) Hmem.out (fun val hv hc=>by
      obtain ⟨r,hr,hle⟩:=h3 val hv hc
      exact ⟨r,by rw [← Hxe.out]; exact (Hon.out r).1 hr,hle⟩)
     exact ⟨f2,h1,Hkp.out.trans h2,Or.inr ⟨rfl,hst⟩⟩
   ·have hek:k=cx.sym.args:=by omega
    subst hek
    have hnd:Hid (¬ dnF gs.length f' x):=fun hd=>by
     have:=(Hon.out x).2 (Or.inr rfl)
     have:=hd.2
     omega
    have hkd:Hid (∀ j ∈ KS,dnF gs.length f' (ρ j)):=by
     have:=Hkd.out
     rw [← HKl.out,List.take_length] at this
     exact this
    have HSe:Hid (S=sumM T' ρ KS):=by
     have:=HSe.out
     rw [← HKl.out,List.take_length] at this
     exact this
    have Hend:Hid (∀ (w3:World) (n:Nat),n=min 31 (1+S)→w3=wr.setCell ⟨cb,x * 6+5,none⟩ (.int .i64 n)→MeasOut gb (.slice (some ⟨cb,0,none⟩) gs.length cap) gs l ρ f T i w1 (.returned (.int .i64 n)) w3):=fun w3 n hn hw3=>by
     subst hw3
     have hKn:=Hkn.out.more (r:=x) (by show _<l.length; rw [← Hc.out.len]; exact hx) Hrx.out hnd.out (by rw [Hkids.out]; exact hkd.out)
     rw [Hkids.out] at hKn
     have hTx:n=min 31 ((grOf l).hd x::(KS.map (fun k=>T' (ρ k))).flatten).length:=by
      rw [hn,HSe.out,sumM_all,List.length_cons,Nat.add_comm]
     have hn0:(n:Int)≠0:=by omega
     have hdn:∀ j,dnF gs.length (upd f' x n) j↔dnF gs.length f' j∨j=x:=fun j=>by
      unfold dnF upd
      by_cases e:j=x
      ·subst e; simp only [if_true,or_true,iff_true]; exact ⟨hx,by omega⟩
      ·simp [e]
     refine ⟨upd f' x n,?_,Hkp.out.trans ((Kept.refl _ wr).setCell (p:=⟨cb,x * 6+5,none⟩) (fun _=>(rfl:some cb=some cb)) _),Or.inl ⟨_,?_,?_,Nat.le_trans (Zpb f' x hn0 gs.length).1 (Nat.le_of_lt Hfr.out),hKn.congr hdn (fun _ _=>rfl),by rw [← Hxe.out]; exact (hdn x).2 (Or.inr rfl),?_,?_⟩⟩
     ·have hg':GAt wr gb (.slice (some ⟨cb,0,none⟩) (sz gs f').length cap) (sz gs f'):=by rw [Zes]; exact HG.out
      have:=hg'.put (Zsi (f:=f') Hcx.out) (f:=fun c => { c with size:=n }) (j:=5) (u := .int .i64 n) (by omega) rfl
      rw [sz_put,Zes] at this
      exact this
     ·rw [← Hxe.out]
      simp only [if_true]
      rw [← hTx]
     ·intro j hj
      unfold upd
      by_cases e:j=x
      ·subst e
       simp only [if_true]
       exact Or.inr (Or.inr ⟨by omega,by rw [← hTx]⟩)
      ·simp only [if_neg e]; exact HS'.out j hj
     ·intro j
      unfold upd
      by_cases e:j=x
      ·subst e
       simp only [if_true]
       rw [H0.out]
       constructor <;> intro h <;> omega
      ·simp only [if_neg e]
       rw [Hon.out]
       simp [e]
     ·intro j hj
      refine ⟨(hdn j).2 (Or.inl (Hold.out j hj).1),?_⟩
      have hjx:j≠x:=fun e=>by
       subst e
       have:=hj.2
       rw [H0.out] at this
       omega
      rw [if_neg hjx]
      exact (Hold.out j hj).2
    obtain ⟨qa,hqa⟩:∃ q,q=Zay l (x+1) cx.sym.args:=⟨_,rfl⟩
    rw [← hqa]
    clear hqa
    by_cases h30:1+S≤30
    ·have h30':¬ ((30:Int)<((1+S:Nat):Int)):=by omega
     go_wp2
     go_ret
     exact Hend.out _ (1+S) (by omega) rfl
    ·have h30':(30:Int)<((1+S:Nat):Int):=by omega
     go_wp2
     go_ret
     exact Hend.out _ 31 (by omega) rfl
 ·go_enter Tryz.func159,Tryz.ntmps159
  rw [h0] at x5
  have H0:=Zaa h0
  clear h0
  go_wp2_with fail
  refine Hr.out.mono ?_
  rintro e w1 ⟨rfl,rfl⟩
  go_wp2
  go_ret
  exact ⟨f,H.out,Kept.refl _ _,Or.inr ⟨rfl,Stuck.here (by show _<l.length; rw [← Hc.out.len]; exact hi) (by rw [← Hxe.out]; exact H0.out)⟩⟩
 ·obtain ⟨q,hq⟩:∃ q,q=f x:=⟨_,rfl⟩
  rw [← hq] at x5
  have hq0:q≠0:=by omega
  have Hq:=Zaa hq
  have H00:=Zaa h00
  have H0:=Zaa h0
  clear hq h0 h00
  go_enter Tryz.func159,Tryz.ntmps159
  go_wp2_with fail
  refine Hr.out.mono ?_
  rintro e w1 ⟨rfl,rfl⟩
  go_wp2
  go_ret
  refine ⟨f,H.out,Kept.refl _ _,Or.inl ⟨T,?_,HS.out,Nat.le_refl _,HK.out,by rw [← Hxe.out]; exact ⟨hx,H0.out⟩,fun _=>Iff.rfl,fun j hj=>⟨hj,rfl⟩⟩⟩
  show Ending.returned (.int .i64 q)=_
  rw [Hq.out,H00.out,Hxe.out]
theorem meas_any (m:Nat):Zqk m:=by
 induction m using Nat.strongRecOn with
 | _ m ih=>exact meas_step m ih
def Zsj (w:World) (size:Nat) (xv:Value) (m:Nat) (news:List Value):Prop :=
 news.length=m * size∧(∀ u ∈ news,u.oneCell'=true)∧((m=0∧xv = .slice none 0 0)∨∃ a c,xv = .slice (some a) m c∧∀ j u,news[j]?=some u→w.cell? (a.add j)=some u)
theorem Zui {P:Program} (w:World) (t ty:TypeId) (base:Nat) (e:TypeId) {z:Value} {size bytes:Nat}
  (hinfo:(P.info? e).map (fun i=>(i.zero,i.size,i.bytes))=some (some z,size,bytes)) (ht:P.underlying t=some (.slice e)) (hzs:z.cells.size=size) (hsz:0<size)
  (v:Value) (n:Nat) (xs:List Value) (hown:w.ownsRow base e size v n xs) (xv:Value) (m:Nat) (news:List Value) (hx:Zsj w size xv m news)
  (hbig:(n+m) * (bytes+1)≤140737488355328) (hbase:base≤w.heap.size) :
  ∃ v' w',(Builtin.append_ #[t,t] ty #[v,xv]).run P w = .ok v' w'∧Appended w base e size v (n+m) (xs++news) v' w':=by
 obtain ⟨i,hi,hz,hsi,hby⟩:=info_parts hinfo
 have hb1:n+m≤140737488355328:=Nat.le_trans (Nat.le_mul_of_pos_right (n+m) (Nat.succ_pos bytes)) hbig
 have hb2:(n+m) * bytes≤140737488355328:=Nat.le_trans (Nat.mul_le_mul_left _ (Nat.le_succ _)) hbig
 have h63:n+m≤maxLen:=by simp only [maxLen]; omega
 obtain ⟨hl,h1,⟨rfl,rfl⟩ | ⟨a,c,rfl,hnews⟩⟩:=hx
 ·have hn:news=[]:=List.eq_nil_of_length_eq_zero (by simpa using hl)
  subst hn
  exact ⟨v,w,run_append_owned_none w base t ty e i size ht hi v n xs hown,by simpa using hown,Kept.refl _ _,Or.inl rfl⟩
 ·obtain ⟨v',w',hr,hA,hB,hC⟩:=run_append_own (P:=P) w base t ty e i z size bytes ht hi hz hsi hby hzs hsz v n xs hown a m c news hl hnews h1 h63 hb2 hbase
  refine ⟨v',w',hr,hA,Kept.of_grown hB |>.mono (fun k _ h=>h),?_⟩
  rcases Nat.eq_zero_or_pos m with rfl | hm
  ·rcases hown.2 with ⟨rfl,rfl⟩ | ⟨g,cap,cur,rfl,hbg,hg,hnc,hcm,hcs,htake⟩
   ·have:=hC.2 ⟨rfl,rfl⟩
    rw [this]; exact Or.inl rfl
   ·have hfit:n * i.size+news.length≤cur.size:=by rw [hl,hcs,hsi]; simp; exact Nat.mul_le_mul_right _ hnc
    have hr':=run_append_room (P:=P) w t ty e i ht hi g n cap cur hg a 0 c news (by rw [hsi]; exact hl) hnews h1 (by omega) hfit
    rw [hr'] at hr
    injection hr with h2 h3
    subst h2
    exact Or.inl rfl
  ·subst hsi hby
   rcases Zhm (P:=P) w base t ty e i z ht hi hz v n xs hown a m c news hl hm hnews h1 h63 hb2 v' w' hr with h | h
   ·exact .inl h
   ·exact .inr ⟨_,h,Nat.le_refl _⟩
theorem Zyf {P:Program} {o:Oper} {a:Act} {K:Act→World→Prop} {Q:Exit→Act→World→Prop} (w:World) (s x:Operand) (t:TypeId)
  (ho:o.op = .call { callee := .builtin .append,args:=#[s,x],argTypes:=#[t,t] })
  (base:Nat) (e:TypeId) {z:Value} {size bytes:Nat}
  (hinfo:(P.info? e).map (fun i=>(i.zero,i.size,i.bytes))=some (some z,size,bytes)) (ht:P.underlying t=some (.slice e)) (hzs:z.cells.size=size) (hsz:0<size)
  (v:Value) (n:Nat) (xs:List Value) (hs:a.eval s=v) (hown:w.ownsRow base e size v n xs) (xv:Value) (m:Nat) (news:List Value) (hx:a.eval x=xv) (hr:Zsj w size xv m news)
  (hbig:(n+m) * (bytes+1)≤140737488355328) (hbase:base≤w.heap.size)
  (h:∀ v' w',Appended w base e size v (n+m) (xs++news) v' w'→K (a.put o.dst v') w'):o.wp P a w K Q:=by
 obtain ⟨v',w',hrun,hA⟩:=Zui (P:=P) w t o.type base e hinfo ht hzs hsz v n xs hown xv m news hr hbig hbase
 unfold Oper.wp
 simp [execOp,ho,resolve,invoke,builtin,hs,hx,hrun,Result.andThen]
 exact h v' w' hA
theorem Zdq {P:Program} {ops:Array Oper} {rest:List Oper} {o:Oper} {a:Act} {Q:Exit→Act→World→Prop} (w:World) (hgd:o.guard=none) (s x:Operand) (t:TypeId)
  (ho:o.op = .call { callee := .builtin .append,args:=#[s,x],argTypes:=#[t,t] })
  (base:Nat) (e:TypeId) {z:Value} {size bytes:Nat}
  (hinfo:(P.info? e).map (fun i=>(i.zero,i.size,i.bytes))=some (some z,size,bytes)) (ht:P.underlying t=some (.slice e)) (hzs:z.cells.size=size) (hsz:0<size)
  (v:Value) (n:Nat) (xs:List Value) (hs:a.eval s=v) (hown:w.ownsRow base e size v n xs) (xv:Value) (m:Nat) (news:List Value) (hx:a.eval x=xv) (hr:Zsj w size xv m news)
  (hbig:(n+m) * (bytes+1)≤140737488355328) (hbase:base≤w.heap.size)
  (h:∀ v' w',Appended w base e size v (n+m) (xs++news) v' w'→wpList P ops Q rest (a.put o.dst v') w'):wpList P ops Q (o::rest) a w :=
 wpList_plain hgd fun _ hK=>Zyf w s x t ho base e hinfo ht hzs hsz v n xs hs hown xv m news hx hr hbig hbase fun v' w' h2=>hK _ _ (h v' w' h2)
theorem Zkm {w:World} {B:Nat} {e:TypeId} {size n:Nat} {v:Value} {xs:List Value} (h:w.ownsRow B e size v n xs) (h1:∀ u ∈ xs,u.oneCell'=true):Zsj w size v n xs:=by
 refine ⟨h.1,h1,?_⟩
 rcases h.2 with ⟨rfl,rfl⟩ | ⟨g,cap,cur,rfl,_⟩
 ·exact Or.inl ⟨rfl,rfl⟩
 ·exact Or.inr ⟨⟨g,0,none⟩,cap,rfl,fun j u hu=>h.cells (g:=g) rfl j u hu⟩
theorem Zdl (a b:List Sym):Zam (a++b)=Zam a++Zam b:=by simp [Zam]
theorem Zsk (l:List Sym):∀ u ∈ Zam l,u.oneCell'=true:=by
 intro u hu
 simp only [Zam,List.mem_flatMap,Zcd] at hu
 obtain ⟨s,_,hs⟩:=hu
 simp at hs
 rcases hs with rfl | rfl | rfl <;> rfl
def Zjs (t:List Sym) (w:World) (e:Ending) (w':World):Prop:=∃ v B,e = .returned v∧w.heap.size≤B∧w'.ownsRow B 133 3 v t.length (Zam t)∧Ext w w'
def Zql (m:Nat):Prop:=∀ (w:World) (gb:Nat) (v:Value) (gs:List GC) (l:List Sym) (ρ rk:Nat→Nat) (D:Nat→Prop) (T:Nat→List Sym) (i:Nat),GAt w gb v gs→CellsOf gs l→Wf 2 l→UpOk (gs.map GC.up) ρ rk→Known (grOf l) ρ D T→D (ρ i)→i<gs.length→gs.length≤4000→(T (ρ i)).length≤m→(T (ρ i)).length≤4000 →
 Calls Tryz.prog 192 #[.pointer (some ⟨gb,0,none⟩),.int .i64 i] w (Zjs (T (ρ i)) w)
set_option maxRecDepth 10000 in
set_option maxHeartbeats 4000000 in
theorem writ_step (m:Nat) (IH:∀ k,k<m→Zql k):Zql m:=by
 intro w gb v gs l ρ rk D T i h hc hw hu hK hD hi hl hm hm4
 have hrt:=hu.rt
 have hx:=hrt.lt i (by simpa using hi)
 rw [List.length_map] at hx
 obtain ⟨x,hxe⟩:∃ x,x=ρ i:=⟨_,rfl⟩
 rw [← hxe] at hx hD hm hm4 ⊢
 obtain ⟨cb,cap,rfl,hcb,hcap,hne,hfz⟩:=h.shape (by omega)
 obtain ⟨cx,hcx⟩:∃ c,gs[x]?=some c:=⟨_,List.getElem?_eq_getElem hx⟩
 obtain ⟨hsy,hbe⟩:=hc.all x cx hcx
 have Hr:=Zaa (Zgk w gb (.slice (some ⟨cb,0,none⟩) gs.length cap) gs ρ rk i h hu hi hl)
 rw [← hxe] at Hr
 have b0:w.cell? ⟨gb,0,none⟩=some (.slice (some ⟨cb,0,none⟩) gs.length cap):=Zab h.box 0 _ rfl
 have hgb:=Zac h.box
 obtain ⟨x0,x1,x2,_,_,_⟩:=h.cell hcx
 have harg:cx.sym.args≤4000:=by
  have:=Zuh hw (i:=x) (by rw [← hc.len]; exact hx)
  rw [← hsy,← hc.len] at this
  omega
 obtain ⟨KS,hKS⟩:∃ K,K=Zbj l (x+1) cx.sym.args:=⟨_,rfl⟩
 have HKl:Hid (KS.length=cx.sym.args):=by show _=_; rw [hKS,Zdi]
 have hkids:(grOf l).kids x=KS:=by show Zbj l (x+1) (Zba l x).args=KS; rw [hKS,← hsy]
 have Hkat:Hid (∀ k,k<cx.sym.args→KS[k]?=some (Zay l (x+1) k)):=fun k hk=>by rw [hKS]; exact Zcm l (x+1) _ k hk
 have Hknx:Hid (∀ k,k<cx.sym.args→Zay l (x+1) k<gs.length):=fun k hk=>by
  have hxl:x<l.length:=by rw [← hc.len]; exact hx
  obtain ⟨_,ex2,_⟩:=Zhh hw hxl
  obtain ⟨_,_,_,_,_,hbx,_⟩:=Zfa hw hxl
  have:=ex2 _ (List.mem_of_getElem? (by rw [← hsy]; exact Zcm l (x+1) _ k hk))
  have:=hc.len
  omega
 have hTx:T x=cx.sym::((KS.map (fun k=>T (ρ k))).flatten):=by
  have:=hK.tm x hD
  rw [hkids] at this
  rw [this,hsy]; rfl
 have Hsub:Hid (∀ k n,KS[k]?=some n→D (ρ n)∧1+(((KS.take k).map (fun k=>T (ρ k))).flatten).length+(T (ρ n)).length≤(T x).length):=fun k n hn=>by
  refine ⟨hK.kid x hD n (by rw [hkids]; exact List.mem_of_getElem? hn),?_⟩
  obtain ⟨hk1,hk2⟩:=List.getElem?_eq_some_iff.1 hn
  have e:KS=KS.take k++n::KS.drop (k+1):=by
   rw [← hk2,List.getElem_cons_drop,List.take_append_drop]
  rw [hTx]
  conv=>rhs; rw [e]
  simp only [List.map_append,List.map_cons,List.flatten_append,List.flatten_cons,List.length_cons,List.length_append]
  omega
 have HT:=Zaa hTx
 have H:=Zaa h
 have Hu:=Zaa hu
 have Hc:=Zaa hc
 have Hw:=Zaa hw
 have Hm:=Zaa hm
 have HK:=Zaa hK
 have Hih:=Zaa IH
 have Hxe:=Zaa hxe
 have Hcx:=Zaa hcx
 have Hm4:=Zaa hm4
 clear hTx h hu hc hw hm hK IH hxe hcx hrt hbe hkids hKS hsy hD hm4
 go_enter Tryz.func192,Tryz.ntmps192
 go_wp2_with fail
 refine Hr.out.mono ?_
 rintro e w1 ⟨rfl,rfl⟩
 have Hnil:Hid (World.ownsRow (w1.alloc (.cells #[.string ⟨cx.sym.name.toArray⟩,.int .i64 cx.sym.num,.int .i64 cx.sym.args] 133)) (w1.heap.size+1) 133 3 (.slice none 0 0) 0 []):=World.ownsRow_nil _ _ _ _
 go_wp2_with (at_builtin; refine Zaj (w1.alloc (.cells #[.string ⟨cx.sym.name.toArray⟩,.int .i64 cx.sym.num,.int .i64 cx.sym.args] 133)) rfl (.tmp 22) (.tmp 24) 105 rfl (w1.heap.size+1) 133 Tryz.infoSym Tryz.underlying105 rfl (by decide) (.slice none 0 0) 0 [] rfl Hnil.out #[.string ⟨cx.sym.name.toArray⟩,.int .i64 cx.sym.num,.int .i64 cx.sym.args] (N:=w1.heap.size+1) rfl (by simp) rfl (Zhc _ _ _) ?_ ?_ ?_)
 ·omega
 ·simp
 intro v1 w2 hap
 have hrow:w2.ownsRow (w1.heap.size+1) 133 3 v1 1 (Zam [cx.sym]):=by simpa [Zam,Zcd] using hap.owns
 have hbel:Below (w1.heap.size+1) (w1.alloc (.cells #[.string ⟨cx.sym.name.toArray⟩,.int .i64 cx.sym.num,.int .i64 cx.sym.args] 133)) w2:=hap.kept.below (by simp) (fun k hk=>by simp [Zbd,Value.ownBlock] at hk)
 have Hrow:=Zaa hrow
 have Hbel:=Zaa hbel
 clear hap hrow hbel
 go_wp2
 go_loopg [7,8,9] (cx.sym.args+1) (fun gk tv av nv wr=>∃ (k:Nat),av = .int .i64 (Zay l (x+1) k:Nat)∧nv = .int .i64 k∧k≤cx.sym.args∧cx.sym.args - k<gk∧Below (w1.heap.size+1) (w1.alloc (.cells #[.string ⟨cx.sym.name.toArray⟩,.int .i64 cx.sym.num,.int .i64 cx.sym.args] 133)) wr ∧
   wr.ownsRow (w1.heap.size+1) 133 3 tv (1+(((KS.take k).map (fun k=>T (ρ k))).flatten).length) (Zam (cx.sym::((KS.take k).map (fun k=>T (ρ k))).flatten)))
 case atStart=>exact ⟨0,by simp [Zay],by go_num,Nat.zero_le _,by omega,Hbel.out,by simpa using Hrow.out⟩
 case round =>
  obtain ⟨k,rfl,rfl,hk,hgk,hbw,hown⟩:=hrel
  obtain ⟨ta,tcap,rfl⟩:=Zad hown
  have hsr:=hbw.size
  have hsr:w1.heap.size+1≤wr.heap.size:=by simpa using hsr
  have hE:Ext w1 wr:=by
   have h0:Ext w1 (w1.alloc (.cells #[.string ⟨cx.sym.name.toArray⟩,.int .i64 cx.sym.num,.int .i64 cx.sym.args] 133)):=(Ext.of (by repeat' (first | with_reducible exact Kept.refl _ _ | with_reducible apply Kept.drew | with_reducible apply Kept.drewN | with_reducible apply Kept.alloc | with_reducible refine Kept.setCell ?_ ?_ _ | exact fun h=>absurd h (by simp <;> omega))))
   exact h0.trans (hbw.mono (by omega))
  have hG:=H.out.ext hE
  have b0:wr.cell? ⟨gb,0,none⟩=some (.slice (some ⟨cb,0,none⟩) gs.length cap):=Zab hG.box 0 _ rfl
  have hgb':=Zac hG.box
  have hcb':cb<wr.heap.size:=by omega
  have hbox:wr.heap[w1.heap.size]?=some (.cells #[.string ⟨cx.sym.name.toArray⟩,.int .i64 cx.sym.num,.int .i64 cx.sym.args] 133 (0,0)):=(hbw.block _ (by omega)).trans (heap_alloc_new w1 _)
  have y2:wr.cell? ⟨w1.heap.size,2,none⟩=some (.int .i64 cx.sym.args):=Zab hbox 2 _ rfl
  have hwb:=Zac hbox
  have Hbw:=Zaa hbw
  have Hown:=Zaa hown
  have HG:=Zaa hG
  have HE:=Zaa hE
  clear hbw hown hG hE hbox x0 x1 x2
  by_cases hlt:k<cx.sym.args
  ·obtain ⟨nx,hnx⟩:∃ n,n=Zay l (x+1) k:=⟨_,rfl⟩
   have hnxl:=Hknx.out k hlt
   have hnxa:=Hkat.out k hlt
   rw [← hnx] at hnxl hnxa ⊢
   obtain ⟨cn,hcn⟩:∃ c,gs[nx]?=some c:=⟨_,List.getElem?_eq_getElem hnxl⟩
   have hbn:=(Hc.out.all nx cn hcn).2
   obtain ⟨hDn,hle⟩:=Hsub.out k nx hnxa
   have hm4:=Hm4.out
   have HI:=Zaa (Hih.out (T (ρ nx)).length (by have:=Hm.out; omega) wr gb (.slice (some ⟨cb,0,none⟩) gs.length cap) gs l ρ rk D T nx HG.out Hc.out Hw.out Hu.out HK.out hDn hnxl hl (Nat.le_refl _) (by omega))
   have Hnx:=Zaa hnx
   have Hnxa:=Zaa hnxa
   have Hbn:=Zaa hbn
   have Hcn:=Zaa hcn
   obtain ⟨L,hL⟩:∃ L,L=(((KS.take k).map (fun k=>T (ρ k))).flatten):=⟨_,rfl⟩
   rw [← hL] at hle ⊢
   have HL:=Zaa hL
   clear hnx hnxa hbn hcn hL hDn
   go_wp2_with fail
   refine HI.out.mono ?_
   rintro e w3 ⟨v3,B3,rfl,hB3,hr3,hE3⟩
   obtain ⟨a3,c3,rfl⟩:=Zad hr3
   have hs3:=hE3.size
   have hG3:=HG.out.ext hE3
   have b0:w3.cell? ⟨gb,0,none⟩=some (.slice (some ⟨cb,0,none⟩) gs.length cap):=Zab hG3.box 0 _ rfl
   have hgb3:=Zac hG3.box
   have HR:Hid (Zsj w3 3 (.slice a3 (T (ρ nx)).length c3) (T (ρ nx)).length (Zam (T (ρ nx)))):=Zkm hr3 (Zsk _)
   have Hown3:Hid (w3.ownsRow (w1.heap.size+1) 133 3 (.slice ta (1+L.length) tcap) (1+L.length) (Zam (cx.sym::L))):=by
    have:=Zan Hown.out (fun j hj=>hE3.block j (Hown.out.lt j hj).2)
    rw [← HL.out] at this
    exact this
   have HE3:=Zaa hE3
   have HG3:=Zaa hG3
   clear hr3 hE3 hG3
   go_wp2_with (at_builtin; refine Zdq _ rfl (.tmp 46) (.tmp 47) 105 rfl (w1.heap.size+1) 133 Tryz.infoSym Tryz.underlying105 rfl (by decide) _ (1+L.length) (Zam (cx.sym::L)) rfl Hown3.out _ (T (ρ nx)).length (Zam (T (ρ nx))) rfl HR.out ?_ ?_ ?_)
   ·omega
   ·omega
   intro v4 w4 hap
   obtain ⟨a4,c4,rfl⟩:=Zad hap.owns
   have hG4:GAt w4 gb (.slice (some ⟨cb,0,none⟩) gs.length cap) gs:=by
    have hk:=hap.kept.below (B:=w1.heap.size+1) (by omega) (fun j hj=>(Hown3.out.lt j hj).1)
    have he:Ext w1 w4:=HE.out.trans ((HE3.out.mono (by omega)).trans (hk.mono (by omega)))
    exact H.out.ext he
   obtain ⟨_,_,_,z3,_,_⟩:=hG4.cell Hcn.out
   rw [Hbn.out] at z3
   have b0:w4.cell? ⟨gb,0,none⟩=some (.slice (some ⟨cb,0,none⟩) gs.length cap):=Zab hG4.box 0 _ rfl
   have hgb4:=Zac hG4.box
   obtain ⟨bn,hbn⟩:∃ q,q=Zbq l nx:=⟨_,rfl⟩
   rw [← hbn] at z3
   have Hbn2:=Zaa hbn
   have Hap:=Zaa hap
   clear hap hG4 hbn
   go_wp2
   go_roundg (cx.sym.args - k)
   case measure=>omega
   case rel =>
    have ht:=Zie Hnxa.out
    refine ⟨k+1,by rw [Zcp,← Hnx.out,← Hbn2.out],by go_num,by omega,by omega,?_,?_⟩
    ·exact Hbw.out.trans ((HE3.out.mono (by omega)).trans (Hap.out.kept.below (B:=w1.heap.size+1) (by omega) (fun j hj=>(Hown3.out.lt j hj).1)))
    ·have:=Hap.out.owns
     rw [ht,List.map_append,List.flatten_append,← HL.out]
     simp only [List.map_cons,List.map_nil,List.flatten_cons,List.flatten_nil,List.append_nil,List.length_append]
     rw [← Zdl,List.cons_append] at this
     rw [← Nat.add_assoc]
     exact this
  ·have hek:k=cx.sym.args:=by omega
   subst hek
   obtain ⟨qa,hqa⟩:∃ q,q=Zay l (x+1) cx.sym.args:=⟨_,rfl⟩
   rw [← hqa]
   clear hqa
   have Hown':Hid (Zjs (T x) w1 (.returned (.slice ta (1+(((KS.take cx.sym.args).map (fun k=>T (ρ k))).flatten).length) tcap)) wr):=by
    refine ⟨_,w1.heap.size+1,rfl,by omega,?_,HE.out⟩
    have:=Hown.out
    rw [← HKl.out,List.take_length] at this ⊢
    rw [HT.out,List.length_cons,Nat.add_comm (((KS.map (fun k=>T (ρ k))).flatten).length) 1]
    exact this
   go_wp2
   go_ret
   exact Hown'.out
theorem writ_any (m:Nat):Zql m:=by
 induction m using Nat.strongRecOn with
 | _ m ih=>exact writ_step m ih
theorem in_kid {l:List Sym} {p j:Nat}:∀ m,p≤j→j<Zay l p m→∃ k,k<m∧Zay l p k≤j∧j<Zbq l (Zay l p k):=by
 intro m
 induction m with
 | zero=>intro h1 h2; simp only [Zay] at h2; omega
 | succ m ih =>
  intro h1 h2
  by_cases h:j<Zay l p m
  ·obtain ⟨k,hk,h3,h4⟩:=ih h1 h
   exact ⟨k,by omega,h3,h4⟩
  ·rw [Zcp] at h2
   exact ⟨m,by omega,by omega,h2⟩
theorem Zvv {l:List Sym} (hw:Wf 2 l) {ρ:Nat→Nat} (hcg:∀ i,i<l.length→Cg (grOf l) ρ i) {D:Nat→Prop} {T:Nat→List Sym} (hK:Known (grOf l) ρ D T) :
  ∀ (n p:Nat),p<l.length→Zbq l p - p≤n→D (ρ p)→∀ j,p≤j→j<Zbq l p→D (ρ j):=by
 intro n
 induction n with
 | zero=>intro p hp hn _ j h1 h2; omega
 | succ n ih =>
  intro p hp hn hd j h1 h2
  by_cases e:j=p
  ·subst e; exact hd
  ·obtain ⟨_,e2,e3⟩:=Zhh hw hp
   obtain ⟨_,_,_,_,hb1,hb2,_⟩:=Zfa hw hp
   rw [← e3] at h2
   obtain ⟨k,hk,h3,h4⟩:=in_kid _ (by omega:p+1≤j) h2
   have hmem:Zay l (p+1) k ∈ (grOf l).kids p:=List.mem_of_getElem? (Zcm l (p+1) _ k hk)
   have hq:=e2 _ hmem
   have hn':((grOf l).hd p).name≠[]:=fun h=>by
    have:=(gr_ok hw).vn p hp h
    rw [this] at hmem
    simp at hmem
   obtain ⟨_,h5⟩:=hcg p hp hn'
   have hdk:D (ρ (Zay l (p+1) k)):=by
    have:ρ (Zay l (p+1) k) ∈ ((grOf l).kids (ρ p)).map ρ:=by rw [h5]; exact List.mem_map.2 ⟨_,hmem,rfl⟩
    obtain ⟨k',hk',e'⟩:=List.mem_map.1 this
    rw [← e']; exact hK.kid _ hd k' hk'
   have hle:Zbq l (Zay l (p+1) k)≤Zbq l p:=by
    have mono:∀ m,k+1≤m→m≤(Zba l p).args→Zbq l (Zay l (p+1) k)≤Zay l (p+1) m:=by
     intro m
     induction m with
     | zero=>intro h; omega
     | succ m ihm =>
      intro h6 h7
      by_cases em:m=k
      ·subst em; rw [Zcp]; exact Nat.le_refl _
      ·have:=ihm (by omega) (by omega)
       rw [Zcp l (p+1) m]
       have hqm:=e2 _ (List.mem_of_getElem? (Zcm l (p+1) _ m (by omega)))
       obtain ⟨_,_,_,_,h8,_⟩:=Zfa hw (i:=Zay l (p+1) m) (by omega)
       omega
    rw [← e3]
    exact mono _ (by omega) (Nat.le_refl _)
   exact ih _ (by omega) (by omega) hdk j h3 h4
theorem all_known {a b:List Sym} (ha:Wf 1 a) (hb:Wf 1 b) {ρ:Nat→Nat} (hcg:∀ i,i<(a++b).length→Cg (grOf (a++b)) ρ i) {D:Nat→Prop} {T:Nat→List Sym} (hK:Known (grOf (a++b)) ρ D T) (h0:D (ρ 0)) (h1:D (ρ a.length)):∀ j,j<(a++b).length→D (ρ j):=by
 have hw:Wf 2 (a++b):=Zfz ha hb
 have hla:=Zcw ha
 have hlb:=Zcw hb
 have e0:Zbq (a++b) 0=a.length:=by unfold Zbq; simp [Zkw b ha]
 have e1:Zbq (a++b) a.length=(a++b).length:=by
  have:=Zkw [] hb
  rw [List.append_nil] at this
  unfold Zbq; simp [this]
 intro j hj
 have hl:(a++b).length=a.length+b.length:=by simp
 by_cases h:j<a.length
 ·exact Zvv hw hcg hK _ 0 (by omega) (Nat.le_refl _) h0 j (by omega) (by omega)
 ·exact Zvv hw hcg hK _ a.length (by omega) (Nat.le_refl _) h1 j (by omega) (by omega)
theorem Zyg (l:List Sym):CellsOf (Zge l (Zed l) 0) l:=by
 refine ⟨by rw [Zgf,Zbz],fun i c hc => ?_⟩
 rw [Zgl] at hc
 by_cases h:i<l.length
 ·rw [Zgp h] at hc
  simp at hc
  subst hc
  exact ⟨rfl,rfl⟩
 ·rw [List.getElem?_eq_none (by rw [Zbz]; omega)] at hc
  simp at hc
theorem laid_up {l:List Sym} {k:Nat} (hw:Wf k l):UpOk ((Zge l (Zed l) 0).map GC.up) (Zbm l) (fun j=>if Zbm l j=j then 0 else 1):=by
 have hf:=(Zkg l hw).rt
 intro i c hc
 rw [List.getElem?_map,Zgl] at hc
 by_cases h:i<l.length
 ·rw [Zgp h] at hc
  simp at hc
  subst hc
  have h1:=hf.lt i h
  have h2:=hf.idem i h
  refine ⟨by simp [Zgf,Zbz]; exact h1,h2,fun e=>e,fun e => ?_⟩
  have e':Zbm l i≠i:=e
  show (if Zbm l (Zbm l i)=Zbm l i then 0 else 1)<(if Zbm l i=i then 0 else 1)
  rw [if_pos h2,if_neg e']
  omega
 ·rw [List.getElem?_eq_none (by rw [Zbz]; omega)] at hc
  simp at hc
theorem laid_sz (l:List Sym):sz (Zge l (Zed l) 0) (fun _=>0)=Zge l (Zed l) 0:=by
 apply List.ext_getElem?
 intro i
 cases hc:(Zge l (Zed l) 0)[i]? with
 | none=>rw [List.getElem?_eq_none (by rw [Zes]; exact List.getElem?_eq_none_iff.1 hc)]
 | some c =>
  rw [Zsi hc]
  rw [Zgl] at hc
  by_cases h:i<l.length
  ·rw [Zgp h] at hc
   simp at hc
   subst hc
   rfl
  ·rw [List.getElem?_eq_none (by rw [Zbz]; omega)] at hc
   simp at hc
structure TermsAt (w:World) (B:Nat) (v:Value) (ls:List (List Sym)) (vs:List Value):Prop where
 owns:w.ownsRow B 105 1 v ls.length vs
 all:∀ (i:Nat) (l:List Sym),ls[i]?=some l→∃ x,vs[i]?=some x∧w.ownsRow 0 133 3 x l.length (Zam l)
theorem TermsAt.nil (w:World) (B:Nat):TermsAt w B (.slice none 0 0) [] []:=⟨World.ownsRow_nil _ _ _ _,fun i l h=>by simp at h⟩
theorem TermsAt.ext {w w':World} {B:Nat} {v:Value} {ls:List (List Sym)} {vs:List Value} (h:TermsAt w B v ls vs) (e:Ext w w'):TermsAt w' B v ls vs :=
 ⟨Zan h.owns (fun k hk=>e.block k (h.owns.lt k hk).2),fun i l hl=>by
  obtain ⟨x,h1,h2⟩:=h.all i l hl
  exact ⟨x,h1,Zan h2 (fun k hk=>e.block k (h2.lt k hk).2)⟩⟩
theorem TermsAt.box {w w':World} {M:Nat} {cs:Array Value} {t:TypeId} {fr:Nat × Nat} {B:Nat} {v:Value} {ls:List (List Sym)} {vs:List Value} (h:TermsAt w B v ls vs) (hM:w.heap[M]?=some (.cells cs t fr)) (h1:105≠t) (h2:133≠t) (hk:Kept (fun k=>k=M) w w'):TermsAt w' B v ls vs :=
 ⟨Zce h.owns hM h1 hk,fun i l hl=>by
  obtain ⟨x,h3,h4⟩:=h.all i l hl
  exact ⟨x,h3,Zce h4 hM h2 hk⟩⟩
theorem TermsAt.snoc {w w':World} {B:Nat} {v v' x:Value} {ls:List (List Sym)} {vs:List Value} {l:List Sym} (h:TermsAt w B v ls vs) (ha:Appended w B 105 1 v (ls.length+1) (vs++[x]) v' w') (hx:w.ownsRow 0 133 3 x l.length (Zam l)):TermsAt w' B v' (ls++[l]) (vs++[x]):=by
 have keep:∀ {y:Value} {t:List Sym},w.ownsRow 0 133 3 y t.length (Zam t)→w'.ownsRow 0 133 3 y t.length (Zam t):=fun {y t} hy=>ha.kept.owns hy (fun k hk hs=>by
  obtain ⟨cur,hc⟩:=Zap h.owns k hs
  exact Zah hy (by decide) hc hk)
 have hl:vs.length=ls.length:=by have:=h.owns.1; omega
 refine ⟨by simpa using ha.owns,fun i t ht => ?_⟩
 by_cases hi:i<ls.length
 ·rw [List.getElem?_append_left hi] at ht
  obtain ⟨y,h1,h2⟩:=h.all i t ht
  exact ⟨y,by rw [List.getElem?_append_left (by omega)]; exact h1,keep h2⟩
 ·rw [List.getElem?_append_right (by omega)] at ht
  by_cases e:i=ls.length
  ·subst e
   simp at ht
   subst ht
   exact ⟨x,by rw [List.getElem?_append_right (by omega)]; simp [hl],keep hx⟩
  ·rw [List.getElem?_eq_none (by simp; omega)] at ht
   simp at ht
theorem TermsAt.put {w:World} {B g cap:Nat} {x:Value} {ls:List (List Sym)} {vs:List Value} {l:List Sym} {n:Nat} (h:TermsAt w B (.slice (some ⟨g,0,none⟩) ls.length cap) ls vs) (hn:n<ls.length) (hx:w.ownsRow 0 133 3 x l.length (Zam l)) :
  TermsAt (w.setCell ⟨g,n,none⟩ x) B (.slice (some ⟨g,0,none⟩) ls.length cap) (ls.set n l) (vs.set n x):=by
 have hl:vs.length=ls.length:=by have:=h.owns.1; omega
 obtain ⟨cur,hg⟩:=Zap h.owns g rfl
 have hk:Kept (fun k=>k=g) w (w.setCell ⟨g,n,none⟩ x):=(Kept.refl (only g) w).put n x
 have keep:∀ {y:Value} {t:List Sym},w.ownsRow 0 133 3 y t.length (Zam t)→(w.setCell ⟨g,n,none⟩ x).ownsRow 0 133 3 y t.length (Zam t):=fun {y t} hy=>Zce hy hg (by decide) hk
 refine ⟨by rw [List.length_set]; exact Zvp h.owns n x,fun i t ht => ?_⟩
 rw [List.getElem?_set] at ht ⊢
 by_cases e:n=i
 ·subst e
  rw [if_pos rfl,if_pos hn] at ht
  simp at ht
  subst ht
  exact ⟨x,by rw [if_pos rfl,if_pos (by omega)],keep hx⟩
 ·rw [if_neg e] at ht
  obtain ⟨y,h1,h2⟩:=h.all i t ht
  exact ⟨y,by rw [if_neg e]; exact h1,keep h2⟩
structure SubOk (l:List Sym) (ρ:Nat→Nat) (T:Nat→List Sym) (k:Nat) (ts:List (List Sym)):Prop where
 has:∀ i,i<k→(Zba l i).name=[]→ts[(Zba l i).num]?=some (T (ρ i))
 only:∀ n t,ts[n]?=some t→t=[]∨∃ i,i<k∧(Zba l i).name=[]∧(Zba l i).num=n∧t=T (ρ i)
theorem SubOk.nil (l:List Sym) (ρ:Nat→Nat) (T:Nat→List Sym):SubOk l ρ T 0 []:=⟨fun i h=>by omega,fun n t h=>by simp at h⟩
theorem SubOk.pad {l:List Sym} {ρ:Nat→Nat} {T:Nat→List Sym} {k:Nat} {ts:List (List Sym)} (h:SubOk l ρ T k ts):SubOk l ρ T k (ts++[[]]):=by
 refine ⟨fun i hi hn => ?_,fun n t ht => ?_⟩
 ·have:=h.has i hi hn
  rw [List.getElem?_append_left ((List.getElem?_eq_some_iff.1 this).1)]
  exact this
 ·by_cases hl:n<ts.length
  ·rw [List.getElem?_append_left hl] at ht
   exact h.only n t ht
  ·rw [List.getElem?_append_right (by omega)] at ht
   left
   have:=List.mem_of_getElem? ht
   simpa using this
theorem SubOk.skip {l:List Sym} {ρ:Nat→Nat} {T:Nat→List Sym} {k:Nat} {ts:List (List Sym)} (h:SubOk l ρ T k ts) (hn:(Zba l k).name≠[]):SubOk l ρ T (k+1) ts:=by
 refine ⟨fun i hi hi' => ?_,fun n t ht => ?_⟩
 ·by_cases e:i=k
  ·subst e; exact absurd hi' hn
  ·exact h.has i (by omega) hi'
 ·rcases h.only n t ht with h1 | ⟨i,h1,h2⟩
  ·exact Or.inl h1
  ·exact Or.inr ⟨i,by omega,h2⟩
theorem SubOk.old {l:List Sym} {ρ:Nat→Nat} {T:Nat→List Sym} {k:Nat} {ts:List (List Sym)} {t:List Sym} (h:SubOk l ρ T k ts) (hv:Vars (grOf l) ρ) (hk:k<l.length) (hn:(Zba l k).name=[]) (ht:ts[(Zba l k).num]?=some t) (hne:t≠[]):SubOk l ρ T (k+1) ts:=by
 refine ⟨fun i hi hi' => ?_,fun n t ht => ?_⟩
 ·by_cases e:i=k
  ·subst e
   rcases h.only _ t ht with h1 | ⟨j,h1,h2,h3,h4⟩
   ·exact absurd h1 hne
   ·have:ρ j=ρ i:=hv j i (by show _<l.length; omega) hk h2 hn h3
    rw [ht,h4,this]
  ·exact h.has i (by omega) hi'
 ·rcases h.only n t ht with h1 | ⟨i,h1,h2⟩
  ·exact Or.inl h1
  ·exact Or.inr ⟨i,by omega,h2⟩
theorem SubOk.new {l:List Sym} {ρ:Nat→Nat} {T:Nat→List Sym} {k:Nat} {ts:List (List Sym)} (h:SubOk l ρ T k ts) (hne:∀ i,i<k→(Zba l i).name=[]→T (ρ i)≠[]) (hn:(Zba l k).name=[]) (ht:ts[(Zba l k).num]?=some []):SubOk l ρ T (k+1) (ts.set (Zba l k).num (T (ρ k))):=by
 have hl:=(List.getElem?_eq_some_iff.1 ht).1
 refine ⟨fun i hi hi' => ?_,fun n t hnt => ?_⟩
 ·rw [List.getElem?_set]
  by_cases e:i=k
  ·subst e
   rw [if_pos rfl,if_pos hl]
  ·have h1:=h.has i (by omega) hi'
   rw [if_neg]
   ·exact h1
   ·intro e2
    rw [← e2,ht] at h1
    simp only [Option.some.injEq] at h1
    exact hne i (by omega) hi' h1.symm
 ·rw [List.getElem?_set] at hnt
  by_cases e:(Zba l k).num=n
  ·rw [if_pos e,if_pos hl] at hnt
   simp only [Option.some.injEq] at hnt
   exact Or.inr ⟨k,by omega,hn,e,hnt.symm⟩
  ·rw [if_neg e] at hnt
   rcases h.only n t hnt with h1 | ⟨i,h1,h2⟩
   ·exact Or.inl h1
   ·exact Or.inr ⟨i,by omega,h2⟩
end Go.Proofs.YtlmjilpjmgjjcaaGreatDoor
