/-
  PROVED HERE: what the program's 'add' makes of symbols that lie in memory (the conditions stand in each statement).
-/
import Derived.Test.YtlmjilpjmgjjcaaGreatDoorT8
namespace Go.Proofs.YtlmjilpjmgjjcaaGreatDoor
open Go.RowKit
set_option linter.unusedSimpArgs false
set_option linter.unusedVariables false
def sgm:List (Nat × List Sym)→Nat→List Sym
 | L=>fun n=>L.foldl (fun t s=>ap (sub1 s.1 s.2) t) (vr n)
theorem sgm_snoc (L:List (Nat × List Sym)) (v:Nat) (t:List Sym):sgm (L++[(v,t)])=fun n=>ap (sub1 v t) (sgm L n):=by
 funext n; simp [sgm]
theorem Tryz.infoSub:(Tryz.prog.info? 300).map (fun i=>(i.zero,i.size,i.bytes))=some (some (.agg #[.int .i64 0,.string ⟨#[]⟩,.int .i64 0,.slice none 0 0]),4,56):=by kernel_rfl
theorem sub_one {s:ByteArray} {n m:Int} {ca:Option Addr} {cl cc:Nat}:∀ u ∈ (#[Value.int .i64 m,.string s,.int .i64 n,.slice ca cl cc]:Array Value).toList,u.oneCell'=true:=by
 intro u hu
 simp at hu
 rcases hu with rfl | rfl | rfl | rfl <;> rfl
structure RowS (X:Nat→Prop) (w:World) (B:Nat) (cv:Value) (n:Nat) (L:List (Nat × List Sym)) (xs:List Value):Prop where
 owns:w.ownsRow B 300 4 cv n xs
 len:L.length=n
 all:∀ (i:Nat) (s:Nat × List Sym),L[i]?=some s→∃ a b c,xs[i * 4]?=some (.int .i64 s.1)∧xs[i * 4+1]?=some a∧xs[i * 4+2]?=some b∧xs[i * 4+3]?=some c∧Rep X w a b c s.2
theorem RowS.nil (X:Nat→Prop) (w:World) (B:Nat):RowS X w B (.slice none 0 0) 0 [] []:=⟨World.ownsRow_nil _ _ _ _,rfl,fun i l' h=>by simp at h⟩
theorem RowS.on {X Y:Nat→Prop} {w w':World} {B n:Nat} {cv:Value} {L:List (Nat × List Sym)} {xs:List Value} (h:RowS X w B cv n L xs) (ho:∀ k,cv.ownBlock=some k→w'.heap[k]?=w.heap[k]?) (hk:∀ k,k<w.heap.size→¬ X k→isTerms w k→w'.heap[k]?=w.heap[k]?∧¬ Y k):RowS Y w' B cv n L xs :=
 ⟨owns_same h.owns ho,h.len,fun i s hs=>by
  obtain ⟨a,b,c,x0,x1,x2,x3,g⟩:=h.all i s hs
  exact ⟨a,b,c,x0,x1,x2,x3,g.on hk⟩⟩
theorem RowS.ext {X Y:Nat→Prop} {w w':World} {B B' n:Nat} {cv:Value} {L:List (Nat × List Sym)} {xs:List Value} (h:RowS X w B cv n L xs) (e:Ext w w') (hy:∀ k,Y k→X k) (hB:B'≤B):RowS Y w' B' cv n L xs:=by
 have:=h.on (Y:=Y) (w':=w') (fun k hk=>e.block k (h.owns.lt k hk).2) (fun k hk hn _=>⟨e.block k hk,fun h=>hn (hy k h)⟩)
 exact ⟨owns_base this.owns hB,this.len,this.all⟩
theorem RowS.step {X:Nat→Prop} {w w':World} {B n:Nat} {cv cv':Value} {L:List (Nat × List Sym)} {xs:List Value} {a b c:Value} {v:Nat} {t:List Sym} (h:RowS X w B cv n L xs) (hr:Rep X w a b c t) (ha:Appended w B 300 4 cv (n+1) (xs++[.int .i64 v,a,b,c]) cv' w') :
  RowS X w' B cv' (n+1) (L++[(v,t)]) (xs++[.int .i64 v,a,b,c]):=by
 have hon:∀ {a b c:Value} {l:List Sym},Rep X w a b c l→Rep X w' a b c l:=fun hr=>hr.on (fun k hk hx ht=>by
  obtain ⟨cur,hc⟩:=ht
  exact ⟨ha.kept.block k hk (owns_apart h.owns (by decide) hc),hx⟩)
 have hxl:=h.owns.1
 have hL:=h.len
 refine ⟨ha.owns,by simp [hL],fun i s hs => ?_⟩
 rcases Nat.lt_or_ge i L.length with hi | hi
 ·rw [List.getElem?_append_left hi] at hs
  obtain ⟨a',b',c',x0,x1,x2,x3,g⟩:=h.all i s hs
  refine ⟨a',b',c',?_,?_,?_,?_,hon g⟩
  ·rw [List.getElem?_append_left (by omega)]; exact x0
  ·rw [List.getElem?_append_left (by omega)]; exact x1
  ·rw [List.getElem?_append_left (by omega)]; exact x2
  ·rw [List.getElem?_append_left (by omega)]; exact x3
 ·have:=(List.getElem?_eq_some_iff.1 hs).1
  simp at this
  have e:i=L.length:=by omega
  subst e
  simp at hs
  subst hs
  rw [hL]
  refine ⟨a,b,c,?_,?_,?_,?_,hon hr⟩
  ·rw [List.getElem?_append_right (by omega),hxl]; simp
  ·rw [List.getElem?_append_right (by omega),hxl]; simp
  ·rw [List.getElem?_append_right (by omega),hxl]; simp
  ·rw [List.getElem?_append_right (by omega),hxl]; simp
structure Stay (Y:Nat→Prop) (B:Nat) (u u':World):Prop where
 size:u.heap.size≤u'.heap.size
 block:∀ k,k<u.heap.size→¬ Y k→u'.heap[k]?=u.heap[k]?
 low:Below B u u'
theorem Stay.ext {Y:Nat→Prop} {B:Nat} {u u':World} (h:Ext u u') (hB:B≤u.heap.size):Stay Y B u u':=⟨h.size,fun k hk _=>h.block k hk,h.mono hB⟩
theorem Stay.of {Y:Nat→Prop} {B:Nat} {S:Nat→Prop} {u u':World} (h:Kept S u u') (hB:B≤u.heap.size) (h1:∀ k,S k→Y k) (h2:∀ k,S k→B≤k):Stay Y B u u':=⟨h.size,fun k hk hn=>h.block k hk (fun e=>hn (h1 k e)),h.below hB h2⟩
theorem Stay.trans {Y:Nat→Prop} {B:Nat} {u u' u'':World} (h:Stay Y B u u') (k:Stay Y B u' u''):Stay Y B u u'':=⟨Nat.le_trans h.size k.size,fun i hi hn=>(k.block i (Nat.lt_of_lt_of_le hi h.size) hn).trans (h.block i hi hn),h.low.trans k.low⟩
theorem Rep.stay {Y:Nat→Prop} {B:Nat} {u u':World} {a b c:Value} {l:List Sym} (h:Rep Y u a b c l) (hs:Stay Y B u u'):Rep Y u' a b c l:=h.on (fun k hk hn _=>⟨hs.block k hk hn,hn⟩)
theorem RowS.stay {Y:Nat→Prop} {B:Nat} {u u':World} {B' n:Nat} {cv:Value} {L:List (Nat × List Sym)} {xs:List Value} (h:RowS Y u B' cv n L xs) (hs:Stay Y B u u') (hc:∀ k,B'≤k→¬ Y k):RowS Y u' B' cv n L xs :=
 h.on (fun k e=>hs.block k (h.owns.lt k e).2 (hc k (h.owns.lt k e).1)) (fun k hk hn _=>⟨hs.block k hk hn,hn⟩)
theorem Stay.put3 {X:Nat→Prop} {B n b:Nat} {u:World} (hb:B≤b∧b<B+n) (hB:B≤u.heap.size) (x y z:Value):Stay (boxed X B n) B u (((u.setCell ⟨b,0,none⟩ x).setCell ⟨b,1,none⟩ y).setCell ⟨b,2,none⟩ z) :=
 Stay.of (S:=only b) ((((Kept.refl (only b) u).put 0 x).put 1 y).put 2 z) hB (fun k e=>Or.inr (by have e:k=b:=e; omega)) (fun k e=>by have e:k=b:=e; omega)
theorem boxed_only {X:Nat→Prop} {B n k:Nat} (h:boxed X B n k) (hk:k<B):X k:=by
 rcases h with h | h
 ·exact h
 ·omega
def varsIn (V:List Nat) (l:List Sym):Nat:=(V.filter (fun v=>l.any (fun s=>s.name.isEmpty && s.num == v))).length
theorem any_occ {v:Nat} {l:List Sym}:l.any (fun s=>s.name.isEmpty && s.num == v)=true↔Occ v l:=by
 simp only [List.any_eq_true,Bool.and_eq_true,beq_iff_eq,List.isEmpty_iff]
 constructor
 ·rintro ⟨s,h,h1,h2⟩; exact ⟨s,h,h1,h2⟩
 ·rintro ⟨s,h,h1,h2⟩; exact ⟨s,h,h1,h2⟩
theorem vars_less {V:List Nat} {l l':List Sym} {v:Nat} (hv:v ∈ V) (ho:Occ v l) (hn:¬ Occ v l') (hs:∀ n,Occ n l'→Occ n l):varsIn V l'<varsIn V l:=by
 unfold varsIn
 refine filter_lt (x:=v) (fun n _ h=>any_occ.2 (hs n (any_occ.1 h))) hv (any_occ.2 ho) ?_
 cases h:l'.any (fun s=>s.name.isEmpty && s.num == v) with
 | false=>rfl
 | true=>exact absurd (any_occ.1 h) hn
theorem occ_sub1 {v n:Nat} {y l:List Sym} (h:Occ n (ap (sub1 v y) l)):(n≠v∧Occ n l)∨(Occ v l∧Occ n y):=by
 rw [occ_ap] at h
 obtain ⟨k,h1,h2⟩:=h
 unfold sub1 at h2
 split at h2
 ·rename_i e; subst e; exact Or.inr ⟨h1,h2⟩
 ·rename_i e; rw [occ_vr] at h2; subst h2; exact Or.inl ⟨e,h1⟩
def LsOk (L:List (Nat × List Sym)):Prop:=(∀ s ∈ L,Wf 1 s.2∧s.2.length≤30)∧∀ k n,(sgm (L.take k) n).length≤30
theorem LsOk.nil:LsOk []:=⟨by simp,fun k n=>by simp [sgm,vr]⟩
theorem LsOk.snoc {L:List (Nat × List Sym)} (h:LsOk L) {v:Nat} {t l m la lb:List Sym} (ht:Wf 1 t∧t.length≤30) (hc:Carr l m (sgm (L++[(v,t)])) la lb) (ha:la.length≤30) (hb:lb.length≤30):LsOk (L++[(v,t)]):=by
 refine ⟨fun s hs => ?_,fun k n => ?_⟩
 ·rcases List.mem_append.1 hs with hs | hs
  ·exact h.1 s hs
  ·simp at hs; subst hs; exact ht
 ·rcases Nat.lt_or_ge k (L.length+1) with hk | hk
  ·rw [List.take_append_of_le_length (by omega)]
   exact h.2 k n
  ·rw [List.take_of_length_le (by simp; omega)]
   have hp:∀ {l:List Sym},Occ n l→1≤l.length:=fun ⟨s,hs,_⟩=>by cases ‹List Sym› with | nil=>simp at hs | cons _ _=>simp
   by_cases h1:Occ n l
   ·have:=ap_occ_len hc.ts h1
    rw [← hc.ha] at this
    have:=hp h1
    omega
   ·by_cases h2:Occ n m
    ·have:=ap_occ_len hc.ts h2
     rw [← hc.hb] at this
     have:=hp h2
     omega
    ·rw [hc.own n h1 h2]; simp [vr]
def FitOut (X:Nat→Prop) (l m:List Sym) (w w':World) (r:Value):Prop :=
 (r = .tuple #[.slice none 0 0,.int .i64 0]∧NoFit l m)∨(r = .tuple #[.slice none 0 0,.int .i64 3]∧Vast l m) ∨
 (∃ cv L xs,r = .tuple #[cv,.int .i64 1]∧RowS X w' w.heap.size cv L.length L xs∧Mgu (sgm L) l m∧(ap (sgm L) l).length≤30∧LsOk L∧L.length≤60)
theorem ap_len_le {σ:Nat→List Sym} {k:Nat} (hk:1≤k) (h:∀ n,(σ n).length≤k) (l:List Sym):(ap σ l).length≤l.length * k:=by
 induction l with
 | nil=>simp [ap]
 | cons s l ih =>
  rw [ap_cons]
  have:(ap1 σ s).length≤k:=by
   unfold ap1; split
   ·exact h _
   ·simpa using hk
  simp only [List.length_append,List.length_cons,Nat.add_mul,Nat.one_mul]
  omega
theorem sub1_len {v:Nat} {t l:List Sym} (ht:t.length≤30) (hl:l.length≤30):(ap (sub1 v t) l).length≤900:=by
 have:=ap_len_le (σ:=sub1 v t) (k:=30) (by omega) (fun n=>by
  unfold sub1; split
  ·exact ht
  ·simp [vr]) l
 omega
theorem Parts.len {a b x y:List Sym} (h:Parts a b x y):x.length≤a.length∧y.length≤b.length:=by
 obtain ⟨p,ra,rb,rfl,rfl⟩:=h.ex
 simp; omega
set_option maxRecDepth 10000 in
set_option maxHeartbeats 8000000 in
theorem fit_any (w:World) (X:Nat→Prop) (a b c a' b' c':Value) (l m:List Sym) (h:Rep X w a b c l) (h':Rep X w a' b' c' m) (hX:∀ k,X k→k<w.heap.size) (hl:l.length≤30) (hm:m.length≤30) :
  Calls Tryz.prog 181 #[.agg #[a,b,c],.agg #[a',b',c']] w fun e w'=>∃ r,e = .returned r∧Ext w w'∧FitOut X l m w w' r:=by
 have w1:=h.wf _ (Nat.le_refl _)
 have w2:=h'.wf _ (Nat.le_refl _)
 obtain ⟨s1,n1,c1a,c1l,c1c,rfl,rfl,rfl⟩:=h.shape
 obtain ⟨s2,n2,c2a,c2l,c2c,rfl,rfl,rfl⟩:=h'.shape
 have H:=hide' h
 have H':=hide' h'
 have HX:=hide' hX
 have W1:=hide' w1
 have W2:=hide' w2
 obtain ⟨V,hV⟩:∃ V:List Nat,V=(l++m).map Sym.num:=⟨_,rfl⟩
 have HV:Hid (V.length≤60∧∀ v,Occ v l∨Occ v m→v ∈ V):=by
  subst hV
  refine ⟨by simp; omega,fun v hv => ?_⟩
  rw [← occ_append] at hv
  obtain ⟨s,hs,_,e⟩:=hv
  exact List.mem_map.2 ⟨s,hs,e⟩
 clear h h' hX w1 w2 hV
 go_enter Tryz.func181,Tryz.ntmps181
 go_wp2
 go_loopg [8] (varsIn V (l++m)+1) (fun gk cv wr=>∃ (L:List (Nat × List Sym)) (xs:List Value) (la lb:List Sym) (s3:ByteArray) (n3:Nat) (c3a:Option Addr) (c3l c3c:Nat) (s4:ByteArray) (n4:Nat) (c4a:Option Addr) (c4l c4c:Nat),
   Ext w wr∧RowS (boxed X w.heap.size 4) wr (w.heap.size+4) cv L.length L xs∧Carr l m (sgm L) la lb∧la.length≤30∧lb.length≤30∧LsOk L∧varsIn V (la++lb)<gk∧L.length+varsIn V (la++lb)≤60 ∧
   wr.heap[w.heap.size]?=some (.cells #[.string s3,.int .i64 n3,.slice c3a c3l c3c] 183 (0,0))∧wr.heap[w.heap.size+1]?=some (.cells #[.string s4,.int .i64 n4,.slice c4a c4l c4c] 183 (0,0)) ∧
   wr.heap[w.heap.size+1+1]?=some (.cells #[.string s1,.int .i64 n1,.slice c1a c1l c1c] 183 (0,0))∧wr.heap[w.heap.size+1+1+1]?=some (.cells #[.string s2,.int .i64 n2,.slice c2a c2l c2c] 183 (0,0)) ∧
   Rep (boxed X w.heap.size 4) wr (.string s3) (.int .i64 n3) (.slice c3a c3l c3c) la∧Rep (boxed X w.heap.size 4) wr (.string s4) (.int .i64 n4) (.slice c4a c4l c4c) lb)
 case atStart =>
  have hbx:∀ k,k<w.heap.size→boxed X w.heap.size 4 k→X k:=fun k hk h=>by
   rcases h with h | h
   ·exact h
   ·omega
  refine ⟨[],[],l,m,s1,n1,c1a,c1l,c1c,s2,n2,c2a,c2l,c2c,(Ext.of (by repeat' (first | with_reducible exact Kept.refl _ _ | with_reducible apply Kept.drew | with_reducible apply Kept.drewN | with_reducible apply Kept.alloc | with_reducible refine Kept.setCell ?_ ?_ _ | exact fun h=>absurd h (by simp <;> omega)))),RowS.nil _ _ _,Carr.start W1.out W2.out,hl,hm,LsOk.nil,by omega,?_,?_,?_,?_,?_,H.out.ext (Ext.of (by repeat' (first | with_reducible exact Kept.refl _ _ | with_reducible apply Kept.drew | with_reducible apply Kept.drewN | with_reducible apply Kept.alloc | with_reducible refine Kept.setCell ?_ ?_ _ | exact fun h=>absurd h (by simp <;> omega)))) hbx,H'.out.ext (Ext.of (by repeat' (first | with_reducible exact Kept.refl _ _ | with_reducible apply Kept.drew | with_reducible apply Kept.drewN | with_reducible apply Kept.alloc | with_reducible refine Kept.setCell ?_ ?_ _ | exact fun h=>absurd h (by simp <;> omega)))) hbx⟩
  ·have:varsIn V (l++m)≤V.length:=List.length_filter_le _ _
   have:=HV.out.1
   simp; omega
  ·exact block_alloc (block_alloc (block_alloc (heap_alloc_new w _) _) _) _
  ·simpa using block_alloc (block_alloc (heap_alloc_new (w.alloc _) _) _) _
  ·simpa using block_alloc (heap_alloc_new ((w.alloc _).alloc _) _) _
  ·simpa using heap_alloc_new (((w.alloc _).alloc _).alloc _) _
 case round =>
  obtain ⟨L,xs,la,lb,s3,n3,c3a,c3l,c3c,s4,n4,c4a,c4l,c4c,hext,hrow,hcarr,hla,hlb,hLs,hg,h60,h0,h1,h2,h3,hra,hrb⟩:=hrel
  obtain ⟨b0,b1,b2,bf⟩:=box3 h0
  obtain ⟨d0,d1,d2,df⟩:=box3 h1
  obtain ⟨cva,cvcap,rfl⟩:=owns_slice hrow.owns
  have hsz:=lt_of_block h3
  have hYl:∀ k,boxed X w.heap.size 4 k→k<wr.heap.size:=fun k h=>by have:=boxed_lt HX.out k h; omega
  have HI:=hide' (differ_any la.length wr (boxed X w.heap.size 4) _ _ _ _ _ _ la lb (Nat.le_refl _) (by omega) (by omega) hra hrb hYl)
  have Hext:=hide' hext
  have Hrow:=hide' hrow
  have Hcarr:=hide' hcarr
  have HLs:=hide' hLs
  have B0:=hide' h0
  have B1:=hide' h1
  have B2:=hide' h2
  have B3:=hide' h3
  have Hra:=hide' hra
  have Hrb:=hide' hrb
  have Hg:=hide' hg
  have H60:=hide' h60
  clear hext hrow hcarr hLs h0 h1 h2 h3 hra hrb hYl hg h60
  go_wp2_with fail
  refine HI.out.mono ?_
  rintro e w1 ⟨r,rfl,hext1,s5,n5,c5a,c5l,c5c,s6,n6,c6a,c6l,c6c,q,rfl,hq1,hq2⟩
  have Hext1:=hide' hext1
  have hs1:=hext1.size
  have Hq1:=hide' hq1
  have Hq2:=hide' hq2
  clear hext1 hq1 hq2
  cases q
  ·have Hm:Hid (la=lb):=Hq1.out rfl
   go_wp2
   go_ret2
   have hk:∀ o o',Ext wr ((w1.alloc o).alloc o'):=fun o o'=>Hext1.out.trans (((Below.refl _ w1).alloc (by omega) _).alloc (by simp; omega) _)
   refine ⟨_,rfl,Hext.out.trans ((hk _ _).mono Hext.out.size),Or.inr (Or.inr ⟨_,L,xs,rfl,?_,Hcarr.out.done Hm.out,by rw [← Hcarr.out.ha]; exact hla,HLs.out,by have:=H60.out; omega⟩)⟩
   exact Hrow.out.ext (hk _ _) (fun k h=>Or.inl h) (by omega)
  ·obtain ⟨x,y,hrx,hry,hpart⟩:=Hq2.out rfl
   have hpl:=hpart.len
   rcases hrx.out with ⟨v,hs5,hn5,hc5,rfl⟩ | ⟨nm,ls,ys,hnm,hs5,hn5,hx,_⟩
   ·simp only [Value.string.injEq,Value.int.injEq,true_and,Value.slice.injEq] at hs5 hn5 hc5
    obtain ⟨rfl,rfl,rfl⟩:=hc5
    subst hs5
    have hn5':n5=v:=by omega
    subst hn5'
    have Hstand:=hide' (fun wq (hq:Ext w1 wq)=>stands_any y.length wq (boxed X w.heap.size 4) _ _ _ y n5 (Nat.le_refl _) (by omega) (hry.ext hq (fun j _ h=>Or.inl h)))
    have Hry:=hide' hry
    have Hpx:=hide' hpart
    clear hrx hry hpart
    go_wp2_with fail
    refine (Hstand.out _ (Ext.of (by repeat' (first | with_reducible exact Kept.refl _ _ | with_reducible apply Kept.drew | with_reducible apply Kept.drewN | with_reducible apply Kept.alloc | with_reducible refine Kept.setCell ?_ ?_ _ | exact fun h=>absurd h (by simp <;> omega))))).mono ?_
    rintro e w2 ⟨r,rfl,hext2,hin⟩
    have HE12:Hid (Ext w1 w2):=Below.trans (Ext.of (by repeat' (first | with_reducible exact Kept.refl _ _ | with_reducible apply Kept.drew | with_reducible apply Kept.drewN | with_reducible apply Kept.alloc | with_reducible refine Kept.setCell ?_ ?_ _ | exact fun h=>absurd h (by simp <;> omega)))) (hext2.mono (by simp; omega))
    have Hin:=hide' hin
    have hs2:=hext2.size
    simp at hs2
    have hb9:w2.heap[w1.heap.size]?=some (.cells #[.string ⟨#[]⟩,.int .i64 n5,.slice none 0 0] 183 (0,0)):=(hext2.block _ (by simp; omega)).trans (block_alloc (heap_alloc_new w1 _) _)
    have hb10:w2.heap[w1.heap.size+1]?=some (.cells #[.string s6,.int .i64 n6,.slice c6a c6l c6c] 183 (0,0)):=(hext2.block _ (by simp)).trans (by simpa using heap_alloc_new (w1.alloc _) _)
    obtain ⟨z0,z1,z2,zf⟩:=box3 hb9
    obtain ⟨t0,t1,t2,tf⟩:=box3 hb10
    have Hb9:=hide' hb9
    have Hb10:=hide' hb10
    clear hext2 hin hb9 hb10
    cases r
    ·have hst2:Stay (boxed X w.heap.size 4) w.heap.size wr w2:=(Stay.ext Hext1.out (by omega)).trans (Stay.ext HE12.out (by omega))
     have hsw:=hst2.size
     have ha2:=((HE12.out.block w.heap.size (by omega)).trans (Hext1.out.block _ (by omega))).trans B0.out
     have hb2:=((HE12.out.block (w.heap.size+1) (by omega)).trans (Hext1.out.block _ (by omega))).trans B1.out
     obtain ⟨g0,g1,g2,gf⟩:=box3 ha2
     obtain ⟨k0,k1,k2,kf⟩:=box3 hb2
     have m0:w.heap.size<w2.heap.size:=by omega
     have m1:w.heap.size+1<w2.heap.size:=by omega
     have m2:w1.heap.size<w2.heap.size:=by omega
     have m3:w1.heap.size+1<w2.heap.size:=by omega
     have Hry2:Hid (Rep (boxed X w.heap.size 4) w2 (.string s6) (.int .i64 n6) (.slice c6a c6l c6c) y):=(Hry.out.ext (Y:=boxed X w.heap.size 4) (w':=w2) HE12.out (fun k _ h=>Or.inl h))
     have HIp:=hide' (fun wq (hq:Ext w2 wq)=>put_any la.length wq (boxed X w.heap.size 4) (.string s3) (.int .i64 n3) (.slice c3a c3l c3c) la n5 (.string s6) (.int .i64 n6) (.slice c6a c6l c6c) y (Nat.le_refl _) ((Hra.out.stay hst2).ext hq (fun _ _ h=>h)) (Hry2.out.ext hq (fun _ _ h=>h)) (fun k h=>by have:=boxed_lt HX.out k h; have:=hq.size; omega) (by have:=sub1_len (v:=n5) (t:=y) (l:=la) (by omega) hla; omega))
     have Hst2:=hide' hst2
     have Ha2:=hide' ha2
     have Hb2:=hide' hb2
     clear hst2 ha2 hb2
     go_wp2_with fail
     refine (HIp.out _ (Ext.of (by repeat' (first | with_reducible exact Kept.refl _ _ | with_reducible apply Kept.drew | with_reducible apply Kept.drewN | with_reducible apply Kept.alloc | with_reducible refine Kept.setCell ?_ ?_ _ | exact fun h=>absurd h (by simp <;> omega))))).mono ?_
     rintro e w3 ⟨a7,b7,c7,rfl,hext3,hrep7⟩
     obtain ⟨s7,n7,c7a,c7l,c7c,rfl,rfl,rfl⟩:=hrep7.shape
     have hs3:=hext3.size
     simp at hs3
     have hE3:Ext w2 w3:=((Ext.of (by repeat' (first | with_reducible exact Kept.refl _ _ | with_reducible apply Kept.drew | with_reducible apply Kept.drewN | with_reducible apply Kept.alloc | with_reducible refine Kept.setCell ?_ ?_ _ | exact fun h=>absurd h (by simp <;> omega)))):Ext w2 _).trans (hext3.mono (by simp))
     have hs23:=hE3.size
     obtain ⟨g0,g1,g2,gf⟩:=box3 ((hE3.block _ m0).trans Ha2.out)
     have hb3:=(hE3.block _ m1).trans Hb2.out
     obtain ⟨k0,k1,k2,kf⟩:=box3 hb3
     have hS3:w3.heap[w2.heap.size]?=some (.cells #[.int .i64 n5,.string s6,.int .i64 n6,.slice c6a c6l c6c] 300 (0,0)):=(hext3.block _ (by simp)).trans (heap_alloc_new w2 _)
     have q0:w3.cell? ⟨w2.heap.size,0,none⟩=some (.int .i64 n5):=cell_of_block hS3 0 _ rfl
     have q1:w3.cell? ⟨w2.heap.size,1,none⟩=some (.string s6):=cell_of_block hS3 1 _ rfl
     have q2:w3.cell? ⟨w2.heap.size,2,none⟩=some (.int .i64 n6):=cell_of_block hS3 2 _ rfl
     have q3:w3.cell? ⟨w2.heap.size,3,none⟩=some (.slice c6a c6l c6c):=cell_of_block hS3 3 _ rfl
     have hst3:Stay (boxed X w.heap.size 4) w.heap.size wr w3:=Hst2.out.trans (Stay.ext hE3 (by omega))
     have HE3:=hide' hE3
     have HS3:=hide' hS3
     have Hst3:=hide' hst3
     have Hrep7:=hide' hrep7
     have Hry3:=hide' (Hry2.out.ext hE3 (fun _ _ h=>h))
     have Hb3:=hide' hb3
     have ne0:¬ w2.heap.size=w.heap.size:=by omega
     have ne1:¬ w.heap.size+1=w.heap.size:=by omega
     clear hext3 hrep7 hE3 hS3 hst3 hb3
     have HIq:=hide' (fun wq (hq:Stay (boxed X w.heap.size 4) w.heap.size w3 wq)=>put_any lb.length wq (boxed X w.heap.size 4) (.string s4) (.int .i64 n4) (.slice c4a c4l c4c) lb n5 (.string s6) (.int .i64 n6) (.slice c6a c6l c6c) y (Nat.le_refl _) (Hrb.out.stay (Hst3.out.trans hq)) (Hry3.out.stay hq) (fun k h=>by have:=boxed_lt HX.out k h; have:=hq.size; omega) (by have:=sub1_len (v:=n5) (t:=y) (l:=lb) (by omega) hlb; omega))
     go_wp2_with fail
     refine (HIq.out _ (Stay.put3 (by omega) (by omega) _ _ _)).mono ?_
     rintro e w4 ⟨a8,b8,c8,rfl,hext4,hrep8⟩
     obtain ⟨s8,n8,c8a,c8l,c8c,rfl,rfl,rfl⟩:=hrep8.shape
     have hs4:=hext4.size
     simp at hs4
     have hW3:=store3 ((HE3.out.block _ m0).trans Ha2.out) (.string s7) (.int .i64 n7) (.slice c7a c7l c7c)
     have hst4:Stay (boxed X w.heap.size 4) w.heap.size w3 w4:=(Stay.put3 (by omega) (by omega) _ _ _).trans (Stay.ext hext4 (by simp; omega))
     have ha4:=(hext4.block w.heap.size (by simp; omega)).trans hW3.1
     have hb4:=(hext4.block (w.heap.size+1) (by simp; omega)).trans ((hW3.2.block _ (by omega) (by omega)).trans Hb3.out)
     have hS4:=(hext4.block w2.heap.size (by simp; omega)).trans ((hW3.2.block _ (by omega) (by omega)).trans HS3.out)
     have hc4:=(hext4.block (w.heap.size+1+1) (by simp; omega)).trans ((hW3.2.block _ (by omega) (by omega)).trans ((HE3.out.block _ (by omega)).trans (((HE12.out.block _ (by omega)).trans (Hext1.out.block _ (by omega))).trans B2.out)))
     have hd4:=(hext4.block (w.heap.size+1+1+1) (by simp; omega)).trans ((hW3.2.block _ (by omega) (by omega)).trans ((HE3.out.block _ (by omega)).trans (((HE12.out.block _ (by omega)).trans (Hext1.out.block _ (by omega))).trans B3.out)))
     obtain ⟨g0,g1,g2,gf⟩:=box3 ha4
     obtain ⟨k0,k1,k2,kf⟩:=box3 hb4
     have q0:w4.cell? ⟨w2.heap.size,0,none⟩=some (.int .i64 n5):=cell_of_block hS4 0 _ rfl
     have q1:w4.cell? ⟨w2.heap.size,1,none⟩=some (.string s6):=cell_of_block hS4 1 _ rfl
     have q2:w4.cell? ⟨w2.heap.size,2,none⟩=some (.int .i64 n6):=cell_of_block hS4 2 _ rfl
     have q3:w4.cell? ⟨w2.heap.size,3,none⟩=some (.slice c6a c6l c6c):=cell_of_block hS4 3 _ rfl
     have hW4:=store3 hb4 (.string s8) (.int .i64 n8) (.slice c8a c8l c8c)
     obtain ⟨W4,hW4e⟩:∃ W,W=((w4.setCell ⟨w.heap.size+1,0,none⟩ (.string s8)).setCell ⟨w.heap.size+1,1,none⟩ (.int .i64 n8)).setCell ⟨w.heap.size+1,2,none⟩ (.slice c8a c8l c8c):=⟨_,rfl⟩
     have hstW:Stay (boxed X w.heap.size 4) w.heap.size w4 W4:=by rw [hW4e]; exact Stay.put3 (by omega) (by omega) _ _ _
     rw [← hW4e] at hW4
     have hsW:=hstW.size
     have hYc:∀ k,w.heap.size+4≤k→¬ boxed X w.heap.size 4 k:=fun k hk h=>by have:=boxed_lt HX.out k h; omega
     have hrowW:=Hrow.out.stay (Hst3.out.trans (hst4.trans hstW)) hYc
     have hrepA:=Hrep7.out.stay (hst4.trans hstW)
     have hrepB:=hrep8.stay hstW
     have hrepY:=Hry3.out.stay (hst4.trans hstW)
     have hstA:=Hst3.out.trans (hst4.trans hstW)
     have haW:=(hW4.2.block w.heap.size (by omega) (by omega)).trans ha4
     have hcW:=(hW4.2.block (w.heap.size+1+1) (by omega) (by omega)).trans hc4
     have hdW:=(hW4.2.block (w.heap.size+1+1+1) (by omega) (by omega)).trans hd4
     have HrowW:=hide' hrowW
     have HrepA:=hide' hrepA
     have HrepB:=hide' hrepB
     have HrepY:=hide' hrepY
     have HstA:=hide' hstA
     have HaW:=hide' haW
     have HbW:=hide' hW4.1
     have HcW:=hide' hcW
     have HdW:=hide' hdW
     have HW4e:=hide' hW4e
     have HrowO:Hid ((((w4.setCell ⟨w.heap.size+1,0,none⟩ (.string s8)).setCell ⟨w.heap.size+1,1,none⟩ (.int .i64 n8)).setCell ⟨w.heap.size+1,2,none⟩ (.slice c8a c8l c8c)).ownsRow (w.heap.size+4) 300 4 (.slice cva L.length cvcap) L.length xs):=by
      rw [← hW4e]; exact hrowW.owns
     have ne2:¬ w2.heap.size=w.heap.size+1:=by omega
     have hL60:=H60.out
     clear hext4 hrep8 hst4 ha4 hb4 hS4 hc4 hd4 hW3 hW4 hstW hrowW hrepA hrepB hrepY hstA haW hcW hdW hW4e hYc
     go_wp2_with (at_builtin; refine wpList_append1 _ rfl (.tmp 52) (.tmp 54) 283 rfl (w.heap.size+4) 300 Tryz.infoSub Tryz.underlying283 rfl (by decide) _ L.length xs rfl HrowO.out _ rfl (by simp) rfl sub_one ?_ ?_ ?_)
     ·omega
     ·simp; omega
     rw [← HW4e.out]
     intro cv' w5 hap5
     obtain ⟨c9a,c9cap,rfl⟩:=owns_slice hap5.owns
     have hnow:∀ k,k<w.heap.size+4→¬ ownOf (.slice cva L.length cvcap) k:=fun k hk e=>by have:=(HrowW.out.owns.lt k e).1; omega
     have ha5:=(hap5.kept.block _ (by omega) (hnow w.heap.size (by omega))).trans HaW.out
     have hb5:=(hap5.kept.block _ (by omega) (hnow (w.heap.size+1) (by omega))).trans HbW.out
     have hc5':=(hap5.kept.block _ (by omega) (hnow (w.heap.size+1+1) (by omega))).trans HcW.out
     have hd5:=(hap5.kept.block _ (by omega) (hnow (w.heap.size+1+1+1) (by omega))).trans HdW.out
     have hon5:∀ {a b c:Value} {t:List Sym},Rep (boxed X w.heap.size 4) W4 a b c t→Rep (boxed X w.heap.size 4) w5 a b c t:=fun hr=>hr.on (fun k hk hx ht=>by
      obtain ⟨cur,hc⟩:=ht
      exact ⟨hap5.kept.block k hk (owns_apart HrowW.out.owns (by decide) hc),hx⟩)
     have hrow5:=HrowW.out.step HrepY.out hap5
     have hrep5a:=hon5 HrepA.out
     have hrep5b:=hon5 HrepB.out
     have hlow5:Below w.heap.size w w5:=(Hext.out.trans HstA.out.low).trans (hap5.kept.below (by omega) (fun k e=>by have:=(HrowW.out.owns.lt k e).1; omega))
     have hrepC:=hon5 ((H.out.ext Hext.out (fun k hk h=>boxed_only h hk)).stay HstA.out)
     have hrepD:=hon5 ((H'.out.ext Hext.out (fun k hk h=>boxed_only h hk)).stay HstA.out)
     obtain ⟨g0,g1,g2,gf⟩:=box3 ha5
     obtain ⟨k0,k1,k2,kf⟩:=box3 hb5
     obtain ⟨i0,i1,i2,if'⟩:=box3 hc5'
     obtain ⟨j0,j1,j2,jf⟩:=box3 hd5
     have hs5:=hap5.kept.size
     have hcarr2:=Hcarr.out.step (v:=n5) (y:=y) (Or.inl Hpx.out) rfl
     rw [← sgm_snoc] at hcarr2
     have hla2:=sub1_len (v:=n5) (t:=y) (l:=la) (by omega) hla
     have hlb2:=sub1_len (v:=n5) (t:=y) (l:=lb) (by omega) hlb
     have HIs:=hide' (size_any (ap (sub1 n5 y) la).length w5 (boxed X w.heap.size 4) _ _ _ (ap (sub1 n5 y) la) (Nat.le_refl _) (by omega) hrep5a)
     have HIs2:=hide' (fun wq (hq:Ext w5 wq)=>size_any (ap (sub1 n5 y) lb).length wq (boxed X w.heap.size 4) _ _ _ (ap (sub1 n5 y) lb) (Nat.le_refl _) (by omega) (hrep5b.ext hq (fun _ _ h=>h)))
     have Ha5:=hide' ha5
     have Hb5:=hide' hb5
     have Hc5:=hide' hc5'
     have Hd5:=hide' hd5
     have Hrow5:=hide' hrow5
     have Hrep5a:=hide' hrep5a
     have Hrep5b:=hide' hrep5b
     have Hlow5:=hide' hlow5
     have HrepC:=hide' hrepC
     have HrepD:=hide' hrepD
     have Hcarr2:=hide' hcarr2
     have Hpv:Hid (Occ n5 la):=Hpx.out.occ.1 (occ_vr.2 rfl)
     have Hyb:Hid (∀ k,Occ k y→Occ k lb):=fun k=>Hpx.out.occ.2
     have Hwy:Hid (Wf 1 y∧y.length≤30):=⟨Hpx.out.wy,by omega⟩
     clear ha5 hb5 hc5' hd5 hon5 hrow5 hrep5a hrep5b hlow5 hrepC hrepD hcarr2 hnow hap5
     go_wp2_with fail
     refine HIs.out.mono ?_
     rintro e w6 ⟨rfl,hext6⟩
     have Hext6:=hide' hext6
     have hs6:=hext6.size
     obtain ⟨k0,k1,k2,kf⟩:=box3 ((hext6.block _ (by omega)).trans Hb5.out)
     obtain ⟨i0,i1,i2,if'⟩:=box3 ((hext6.block _ (by omega)).trans Hc5.out)
     obtain ⟨j0,j1,j2,jf⟩:=box3 ((hext6.block _ (by omega)).trans Hd5.out)
     clear hext6
     by_cases h30:30<(ap (sub1 n5 y) la).length
     ·have h30':(30:Int)<((ap (sub1 n5 y) la).length:Nat):=by omega
      have HIj:=hide' (fun wq (hq:Ext w5 wq)=>joins_any wq (boxed X w.heap.size 4) _ _ _ _ _ _ l m (HrepC.out.ext hq (fun _ _ h=>h)) (HrepD.out.ext hq (fun _ _ h=>h)) (by omega))
      go_wp2_with fail
      refine (HIj.out _ Hext6.out).mono ?_
      rintro e w8 ⟨qv,rfl,hext8,⟨rfl,hfit⟩ | ⟨rfl,hfit⟩⟩
      ·have Hext8:=hide' hext8
       have Hfit:=hide' (Hcarr2.out.vast (Or.inl h30) hfit)
       clear hext8 hfit
       go_wp2
       refine bodyPost_ret (v := .tuple #[.slice none 0 0,.int .i64 3]) (by simp [results,Tryz.results181,go_sem]) rfl ?_
       exact ⟨_,rfl,Hlow5.out.trans ((Below.trans Hext6.out (Hext8.out.mono (by omega))).mono (by omega)),Or.inr (Or.inl ⟨rfl,Hfit.out⟩)⟩
      ·have Hext8:=hide' hext8
       have Hfit:=hide' hfit
       clear hext8 hfit
       go_wp2
       refine bodyPost_ret (v := .tuple #[.slice none 0 0,.int .i64 0]) (by simp [results,Tryz.results181,go_sem]) rfl ?_
       exact ⟨_,rfl,Hlow5.out.trans ((Below.trans Hext6.out (Hext8.out.mono (by omega))).mono (by omega)),Or.inl ⟨rfl,Hfit.out⟩⟩
     ·have h30':¬ (30:Int)<((ap (sub1 n5 y) la).length:Nat):=by omega
      have hla3:(ap (sub1 n5 y) la).length≤30:=by omega
      clear h30
      go_wp2_with fail
      refine (HIs2.out _ Hext6.out).mono ?_
      rintro e w7 ⟨rfl,hext7⟩
      have Hext7:=hide' (Below.trans Hext6.out (hext7.mono hs6))
      have hs7:=hext7.size
      obtain ⟨i0,i1,i2,if'⟩:=box3 ((Hext7.out.block _ (by omega)).trans Hc5.out)
      obtain ⟨j0,j1,j2,jf⟩:=box3 ((Hext7.out.block _ (by omega)).trans Hd5.out)
      clear hext7
      by_cases h30:30<(ap (sub1 n5 y) lb).length
      ·have h30b:(30:Int)<((ap (sub1 n5 y) lb).length:Nat):=by omega
       have HIj:=hide' (fun wq (hq:Ext w5 wq)=>joins_any wq (boxed X w.heap.size 4) _ _ _ _ _ _ l m (HrepC.out.ext hq (fun _ _ h=>h)) (HrepD.out.ext hq (fun _ _ h=>h)) (by omega))
       go_wp2_with fail
       refine (HIj.out _ Hext7.out).mono ?_
       rintro e w8 ⟨qv,rfl,hext8,⟨rfl,hfit⟩ | ⟨rfl,hfit⟩⟩
       ·have Hext8:=hide' hext8
        have Hfit:=hide' (Hcarr2.out.vast (Or.inr h30) hfit)
        clear hext8 hfit
        go_wp2
        refine bodyPost_ret (v := .tuple #[.slice none 0 0,.int .i64 3]) (by simp [results,Tryz.results181,go_sem]) rfl ?_
        exact ⟨_,rfl,Hlow5.out.trans ((Below.trans Hext7.out (Hext8.out.mono (by omega))).mono (by omega)),Or.inr (Or.inl ⟨rfl,Hfit.out⟩)⟩
       ·have Hext8:=hide' hext8
        have Hfit:=hide' hfit
        clear hext8 hfit
        go_wp2
        refine bodyPost_ret (v := .tuple #[.slice none 0 0,.int .i64 0]) (by simp [results,Tryz.results181,go_sem]) rfl ?_
        exact ⟨_,rfl,Hlow5.out.trans ((Below.trans Hext7.out (Hext8.out.mono (by omega))).mono (by omega)),Or.inl ⟨rfl,Hfit.out⟩⟩
      ·have h30b:¬ (30:Int)<((ap (sub1 n5 y) lb).length:Nat):=by omega
       have hno:¬ Occ n5 y:=fun h=>by have:=Hin.out.2 h; simp at this
       have hvars:varsIn V (ap (sub1 n5 y) la++ap (sub1 n5 y) lb)<varsIn V (la++lb):=by
        refine vars_less (v:=n5) (HV.out.2 n5 (Hcarr.out.occs (Or.inl Hpv.out))) (occ_append.2 (Or.inl Hpv.out)) (fun h => ?_) (fun k h => ?_)
        ·rw [occ_append] at h
         rcases h with h | h
         ·rcases occ_sub1 h with ⟨h,_⟩ | ⟨_,h⟩
          ·exact h rfl
          ·exact hno h
         ·rcases occ_sub1 h with ⟨h,_⟩ | ⟨_,h⟩
          ·exact h rfl
          ·exact hno h
        ·rw [occ_append] at h ⊢
         rcases h with h | h
         ·rcases occ_sub1 h with ⟨_,h⟩ | ⟨_,h⟩
          ·exact Or.inl h
          ·exact Or.inr (Hyb.out k h)
         ·rcases occ_sub1 h with ⟨_,h⟩ | ⟨_,h⟩
          ·exact Or.inr h
          ·exact Or.inr (Hyb.out k h)
       have Hvars:=hide' hvars
       clear hvars hno
       go_wp2
       go_roundg (varsIn V (la++lb))
       case measure=>exact Hg.out
       case rel =>
        refine ⟨L++[(n5,y)],xs++[.int .i64 n5,.string s6,.int .i64 n6,.slice c6a c6l c6c],ap (sub1 n5 y) la,ap (sub1 n5 y) lb,s7,n7,c7a,c7l,c7c,s8,n8,c8a,c8l,c8c,Hlow5.out.trans (Hext7.out.mono (by omega)),?_,Hcarr2.out,hla3,by omega,?_,Hvars.out,?_,
         (Hext7.out.block _ (by omega)).trans Ha5.out,(Hext7.out.block _ (by omega)).trans Hb5.out,(Hext7.out.block _ (by omega)).trans Hc5.out,(Hext7.out.block _ (by omega)).trans Hd5.out,Hrep5a.out.ext Hext7.out (fun _ _ h=>h),Hrep5b.out.ext Hext7.out (fun _ _ h=>h)⟩
        ·have:=Hrow5.out.ext Hext7.out (Y:=boxed X w.heap.size 4) (B':=w.heap.size+4) (fun _ h=>h) (Nat.le_refl _)
         simpa using this
        ·exact HLs.out.snoc Hwy.out Hcarr2.out hla3 (by omega)
        ·have:=Hvars.out
         have:=H60.out
         simp; omega
    ·go_wp2
     refine bodyPost_ret (v := .tuple #[.slice none 0 0,.int .i64 0]) (by simp [results,Tryz.results181,go_sem]) rfl ?_
     refine ⟨_,rfl,(Hext.out.trans (Hext1.out.mono Hext.out.size)).trans (HE12.out.mono (by omega)),Or.inl ⟨rfl,Hcarr.out.none (Or.inl (part_circle Hpx.out rfl (Hin.out.1 trivial)))⟩⟩
   ·have hx0:s5.toList.isEmpty=false:=by
     simp only [Value.string.injEq] at hs5
     subst hs5
     rw [ba_toList]; simpa using hnm
    have hx1:¬ s5.toList=[]:=by
     intro e; rw [e] at hx0; simp at hx0
    have Hx:=hide' hx
    clear hs5 hn5 hx
    rcases hry.out with ⟨v,hs6,hn6,hc6,rfl⟩ | ⟨nm',ls',ys',hnm',hs6,hn6,hy,_⟩
    ·simp only [Value.string.injEq,Value.int.injEq,true_and,Value.slice.injEq] at hs6 hn6 hc6
     obtain ⟨rfl,rfl,rfl⟩:=hc6
     subst hs6
     have hn6':n6=v:=by omega
     subst hn6'
     have Hstand:=hide' (fun wq (hq:Ext w1 wq)=>stands_any x.length wq (boxed X w.heap.size 4) _ _ _ x n6 (Nat.le_refl _) (by omega) (hrx.ext hq (fun j _ h=>Or.inl h)))
     have Hry:=hide' hrx
     have Hpx:=hide' hpart.symm
     clear hry hrx hpart
     go_wp2_with fail
     refine (Hstand.out _ (Ext.of (by repeat' (first | with_reducible exact Kept.refl _ _ | with_reducible apply Kept.drew | with_reducible apply Kept.drewN | with_reducible apply Kept.alloc | with_reducible refine Kept.setCell ?_ ?_ _ | exact fun h=>absurd h (by simp <;> omega))))).mono ?_
     rintro e w2 ⟨r,rfl,hext2,hin⟩
     have HE12:Hid (Ext w1 w2):=Below.trans (Ext.of (by repeat' (first | with_reducible exact Kept.refl _ _ | with_reducible apply Kept.drew | with_reducible apply Kept.drewN | with_reducible apply Kept.alloc | with_reducible refine Kept.setCell ?_ ?_ _ | exact fun h=>absurd h (by simp <;> omega)))) (hext2.mono (by simp; omega))
     have Hin:=hide' hin
     have hs2:=hext2.size
     simp at hs2
     have hb9:w2.heap[w1.heap.size]?=some (.cells #[.string ⟨#[]⟩,.int .i64 n6,.slice none 0 0] 183 (0,0)):=(hext2.block _ (by simp; omega)).trans (block_alloc (block_alloc (heap_alloc_new w1 _) _) _)
     have hb10:w2.heap[w1.heap.size+1]?=some (.cells #[.string s5,.int .i64 n5,.slice c5a c5l c5c] 183 (0,0)):=(hext2.block _ (by simp)).trans (by simpa using block_alloc (heap_alloc_new (w1.alloc _) _) _)
     obtain ⟨z0,z1,z2,zf⟩:=box3 hb9
     obtain ⟨t0,t1,t2,tf⟩:=box3 hb10
     have Hb9:=hide' hb9
     have Hb10:=hide' hb10
     clear hext2 hin hb9 hb10
     cases r
     ·have hst2:Stay (boxed X w.heap.size 4) w.heap.size wr w2:=(Stay.ext Hext1.out (by omega)).trans (Stay.ext HE12.out (by omega))
      have hsw:=hst2.size
      have ha2:=((HE12.out.block w.heap.size (by omega)).trans (Hext1.out.block _ (by omega))).trans B0.out
      have hb2:=((HE12.out.block (w.heap.size+1) (by omega)).trans (Hext1.out.block _ (by omega))).trans B1.out
      obtain ⟨g0,g1,g2,gf⟩:=box3 ha2
      obtain ⟨k0,k1,k2,kf⟩:=box3 hb2
      have m0:w.heap.size<w2.heap.size:=by omega
      have m1:w.heap.size+1<w2.heap.size:=by omega
      have m2:w1.heap.size<w2.heap.size:=by omega
      have m3:w1.heap.size+1<w2.heap.size:=by omega
      have Hry2:Hid (Rep (boxed X w.heap.size 4) w2 (.string s5) (.int .i64 n5) (.slice c5a c5l c5c) x):=(Hry.out.ext (Y:=boxed X w.heap.size 4) (w':=w2) HE12.out (fun k _ h=>Or.inl h))
      have HIp:=hide' (fun wq (hq:Ext w2 wq)=>put_any la.length wq (boxed X w.heap.size 4) (.string s3) (.int .i64 n3) (.slice c3a c3l c3c) la n6 (.string s5) (.int .i64 n5) (.slice c5a c5l c5c) x (Nat.le_refl _) ((Hra.out.stay hst2).ext hq (fun _ _ h=>h)) (Hry2.out.ext hq (fun _ _ h=>h)) (fun k h=>by have:=boxed_lt HX.out k h; have:=hq.size; omega) (by have:=sub1_len (v:=n6) (t:=x) (l:=la) (by omega) hla; omega))
      have Hst2:=hide' hst2
      have Ha2:=hide' ha2
      have Hb2:=hide' hb2
      clear hst2 ha2 hb2
      go_wp2_with fail
      refine (HIp.out _ (Ext.of (by repeat' (first | with_reducible exact Kept.refl _ _ | with_reducible apply Kept.drew | with_reducible apply Kept.drewN | with_reducible apply Kept.alloc | with_reducible refine Kept.setCell ?_ ?_ _ | exact fun h=>absurd h (by simp <;> omega))))).mono ?_
      rintro e w3 ⟨a7,b7,c7,rfl,hext3,hrep7⟩
      obtain ⟨s7,n7,c7a,c7l,c7c,rfl,rfl,rfl⟩:=hrep7.shape
      have hs3:=hext3.size
      simp at hs3
      have hE3:Ext w2 w3:=((Ext.of (by repeat' (first | with_reducible exact Kept.refl _ _ | with_reducible apply Kept.drew | with_reducible apply Kept.drewN | with_reducible apply Kept.alloc | with_reducible refine Kept.setCell ?_ ?_ _ | exact fun h=>absurd h (by simp <;> omega)))):Ext w2 _).trans (hext3.mono (by simp))
      have hs23:=hE3.size
      obtain ⟨g0,g1,g2,gf⟩:=box3 ((hE3.block _ m0).trans Ha2.out)
      have hb3:=(hE3.block _ m1).trans Hb2.out
      obtain ⟨k0,k1,k2,kf⟩:=box3 hb3
      have hS3:w3.heap[w2.heap.size]?=some (.cells #[.int .i64 n6,.string s5,.int .i64 n5,.slice c5a c5l c5c] 300 (0,0)):=(hext3.block _ (by simp)).trans (heap_alloc_new w2 _)
      have q0:w3.cell? ⟨w2.heap.size,0,none⟩=some (.int .i64 n6):=cell_of_block hS3 0 _ rfl
      have q1:w3.cell? ⟨w2.heap.size,1,none⟩=some (.string s5):=cell_of_block hS3 1 _ rfl
      have q2:w3.cell? ⟨w2.heap.size,2,none⟩=some (.int .i64 n5):=cell_of_block hS3 2 _ rfl
      have q3:w3.cell? ⟨w2.heap.size,3,none⟩=some (.slice c5a c5l c5c):=cell_of_block hS3 3 _ rfl
      have hst3:Stay (boxed X w.heap.size 4) w.heap.size wr w3:=Hst2.out.trans (Stay.ext hE3 (by omega))
      have HE3:=hide' hE3
      have HS3:=hide' hS3
      have Hst3:=hide' hst3
      have Hrep7:=hide' hrep7
      have Hry3:=hide' (Hry2.out.ext hE3 (fun _ _ h=>h))
      have Hb3:=hide' hb3
      have ne0:¬ w2.heap.size=w.heap.size:=by omega
      have ne1:¬ w.heap.size+1=w.heap.size:=by omega
      clear hext3 hrep7 hE3 hS3 hst3 hb3
      have HIq:=hide' (fun wq (hq:Stay (boxed X w.heap.size 4) w.heap.size w3 wq)=>put_any lb.length wq (boxed X w.heap.size 4) (.string s4) (.int .i64 n4) (.slice c4a c4l c4c) lb n6 (.string s5) (.int .i64 n5) (.slice c5a c5l c5c) x (Nat.le_refl _) (Hrb.out.stay (Hst3.out.trans hq)) (Hry3.out.stay hq) (fun k h=>by have:=boxed_lt HX.out k h; have:=hq.size; omega) (by have:=sub1_len (v:=n6) (t:=x) (l:=lb) (by omega) hlb; omega))
      go_wp2_with fail
      refine (HIq.out _ (Stay.put3 (by omega) (by omega) _ _ _)).mono ?_
      rintro e w4 ⟨a8,b8,c8,rfl,hext4,hrep8⟩
      obtain ⟨s8,n8,c8a,c8l,c8c,rfl,rfl,rfl⟩:=hrep8.shape
      have hs4:=hext4.size
      simp at hs4
      have hW3:=store3 ((HE3.out.block _ m0).trans Ha2.out) (.string s7) (.int .i64 n7) (.slice c7a c7l c7c)
      have hst4:Stay (boxed X w.heap.size 4) w.heap.size w3 w4:=(Stay.put3 (by omega) (by omega) _ _ _).trans (Stay.ext hext4 (by simp; omega))
      have ha4:=(hext4.block w.heap.size (by simp; omega)).trans hW3.1
      have hb4:=(hext4.block (w.heap.size+1) (by simp; omega)).trans ((hW3.2.block _ (by omega) (by omega)).trans Hb3.out)
      have hS4:=(hext4.block w2.heap.size (by simp; omega)).trans ((hW3.2.block _ (by omega) (by omega)).trans HS3.out)
      have hc4:=(hext4.block (w.heap.size+1+1) (by simp; omega)).trans ((hW3.2.block _ (by omega) (by omega)).trans ((HE3.out.block _ (by omega)).trans (((HE12.out.block _ (by omega)).trans (Hext1.out.block _ (by omega))).trans B2.out)))
      have hd4:=(hext4.block (w.heap.size+1+1+1) (by simp; omega)).trans ((hW3.2.block _ (by omega) (by omega)).trans ((HE3.out.block _ (by omega)).trans (((HE12.out.block _ (by omega)).trans (Hext1.out.block _ (by omega))).trans B3.out)))
      obtain ⟨g0,g1,g2,gf⟩:=box3 ha4
      obtain ⟨k0,k1,k2,kf⟩:=box3 hb4
      have q0:w4.cell? ⟨w2.heap.size,0,none⟩=some (.int .i64 n6):=cell_of_block hS4 0 _ rfl
      have q1:w4.cell? ⟨w2.heap.size,1,none⟩=some (.string s5):=cell_of_block hS4 1 _ rfl
      have q2:w4.cell? ⟨w2.heap.size,2,none⟩=some (.int .i64 n5):=cell_of_block hS4 2 _ rfl
      have q3:w4.cell? ⟨w2.heap.size,3,none⟩=some (.slice c5a c5l c5c):=cell_of_block hS4 3 _ rfl
      have hW4:=store3 hb4 (.string s8) (.int .i64 n8) (.slice c8a c8l c8c)
      obtain ⟨W4,hW4e⟩:∃ W,W=((w4.setCell ⟨w.heap.size+1,0,none⟩ (.string s8)).setCell ⟨w.heap.size+1,1,none⟩ (.int .i64 n8)).setCell ⟨w.heap.size+1,2,none⟩ (.slice c8a c8l c8c):=⟨_,rfl⟩
      have hstW:Stay (boxed X w.heap.size 4) w.heap.size w4 W4:=by rw [hW4e]; exact Stay.put3 (by omega) (by omega) _ _ _
      rw [← hW4e] at hW4
      have hsW:=hstW.size
      have hYc:∀ k,w.heap.size+4≤k→¬ boxed X w.heap.size 4 k:=fun k hk h=>by have:=boxed_lt HX.out k h; omega
      have hrowW:=Hrow.out.stay (Hst3.out.trans (hst4.trans hstW)) hYc
      have hrepA:=Hrep7.out.stay (hst4.trans hstW)
      have hrepB:=hrep8.stay hstW
      have hrepY:=Hry3.out.stay (hst4.trans hstW)
      have hstA:=Hst3.out.trans (hst4.trans hstW)
      have haW:=(hW4.2.block w.heap.size (by omega) (by omega)).trans ha4
      have hcW:=(hW4.2.block (w.heap.size+1+1) (by omega) (by omega)).trans hc4
      have hdW:=(hW4.2.block (w.heap.size+1+1+1) (by omega) (by omega)).trans hd4
      have HrowW:=hide' hrowW
      have HrepA:=hide' hrepA
      have HrepB:=hide' hrepB
      have HrepY:=hide' hrepY
      have HstA:=hide' hstA
      have HaW:=hide' haW
      have HbW:=hide' hW4.1
      have HcW:=hide' hcW
      have HdW:=hide' hdW
      have HW4e:=hide' hW4e
      have HrowO:Hid ((((w4.setCell ⟨w.heap.size+1,0,none⟩ (.string s8)).setCell ⟨w.heap.size+1,1,none⟩ (.int .i64 n8)).setCell ⟨w.heap.size+1,2,none⟩ (.slice c8a c8l c8c)).ownsRow (w.heap.size+4) 300 4 (.slice cva L.length cvcap) L.length xs):=by
       rw [← hW4e]; exact hrowW.owns
      have ne2:¬ w2.heap.size=w.heap.size+1:=by omega
      have hL60:=H60.out
      clear hext4 hrep8 hst4 ha4 hb4 hS4 hc4 hd4 hW3 hW4 hstW hrowW hrepA hrepB hrepY hstA haW hcW hdW hW4e hYc
      go_wp2_with (at_builtin; refine wpList_append1 _ rfl (.tmp 52) (.tmp 54) 283 rfl (w.heap.size+4) 300 Tryz.infoSub Tryz.underlying283 rfl (by decide) _ L.length xs rfl HrowO.out _ rfl (by simp) rfl sub_one ?_ ?_ ?_)
      ·omega
      ·simp; omega
      rw [← HW4e.out]
      intro cv' w5 hap5
      obtain ⟨c9a,c9cap,rfl⟩:=owns_slice hap5.owns
      have hnow:∀ k,k<w.heap.size+4→¬ ownOf (.slice cva L.length cvcap) k:=fun k hk e=>by have:=(HrowW.out.owns.lt k e).1; omega
      have ha5:=(hap5.kept.block _ (by omega) (hnow w.heap.size (by omega))).trans HaW.out
      have hb5:=(hap5.kept.block _ (by omega) (hnow (w.heap.size+1) (by omega))).trans HbW.out
      have hc5':=(hap5.kept.block _ (by omega) (hnow (w.heap.size+1+1) (by omega))).trans HcW.out
      have hd5:=(hap5.kept.block _ (by omega) (hnow (w.heap.size+1+1+1) (by omega))).trans HdW.out
      have hon5:∀ {a b c:Value} {t:List Sym},Rep (boxed X w.heap.size 4) W4 a b c t→Rep (boxed X w.heap.size 4) w5 a b c t:=fun hr=>hr.on (fun k hk hx ht=>by
       obtain ⟨cur,hc⟩:=ht
       exact ⟨hap5.kept.block k hk (owns_apart HrowW.out.owns (by decide) hc),hx⟩)
      have hrow5:=HrowW.out.step HrepY.out hap5
      have hrep5a:=hon5 HrepA.out
      have hrep5b:=hon5 HrepB.out
      have hlow5:Below w.heap.size w w5:=(Hext.out.trans HstA.out.low).trans (hap5.kept.below (by omega) (fun k e=>by have:=(HrowW.out.owns.lt k e).1; omega))
      have hrepC:=hon5 ((H.out.ext Hext.out (fun k hk h=>boxed_only h hk)).stay HstA.out)
      have hrepD:=hon5 ((H'.out.ext Hext.out (fun k hk h=>boxed_only h hk)).stay HstA.out)
      obtain ⟨g0,g1,g2,gf⟩:=box3 ha5
      obtain ⟨k0,k1,k2,kf⟩:=box3 hb5
      obtain ⟨i0,i1,i2,if'⟩:=box3 hc5'
      obtain ⟨j0,j1,j2,jf⟩:=box3 hd5
      have hs5:=hap5.kept.size
      have hcarr2:=Hcarr.out.step (v:=n6) (y:=x) (Or.inr Hpx.out) rfl
      rw [← sgm_snoc] at hcarr2
      have hla2:=sub1_len (v:=n6) (t:=x) (l:=la) (by omega) hla
      have hlb2:=sub1_len (v:=n6) (t:=x) (l:=lb) (by omega) hlb
      have HIs:=hide' (size_any (ap (sub1 n6 x) la).length w5 (boxed X w.heap.size 4) _ _ _ (ap (sub1 n6 x) la) (Nat.le_refl _) (by omega) hrep5a)
      have HIs2:=hide' (fun wq (hq:Ext w5 wq)=>size_any (ap (sub1 n6 x) lb).length wq (boxed X w.heap.size 4) _ _ _ (ap (sub1 n6 x) lb) (Nat.le_refl _) (by omega) (hrep5b.ext hq (fun _ _ h=>h)))
      have Ha5:=hide' ha5
      have Hb5:=hide' hb5
      have Hc5:=hide' hc5'
      have Hd5:=hide' hd5
      have Hrow5:=hide' hrow5
      have Hrep5a:=hide' hrep5a
      have Hrep5b:=hide' hrep5b
      have Hlow5:=hide' hlow5
      have HrepC:=hide' hrepC
      have HrepD:=hide' hrepD
      have Hcarr2:=hide' hcarr2
      have Hpv:Hid (Occ n6 lb):=Hpx.out.occ.1 (occ_vr.2 rfl)
      have Hyb:Hid (∀ k,Occ k x→Occ k la):=fun k=>Hpx.out.occ.2
      have Hwy:Hid (Wf 1 x∧x.length≤30):=⟨Hpx.out.wy,by omega⟩
      clear ha5 hb5 hc5' hd5 hon5 hrow5 hrep5a hrep5b hlow5 hrepC hrepD hcarr2 hnow hap5
      go_wp2_with fail
      refine HIs.out.mono ?_
      rintro e w6 ⟨rfl,hext6⟩
      have Hext6:=hide' hext6
      have hs6:=hext6.size
      obtain ⟨k0,k1,k2,kf⟩:=box3 ((hext6.block _ (by omega)).trans Hb5.out)
      obtain ⟨i0,i1,i2,if'⟩:=box3 ((hext6.block _ (by omega)).trans Hc5.out)
      obtain ⟨j0,j1,j2,jf⟩:=box3 ((hext6.block _ (by omega)).trans Hd5.out)
      clear hext6
      by_cases h30:30<(ap (sub1 n6 x) la).length
      ·have h30':(30:Int)<((ap (sub1 n6 x) la).length:Nat):=by omega
       have HIj:=hide' (fun wq (hq:Ext w5 wq)=>joins_any wq (boxed X w.heap.size 4) _ _ _ _ _ _ l m (HrepC.out.ext hq (fun _ _ h=>h)) (HrepD.out.ext hq (fun _ _ h=>h)) (by omega))
       go_wp2_with fail
       refine (HIj.out _ Hext6.out).mono ?_
       rintro e w8 ⟨qv,rfl,hext8,⟨rfl,hfit⟩ | ⟨rfl,hfit⟩⟩
       ·have Hext8:=hide' hext8
        have Hfit:=hide' (Hcarr2.out.vast (Or.inl h30) hfit)
        clear hext8 hfit
        go_wp2
        refine bodyPost_ret (v := .tuple #[.slice none 0 0,.int .i64 3]) (by simp [results,Tryz.results181,go_sem]) rfl ?_
        exact ⟨_,rfl,Hlow5.out.trans ((Below.trans Hext6.out (Hext8.out.mono (by omega))).mono (by omega)),Or.inr (Or.inl ⟨rfl,Hfit.out⟩)⟩
       ·have Hext8:=hide' hext8
        have Hfit:=hide' hfit
        clear hext8 hfit
        go_wp2
        refine bodyPost_ret (v := .tuple #[.slice none 0 0,.int .i64 0]) (by simp [results,Tryz.results181,go_sem]) rfl ?_
        exact ⟨_,rfl,Hlow5.out.trans ((Below.trans Hext6.out (Hext8.out.mono (by omega))).mono (by omega)),Or.inl ⟨rfl,Hfit.out⟩⟩
      ·have h30':¬ (30:Int)<((ap (sub1 n6 x) la).length:Nat):=by omega
       have hla3:(ap (sub1 n6 x) la).length≤30:=by omega
       clear h30
       go_wp2_with fail
       refine (HIs2.out _ Hext6.out).mono ?_
       rintro e w7 ⟨rfl,hext7⟩
       have Hext7:=hide' (Below.trans Hext6.out (hext7.mono hs6))
       have hs7:=hext7.size
       obtain ⟨i0,i1,i2,if'⟩:=box3 ((Hext7.out.block _ (by omega)).trans Hc5.out)
       obtain ⟨j0,j1,j2,jf⟩:=box3 ((Hext7.out.block _ (by omega)).trans Hd5.out)
       clear hext7
       by_cases h30:30<(ap (sub1 n6 x) lb).length
       ·have h30b:(30:Int)<((ap (sub1 n6 x) lb).length:Nat):=by omega
        have HIj:=hide' (fun wq (hq:Ext w5 wq)=>joins_any wq (boxed X w.heap.size 4) _ _ _ _ _ _ l m (HrepC.out.ext hq (fun _ _ h=>h)) (HrepD.out.ext hq (fun _ _ h=>h)) (by omega))
        go_wp2_with fail
        refine (HIj.out _ Hext7.out).mono ?_
        rintro e w8 ⟨qv,rfl,hext8,⟨rfl,hfit⟩ | ⟨rfl,hfit⟩⟩
        ·have Hext8:=hide' hext8
         have Hfit:=hide' (Hcarr2.out.vast (Or.inr h30) hfit)
         clear hext8 hfit
         go_wp2
         refine bodyPost_ret (v := .tuple #[.slice none 0 0,.int .i64 3]) (by simp [results,Tryz.results181,go_sem]) rfl ?_
         exact ⟨_,rfl,Hlow5.out.trans ((Below.trans Hext7.out (Hext8.out.mono (by omega))).mono (by omega)),Or.inr (Or.inl ⟨rfl,Hfit.out⟩)⟩
        ·have Hext8:=hide' hext8
         have Hfit:=hide' hfit
         clear hext8 hfit
         go_wp2
         refine bodyPost_ret (v := .tuple #[.slice none 0 0,.int .i64 0]) (by simp [results,Tryz.results181,go_sem]) rfl ?_
         exact ⟨_,rfl,Hlow5.out.trans ((Below.trans Hext7.out (Hext8.out.mono (by omega))).mono (by omega)),Or.inl ⟨rfl,Hfit.out⟩⟩
       ·have h30b:¬ (30:Int)<((ap (sub1 n6 x) lb).length:Nat):=by omega
        have hno:¬ Occ n6 x:=fun h=>by have:=Hin.out.2 h; simp at this
        have hvars:varsIn V (ap (sub1 n6 x) la++ap (sub1 n6 x) lb)<varsIn V (la++lb):=by
         refine vars_less (v:=n6) (HV.out.2 n6 (Hcarr.out.occs (Or.inr Hpv.out))) (occ_append.2 (Or.inr Hpv.out)) (fun h => ?_) (fun k h => ?_)
         ·rw [occ_append] at h
          rcases h with h | h
          ·rcases occ_sub1 h with ⟨h,_⟩ | ⟨_,h⟩
           ·exact h rfl
           ·exact hno h
          ·rcases occ_sub1 h with ⟨h,_⟩ | ⟨_,h⟩
           ·exact h rfl
           ·exact hno h
         ·rw [occ_append] at h ⊢
          rcases h with h | h
          ·rcases occ_sub1 h with ⟨_,h⟩ | ⟨_,h⟩
           ·exact Or.inl h
           ·exact Or.inl (Hyb.out k h)
          ·rcases occ_sub1 h with ⟨_,h⟩ | ⟨_,h⟩
           ·exact Or.inr h
           ·exact Or.inl (Hyb.out k h)
        have Hvars:=hide' hvars
        clear hvars hno
        go_wp2
        go_roundg (varsIn V (la++lb))
        case measure=>exact Hg.out
        case rel =>
         refine ⟨L++[(n6,x)],xs++[.int .i64 n6,.string s5,.int .i64 n5,.slice c5a c5l c5c],ap (sub1 n6 x) la,ap (sub1 n6 x) lb,s7,n7,c7a,c7l,c7c,s8,n8,c8a,c8l,c8c,Hlow5.out.trans (Hext7.out.mono (by omega)),?_,Hcarr2.out,hla3,by omega,?_,Hvars.out,?_,
          (Hext7.out.block _ (by omega)).trans Ha5.out,(Hext7.out.block _ (by omega)).trans Hb5.out,(Hext7.out.block _ (by omega)).trans Hc5.out,(Hext7.out.block _ (by omega)).trans Hd5.out,Hrep5a.out.ext Hext7.out (fun _ _ h=>h),Hrep5b.out.ext Hext7.out (fun _ _ h=>h)⟩
         ·have:=Hrow5.out.ext Hext7.out (Y:=boxed X w.heap.size 4) (B':=w.heap.size+4) (fun _ h=>h) (Nat.le_refl _)
          simpa using this
         ·exact HLs.out.snoc Hwy.out Hcarr2.out hla3 (by omega)
         ·have:=Hvars.out
          have:=H60.out
          simp; omega
     ·go_wp2
      refine bodyPost_ret (v := .tuple #[.slice none 0 0,.int .i64 0]) (by simp [results,Tryz.results181,go_sem]) rfl ?_
      refine ⟨_,rfl,(Hext.out.trans (Hext1.out.mono Hext.out.size)).trans (HE12.out.mono (by omega)),Or.inl ⟨rfl,Hcarr.out.none (Or.inr (part_circle Hpx.out rfl (Hin.out.1 trivial)))⟩⟩
    ·have hy0:s6.toList.isEmpty=false:=by
      simp only [Value.string.injEq] at hs6
      subst hs6
      rw [ba_toList]; simpa using hnm'
     have hy1:¬ s6.toList=[]:=by
      intro e; rw [e] at hy0; simp at hy0
     have Hno:Hid (NoFit l m):=Hcarr.out.none (Or.inl (part_clash hpart Hx.out hy hnm hnm'))
     clear hs6 hn6 hy hpart hrx hry
     go_wp2
     refine bodyPost_ret (v := .tuple #[.slice none 0 0,.int .i64 0]) (by simp [results,Tryz.results181,go_sem]) rfl ?_
     exact ⟨_,rfl,(Hext.out.trans (Hext1.out.mono Hext.out.size)).trans (((Ext.of (by repeat' (first | with_reducible exact Kept.refl _ _ | with_reducible apply Kept.drew | with_reducible apply Kept.drewN | with_reducible apply Kept.alloc | with_reducible refine Kept.setCell ?_ ?_ _ | exact fun h=>absurd h (by simp <;> omega)))):Ext w1 _).mono (by omega)),Or.inl ⟨rfl,Hno.out⟩⟩
set_option maxRecDepth 10000 in
set_option maxHeartbeats 2000000 in
theorem puts_any (w:World) (X:Nat→Prop) (Bs:Nat) (cv:Value) (L:List (Nat × List Sym)) (xs:List Value) (a b c:Value) (l:List Sym) (h:Rep X w a b c l) (hS:RowS X w Bs cv L.length L xs) (hX:∀ k,X k→k<w.heap.size) (hb:∀ k,(ap (sgm (L.take k)) l).length≤4000) (hL:L.length≤4000) :
  Calls Tryz.prog 183 #[.agg #[a,b,c],cv] w fun e w'=>∃ a' b' c',e = .returned (.agg #[a',b',c'])∧Ext w w'∧Rep X w' a' b' c' (ap (sgm L) l):=by
 have hw:=h.wf _ (Nat.le_refl _)
 obtain ⟨s1,n1,c1a,c1l,c1c,rfl,rfl,rfl⟩:=h.shape
 obtain ⟨sa,scap,rfl⟩:=owns_slice hS.owns
 have H:=hide' h
 have HS:=hide' hS
 have HX:=hide' hX
 have Hb:=hide' hb
 have Hw:=hide' hw
 clear h hS hX hb hw
 go_enter Tryz.func183,Tryz.ntmps183
 go_wp2
 go_loopg [5] (L.length+1) (fun gk i wr=>∃ (k:Nat) (s2:ByteArray) (n2:Nat) (c2a:Option Addr) (c2l c2c:Nat),i = .int .i64 k∧k≤L.length∧L.length - k<gk∧Ext w wr ∧
   wr.heap[w.heap.size]?=some (.cells #[.string s2,.int .i64 n2,.slice c2a c2l c2c] 183 (0,0))∧wr.heap[w.heap.size+1]?=some (.cells #[.string ⟨#[]⟩,.int .i64 0,.slice none 0 0] 183 (0,0)) ∧
   Rep (boxed X w.heap.size 2) wr (.string s2) (.int .i64 n2) (.slice c2a c2l c2c) (ap (sgm (L.take k)) l))
 case atStart =>
  refine ⟨0,s1,n1,c1a,c1l,c1c,by go_num,Nat.zero_le _,by omega,(Ext.of (by repeat' (first | with_reducible exact Kept.refl _ _ | with_reducible apply Kept.drew | with_reducible apply Kept.drewN | with_reducible apply Kept.alloc | with_reducible refine Kept.setCell ?_ ?_ _ | exact fun h=>absurd h (by simp <;> omega)))),block_alloc (heap_alloc_new w _) _,by simpa using heap_alloc_new (w.alloc _) _,?_⟩
  have e:ap (sgm (L.take 0)) l=l:=by rw [List.take_zero]; exact ap_id Hw.out
  rw [e]
  exact H.out.ext (Ext.of (by repeat' (first | with_reducible exact Kept.refl _ _ | with_reducible apply Kept.drew | with_reducible apply Kept.drewN | with_reducible apply Kept.alloc | with_reducible refine Kept.setCell ?_ ?_ _ | exact fun h=>absurd h (by simp <;> omega)))) (fun k hk h=>boxed_only h hk)
 case round =>
  obtain ⟨k,s2,n2,c2a,c2l,c2c,rfl,hk,hg,hext,h0,h1,hrep⟩:=hrel
  obtain ⟨b0,b1,b2,bf⟩:=box3 h0
  obtain ⟨d0,d1,d2,df⟩:=box3 h1
  have hsz:=lt_of_block h1
  have Hext:=hide' hext
  have H0:=hide' h0
  have H1:=hide' h1
  have Hrep:=hide' hrep
  clear hext h0 h1 hrep
  by_cases hlt:k<L.length
  ·obtain ⟨p,hp⟩:∃ p,L[k]?=some p:=⟨_,List.getElem?_eq_getElem hlt⟩
   obtain ⟨v,t⟩:=p
   obtain ⟨a',b',c',x0,x1,x2,x3,hrt⟩:=HS.out.all k _ hp
   obtain ⟨s3,n3,c3a,c3l,c3c,rfl,rfl,rfl⟩:=hrt.shape
   have hrow':=HS.out.ext (Y:=X) (B':=Bs) Hext.out (fun _ h=>h) (Nat.le_refl _)
   obtain ⟨g,cap',cur,hge,hBg,hgb,hcp⟩:=owns_some hrow'.owns (by omega)
   simp only [Value.slice.injEq] at hge
   obtain ⟨rfl,_,rfl⟩:=hge
   have y0:wr.cell? ⟨g,k * 4,none⟩=some (.int .i64 v):=owns_cell hrow'.owns _ _ x0
   have y1:wr.cell? ⟨g,k * 4+1,none⟩=some (.string s3):=owns_cell hrow'.owns _ _ x1
   have y2:wr.cell? ⟨g,k * 4+2,none⟩=some (.int .i64 n3):=owns_cell hrow'.owns _ _ x2
   have y3:wr.cell? ⟨g,k * 4+3,none⟩=some (.slice c3a c3l c3c):=owns_cell hrow'.owns _ _ x3
   have hsg:ap (sgm (L.take (k+1))) l=ap (sub1 v t) (ap (sgm (L.take k)) l):=by
    rw [List.take_add_one,hp,Option.toList_some,sgm_snoc,ap_ap]
   have hb1:=Hb.out (k+1)
   rw [hsg] at hb1
   have HI:=hide' (put_any (ap (sgm (L.take k)) l).length wr.drew (boxed X w.heap.size 2) (.string s2) (.int .i64 n2) (.slice c2a c2l c2c) (ap (sgm (L.take k)) l) v (.string s3) (.int .i64 n3) (.slice c3a c3l c3c) t (Nat.le_refl _) (Hrep.out.on (fun k _ hn _=>⟨rfl,hn⟩)) (hrt.ext (Hext.out.trans ⟨rfl,rfl,rfl,Nat.le_refl _,fun _ _=>rfl⟩) (fun k hk h=>boxed_only h hk)) (fun k h=>by have:=boxed_lt HX.out k h; show k<wr.heap.size; omega) hb1)
   have Hsg:=hide' hsg
   clear hgb hrow' hrt x0 x1 x2 x3 hp hsg hb1
   go_wp2_with fail
   refine region_last (by kernel_rfl) [.pur (.agg #[.string s2,.int .i64 n2,.slice c2a c2l c2c]),.pur (.slice (some ⟨g,0,none⟩) L.length scap),.pur (.int .i64 k),.pur (.pointer (some ⟨g,k * 4,none⟩)),.pur (.agg #[.int .i64 v,.string s3,.int .i64 n3,.slice c3a c3l c3c]),.cal,.sto 0] 5 6 (by kernel_rfl)
    (fun r u=>∃ (s:ByteArray) (n:Nat) (ca:Option Addr) (cl cc:Nat),r = .agg #[.string s,.int .i64 n,.slice ca cl cc]∧Ext wr u∧Rep (boxed X w.heap.size 2) u (.string s) (.int .i64 n) (.slice ca cl cc) (ap (sub1 v t) (ap (sgm (L.take k)) l)))
    (fun r u=>∃ (s:ByteArray) (n:Nat) (ca:Option Addr) (cl cc:Nat) (u0:World),Ext wr u0∧Rep (boxed X w.heap.size 2) u0 (.string s) (.int .i64 n) (.slice ca cl cc) (ap (sub1 v t) (ap (sgm (L.take k)) l)) ∧
     u=((u0.setCell ⟨w.heap.size,0,none⟩ (.string s)).setCell ⟨w.heap.size,1,none⟩ (.int .i64 n)).setCell ⟨w.heap.size,2,none⟩ (.slice ca cl cc)) 204
    #[.agg #[.string s2,.int .i64 n2,.slice c2a c2l c2c],.agg #[.int .i64 v,.string s3,.int .i64 n3,.slice c3a c3l c3c]] ?_ ?_ rfl (by decide) (Or.inl ⟨0,rfl⟩) ?_
   ·refine HI.out.mono ?_
    rintro e u ⟨a',b',c',rfl,he,hr⟩
    obtain ⟨s4,n4,c4a,c4l,c4c,rfl,rfl,rfl⟩:=hr.shape
    exact ⟨_,rfl,s4,n4,c4a,c4l,c4c,rfl,he.undrew,hr⟩
   ·refine ⟨fun vc => ?_,fun vc => ?_,fun vc => ?_,fun vc => ?_,fun vc => ?_,fun vc => ?_,?_,trivial⟩
    all_goals try (simp [pa,Kd.val,go_sem,b0,b1,b2,y0,y1,y2,y3,hlt]; done)
    rintro vc u ⟨s,n,ca,cl,cc,rfl,he,hr⟩
    obtain ⟨q0,q1,q2,qf⟩:=box3 ((he.block _ (by omega)).trans H0.out)
    refine ⟨_,?_,s,n,ca,cl,cc,u,he,hr,rfl⟩
    simp [pa,Kd.val,go_sem,q0,q1,q2,qf]
   rintro vc w1 ⟨s,n,ca,cl,cc,u0,he,hr,rfl⟩
   simp only [paAll,pa,Kd.val,if_true,Act.put]
   have He:=hide' he
   have Hr:=hide' hr
   have hs0:=he.size
   clear he hr
   go_wp2
   go_roundg (L.length - k)
   case measure=>omega
   case rel =>
    have hst:=store3 ((He.out.block _ (by omega)).trans H0.out) (.string s) (.int .i64 n) (.slice ca cl cc)
    refine ⟨k+1,s,n,ca,cl,cc,by go_num,by omega,by omega,?_,hst.1,(hst.2.block _ (by omega) (by omega)).trans ((He.out.block _ (by omega)).trans H1.out),?_⟩
    ·exact (Hext.out.trans (He.out.mono Hext.out.size)).trans (hst.2.below (by omega) (fun j e=>by have e:j=w.heap.size:=e; omega))
    ·rw [Hsg.out]
     exact Hr.out.on (fun j hj hn _=>⟨hst.2.block j hj (fun e=>hn (Or.inr (by omega))),hn⟩)
  ·have hek:k=L.length:=by omega
   subst hek
   go_wp2
   refine bodyPost_ret (v := .agg #[.string s2,.int .i64 n2,.slice c2a c2l c2c]) (by simp [results,Tryz.results183,go_sem,d0,d1,d2,df]) rfl ?_
   have hr:=Hrep.out
   rw [List.take_length] at hr
   refine ⟨_,_,_,rfl,Hext.out.trans (Kept.below (S:=fun k=>w.heap.size≤k∧k<w.heap.size+2) (by repeat' (first | with_reducible exact Kept.refl _ _ | with_reducible apply Kept.drew | with_reducible apply Kept.drewN | with_reducible apply Kept.alloc | with_reducible refine Kept.setCell ?_ ?_ _ | (intro _; simp only; omega))) (by omega) (fun j h=>h.1)),?_⟩
   refine (hr.stay (B:=w.heap.size) (Stay.of (S:=fun k=>w.heap.size≤k∧k<w.heap.size+2) (by repeat' (first | with_reducible exact Kept.refl _ _ | with_reducible apply Kept.drew | with_reducible apply Kept.drewN | with_reducible apply Kept.alloc | with_reducible refine Kept.setCell ?_ ?_ _ | (intro _; simp only; omega))) (by omega) (fun j h=>Or.inr h) (fun j h=>h.1))).ext (Below.refl _ _) (fun k _ h=>Or.inl h)
theorem Tryz.infoGoal:(Tryz.prog.info? 200).map (fun i=>(i.zero,i.size,i.bytes))=some (some (.agg #[.string ⟨#[]⟩,.int .i64 0,.slice none 0 0,.int .i64 0]),4,56):=by kernel_rfl
structure RowG (X:Nat→Prop) (w:World) (B:Nat) (cv:Value) (n:Nat) (gs:List (List Sym × Nat)) (xs:List Value):Prop where
 owns:w.ownsRow B 200 4 cv n xs
 len:gs.length=n
 all:∀ (i:Nat) (g:List Sym × Nat),gs[i]?=some g→∃ a b c,xs[i * 4]?=some a∧xs[i * 4+1]?=some b∧xs[i * 4+2]?=some c∧xs[i * 4+3]?=some (.int .i64 g.2)∧Rep X w a b c g.1
theorem RowG.nil (X:Nat→Prop) (w:World) (B:Nat):RowG X w B (.slice none 0 0) 0 [] []:=⟨World.ownsRow_nil _ _ _ _,rfl,fun i l' h=>by simp at h⟩
theorem RowG.on {X Y:Nat→Prop} {w w':World} {B n:Nat} {cv:Value} {gs:List (List Sym × Nat)} {xs:List Value} (h:RowG X w B cv n gs xs) (ho:∀ k,cv.ownBlock=some k→w'.heap[k]?=w.heap[k]?) (hk:∀ k,k<w.heap.size→¬ X k→isTerms w k→w'.heap[k]?=w.heap[k]?∧¬ Y k):RowG Y w' B cv n gs xs :=
 ⟨owns_same h.owns ho,h.len,fun i s hs=>by
  obtain ⟨a,b,c,x0,x1,x2,x3,g⟩:=h.all i s hs
  exact ⟨a,b,c,x0,x1,x2,x3,g.on hk⟩⟩
theorem RowG.ext {X Y:Nat→Prop} {w w':World} {B B' n:Nat} {cv:Value} {gs:List (List Sym × Nat)} {xs:List Value} (h:RowG X w B cv n gs xs) (e:Ext w w') (hy:∀ k,k<w.heap.size→Y k→X k) (hB:B'≤B):RowG Y w' B' cv n gs xs:=by
 have:=h.on (Y:=Y) (w':=w') (fun k hk=>e.block k (h.owns.lt k hk).2) (fun k hk hn _=>⟨e.block k hk,fun h=>hn (hy k hk h)⟩)
 exact ⟨owns_base this.owns hB,this.len,this.all⟩
theorem RowG.step {X:Nat→Prop} {w w':World} {B n d:Nat} {cv cv':Value} {gs:List (List Sym × Nat)} {xs:List Value} {a b c:Value} {t:List Sym} (h:RowG X w B cv n gs xs) (hr:Rep X w a b c t) (ha:Appended w B 200 4 cv (n+1) (xs++[a,b,c,.int .i64 d]) cv' w') :
  RowG X w' B cv' (n+1) (gs++[(t,d)]) (xs++[a,b,c,.int .i64 d]):=by
 have hon:∀ {a b c:Value} {l:List Sym},Rep X w a b c l→Rep X w' a b c l:=fun hr=>hr.on (fun k hk hx ht=>by
  obtain ⟨cur,hc⟩:=ht
  exact ⟨ha.kept.block k hk (owns_apart h.owns (by decide) hc),hx⟩)
 have hxl:=h.owns.1
 have hL:=h.len
 refine ⟨ha.owns,by simp [hL],fun i s hs => ?_⟩
 rcases Nat.lt_or_ge i gs.length with hi | hi
 ·rw [List.getElem?_append_left hi] at hs
  obtain ⟨a',b',c',x0,x1,x2,x3,g⟩:=h.all i s hs
  refine ⟨a',b',c',?_,?_,?_,?_,hon g⟩
  ·rw [List.getElem?_append_left (by omega)]; exact x0
  ·rw [List.getElem?_append_left (by omega)]; exact x1
  ·rw [List.getElem?_append_left (by omega)]; exact x2
  ·rw [List.getElem?_append_left (by omega)]; exact x3
 ·have:=(List.getElem?_eq_some_iff.1 hs).1
  simp at this
  have e:i=gs.length:=by omega
  subst e
  simp at hs
  subst hs
  rw [hL]
  refine ⟨a,b,c,?_,?_,?_,?_,hon hr⟩
  ·rw [List.getElem?_append_right (by omega),hxl]; simp
  ·rw [List.getElem?_append_right (by omega),hxl]; simp
  ·rw [List.getElem?_append_right (by omega),hxl]; simp
  ·rw [List.getElem?_append_right (by omega),hxl]; simp
theorem goal_one {s:ByteArray} {n m:Int} {ca:Option Addr} {cl cc:Nat}:∀ u ∈ (#[Value.string s,.int .i64 n,.slice ca cl cc,.int .i64 m]:Array Value).toList,u.oneCell'=true:=cell_one
set_option maxRecDepth 10000 in
set_option maxHeartbeats 2000000 in
theorem carried_any (w:World) (X:Nat→Prop) (Bg Bs:Nat) (gv cv:Value) (gs:List (List Sym × Nat)) (L:List (Nat × List Sym)) (ys xs:List Value) (hG:RowG X w Bg gv gs.length gs ys) (hS:RowS X w Bs cv L.length L xs) (hX:∀ k,X k→k<w.heap.size) (hb:∀ k,∀ g ∈ gs,(ap (sgm (L.take k)) g.1).length≤4000) (hL:L.length≤4000) (hg:gs.length≤4000) :
  Calls Tryz.prog 182 #[gv,cv] w fun e w'=>∃ gv' zs,e = .returned gv'∧Ext w w'∧RowG X w' w.heap.size gv' gs.length (carr (sgm L) gs) zs:=by
 obtain ⟨sa,scap,rfl⟩:=owns_slice hS.owns
 obtain ⟨ga,gcap,rfl⟩:=owns_slice hG.owns
 have HG:=hide' hG
 have HS:=hide' hS
 have HX:=hide' hX
 have Hb:=hide' hb
 clear hG hS hX hb
 go_enter Tryz.func182,Tryz.ntmps182
 go_wp2
 go_loopg [5,6] (gs.length+1) (fun gk ov i wr=>∃ (k:Nat) (zs:List Value),i = .int .i64 k∧k≤gs.length∧gs.length - k<gk∧Ext w wr∧RowG X wr w.heap.size ov k (carr (sgm L) (gs.take k)) zs)
 case atStart=>exact ⟨0,[],by go_num,Nat.zero_le _,by omega,Below.refl _ _,RowG.nil _ _ _⟩
 case round =>
  obtain ⟨k,zs,rfl,hk,hgk,hext,hrow⟩:=hrel
  obtain ⟨oa,ocap,rfl⟩:=owns_slice hrow.owns
  have Hext:=hide' hext
  have Hrow:=hide' hrow
  have hsz:=hext.size
  clear hext hrow
  by_cases hlt:k<gs.length
  ·obtain ⟨p,hp⟩:∃ p,gs[k]?=some p:=⟨_,List.getElem?_eq_getElem hlt⟩
   obtain ⟨t,d⟩:=p
   obtain ⟨a',b',c',x0,x1,x2,x3,hrt⟩:=HG.out.all k _ hp
   obtain ⟨s3,n3,c3a,c3l,c3c,rfl,rfl,rfl⟩:=hrt.shape
   have hrow':=HG.out.ext (Y:=X) (B':=Bg) Hext.out (fun _ _ h=>h) (Nat.le_refl _)
   obtain ⟨g,cap',cur,hge,hBg,hgb,hcp⟩:=owns_some hrow'.owns (by omega)
   simp only [Value.slice.injEq] at hge
   obtain ⟨rfl,_,rfl⟩:=hge
   have y0:wr.cell? ⟨g,k * 4,none⟩=some (.string s3):=owns_cell hrow'.owns _ _ x0
   have y1:wr.cell? ⟨g,k * 4+1,none⟩=some (.int .i64 n3):=owns_cell hrow'.owns _ _ x1
   have y2:wr.cell? ⟨g,k * 4+2,none⟩=some (.slice c3a c3l c3c):=owns_cell hrow'.owns _ _ x2
   have y3:wr.cell? ⟨g,k * 4+3,none⟩=some (.int .i64 d):=owns_cell hrow'.owns _ _ x3
   have HI:=hide' (puts_any wr X Bs _ L xs _ _ _ t (hrt.ext Hext.out (fun _ _ h=>h)) (HS.out.ext Hext.out (fun _ h=>h) (Nat.le_refl _)) (fun k h=>by have:=HX.out k h; omega) (fun j=>Hb.out j _ (List.mem_of_getElem? hp)) hL)
   have Hp:=hide' hp
   have hgl:=lt_of_block hgb
   clear hgb hrow' hrt x0 x1 x2 x3 hp
   go_wp2_with fail
   refine HI.out.mono ?_
   rintro e w1 ⟨a',b',c',rfl,hext1,hrep1⟩
   obtain ⟨s4,n4,c4a,c4l,c4c,rfl,rfl,rfl⟩:=hrep1.shape
   have z3:w1.cell? ⟨g,k * 4+3,none⟩=some (.int .i64 d):=(hext1.cell (p:=⟨g,k * 4+3,none⟩) hgl).trans y3
   have hs1:=hext1.size
   have hg1:g<w1.heap.size:=by omega
   have hrow1:=Hrow.out.ext (Y:=X) (B':=w.heap.size) (w':=(w1.alloc (.cells #[.string s4,.int .i64 n4,.slice c4a c4l c4c] 183)).drewN 1) (hext1.trans (Ext.of ((((Kept.refl noBlock w1).alloc _).drewN 1)) |>.mono hs1)) (fun _ _ h=>h) (Nat.le_refl _)
   have Hrow1:=hide' hrow1
   have Hext1:=hide' hext1
   have Hrep1:=hide' hrep1
   clear hrow1 hext1 hrep1 y0 y1 y2 y3
   go_wp2_with fail
   go_region_law (refine step_append1 ((w1.alloc (.cells #[.string s4,.int .i64 n4,.slice c4a c4l c4c] 183)).drewN 1) rfl (.tmp 21) (.tmp 29) 150 rfl w.heap.size 200 Tryz.infoGoal Tryz.underlying150 rfl (by decide) (.slice oa k ocap) k zs rfl Hrow1.out.owns #[.string s4,.int .i64 n4,.slice c4a c4l c4c,.int .i64 d] rfl (by simp) rfl goal_one (by omega) (by simp; omega) rfl ?_; intro v' w2 hap; obtain ⟨v1a,v1cap,rfl⟩:=owns_slice hap.owns; have Hap:=hide' hap; clear hap)
   all_goals
    have htk:carr (sgm L) (gs.take (k+1))=carr (sgm L) (gs.take k)++[(ap (sgm L) t,d)]:=by
     rw [List.take_add_one,Hp.out]; simp [carr]
    have Htk:=hide' htk
    clear htk z3
    go_wp2
    go_roundg (gs.length - k)
    case measure=>omega
    case rel =>
     have hr1:=Hrep1.out.ext (Y:=X) (w':=(w1.alloc (.cells #[.string s4,.int .i64 n4,.slice c4a c4l c4c] 183)).drewN 1) (Ext.of ((((Kept.refl noBlock w1).alloc _).drewN 1))) (fun _ _ h=>h)
     have:=Hrow1.out.step hr1 Hap.out
     rw [← Htk.out] at this
     refine ⟨k+1,_,by go_num,by omega,by omega,?_,this⟩
     have h1:Below w.heap.size w w1:=Hext.out.trans (Hext1.out.mono hsz)
     have h2:Below w.heap.size w1 ((w1.alloc (.cells #[.string s4,.int .i64 n4,.slice c4a c4l c4c] 183)).drewN 1):=(Ext.of ((((Kept.refl noBlock w1).alloc _).drewN 1))).mono (by omega)
     exact (h1.trans h2).trans (Hap.out.kept.below (by show w.heap.size≤(w1.alloc _).heap.size; simp; omega) (fun j e=>(Hrow1.out.owns.lt j e).1))
  ·have hek:k=gs.length:=by omega
   subst hek
   go_wp2
   go_ret
   have hr:=Hrow.out
   rw [List.take_length] at hr
   exact ⟨_,zs,rfl,Hext.out,hr⟩
structure RepN (X:Nat→Prop) (w:World) (gv vv dv uv:Value) (n:ND):Prop where
 goals:∃ xs,RowG X w 0 gv n.goals.length n.goals xs
 vals:∃ xs,RowT X w vv n.vals xs
 done:∃ xs,RowG X w 0 dv n.done.length n.done xs
 used:w.ownsRow 0 3 1 uv n.used.length (ints n.used)
theorem RepN.ext {X Y:Nat→Prop} {w w':World} {gv vv dv uv:Value} {n:ND} (h:RepN X w gv vv dv uv n) (e:Ext w w') (hy:∀ k,k<w.heap.size→Y k→X k):RepN Y w' gv vv dv uv n:=by
 obtain ⟨xs,h1⟩:=h.goals
 obtain ⟨ys,h2⟩:=h.vals
 obtain ⟨zs,h3⟩:=h.done
 exact ⟨⟨xs,h1.ext e hy (Nat.le_refl _)⟩,⟨ys,h2.ext e hy⟩,⟨zs,h3.ext e hy (Nat.le_refl _)⟩,owns_same h.used (fun k hk=>e.block k (h.used.lt k hk).2)⟩
theorem box5 {w:World} {b:Nat} {u0 u1 u2 u3 u4:Value} {t:TypeId} (h:w.heap[b]?=some (.cells #[u0,u1,u2,u3,u4] t (0,0))) :
  w.cell? ⟨b,0,none⟩=some u0∧w.cell? ⟨b,1,none⟩=some u1∧w.cell? ⟨b,2,none⟩=some u2∧w.cell? ⟨b,3,none⟩=some u3∧w.cell? ⟨b,4,none⟩=some u4∧∀ i,w.frozen? ⟨b,i,none⟩=false :=
 ⟨cell_of_block h 0 _ rfl,cell_of_block h 1 _ rfl,cell_of_block h 2 _ rfl,cell_of_block h 3 _ rfl,cell_of_block h 4 _ rfl,fun i=>thawed_of_block h i⟩
theorem any_next {α:Type} {l:List α} {k:Nat} {x:α} {p:α→Bool} (h:l[k]?=some x):(l.take (k+1)).any p=((l.take k).any p || p x):=by
 rw [List.take_add_one,h]; simp
set_option maxRecDepth 10000 in
set_option maxHeartbeats 4000000 in
theorem kind_any (w:World) (X:Nat→Prop) (gv vv dv uv:Value) (n:ND) (h:RepN X w gv vv dv uv n) (hg:n.goals.length≤4000) (hd:n.done.length≤4000) (hu:n.used.length≤4000) (hs:∀ g ∈ n.goals,g.1.length≤4000) (hs2:∀ g ∈ n.done,g.1.length≤4000) :
  Calls Tryz.prog 184 #[.agg #[gv,vv,dv,uv,.int .i64 n.vars]] w fun e w'=>e = .returned (.int .i64 (kindOf n))∧Ext w w':=by
 obtain ⟨xs,h1⟩:=h.goals
 obtain ⟨ys,h2⟩:=h.vals
 obtain ⟨zs,h3⟩:=h.done
 have h4:=h.used
 obtain ⟨ga,gcap,rfl⟩:=owns_slice h1.owns
 obtain ⟨va,vcap,rfl⟩:=owns_slice h2.1
 obtain ⟨da,dcap,rfl⟩:=owns_slice h3.owns
 obtain ⟨ua,ucap,rfl⟩:=owns_slice h4
 have H1:=hide' h1
 have H3:=hide' h3
 have Hs:=hide' hs
 have Hs2:=hide' hs2
 obtain ⟨q0,hq0⟩:∃ q:Bool,q=(decide (40<n.goals.length) || decide (100<n.used.length)):=⟨_,rfl⟩
 have Hq0:=hide' hq0
 clear h h1 h2 h3 h4 hs hs2
 clear hq0
 by_cases c1:40<n.goals.length
 ·have c1':(40:Int)<n.goals.length:=by omega
  go_enter Tryz.func184,Tryz.ntmps184
  go_wp2
  go_loopg [3,4] (n.goals.length+1) (fun gk ov i wr=>∃ (k:Nat) (o:Bool),i = .int .i64 k∧ov = .bool o∧k≤n.goals.length∧n.goals.length - k<gk∧Ext w wr∧o=(q0 || (n.goals.take k).any bigG) ∧
    wr.heap[w.heap.size]?=some (.cells #[.slice ga n.goals.length gcap,.slice va n.vals.length vcap,.slice da n.done.length dcap,.slice ua n.used.length ucap,.int .i64 n.vars] 152 (0,0)))
  case atStart=>exact ⟨0,q0,by go_num,(by rw [Hq0.out]; simp [c1] <;> omega),Nat.zero_le _,by omega,(Ext.of (by repeat' (first | with_reducible exact Kept.refl _ _ | with_reducible apply Kept.drew | with_reducible apply Kept.drewN | with_reducible apply Kept.alloc | with_reducible refine Kept.setCell ?_ ?_ _ | exact fun h=>absurd h (by simp <;> omega)))),by simp,heap_alloc_new w _⟩
  case round =>
   obtain ⟨k,o,rfl,rfl,hk,hgk,hext,ho,hb⟩:=hrel
   obtain ⟨b0,b1,b2,b3,b4,bf⟩:=box5 hb
   have Hext:=hide' hext
   have Hb:=hide' hb
   have Ho:=hide' ho
   have hsz:=lt_of_block hb
   clear hext hb ho
   by_cases hlt:k<n.goals.length
   ·obtain ⟨p,hp⟩:∃ p,n.goals[k]?=some p:=⟨_,List.getElem?_eq_getElem hlt⟩
    obtain ⟨t,d⟩:=p
    obtain ⟨a',b',c',x0,x1,x2,x3,hrt⟩:=H1.out.all k _ hp
    obtain ⟨s3,n3,c3a,c3l,c3c,rfl,rfl,rfl⟩:=hrt.shape
    have hrow':=H1.out.ext (Y:=X) (B':=0) Hext.out (fun _ _ h=>h) (Nat.le_refl _)
    obtain ⟨g,cap',cur,hge,hBg,hgb,hcp⟩:=owns_some hrow'.owns (by omega)
    simp only [Value.slice.injEq] at hge
    obtain ⟨rfl,_,rfl⟩:=hge
    have y0:wr.cell? ⟨g,k * 4,none⟩=some (.string s3):=owns_cell hrow'.owns _ _ x0
    have y1:wr.cell? ⟨g,k * 4+1,none⟩=some (.int .i64 n3):=owns_cell hrow'.owns _ _ x1
    have y2:wr.cell? ⟨g,k * 4+2,none⟩=some (.slice c3a c3l c3c):=owns_cell hrow'.owns _ _ x2
    have ht4:t.length≤4000:=Hs.out _ (List.mem_of_getElem? hp)
    have HI:=hide' (size_any t.length wr X _ _ _ t (Nat.le_refl _) ht4 (hrt.ext Hext.out (fun _ _ h=>h)))
    have Hn:Hid ((n.goals.take (k+1)).any bigG=((n.goals.take k).any bigG || decide (30<t.length))):=any_next hp
    clear hgb hrow' hrt x0 x1 x2 x3 hp
    go_wp2_with fail
    refine HI.out.mono ?_
    rintro e w1 ⟨rfl,hext1⟩
    have Hext1:=hide' hext1
    clear hext1 y0 y1 y2
    cases o
    ·go_wp2
     go_roundg (n.goals.length - k)
     case measure=>omega
     case rel =>
      refine ⟨k+1,decide (30<t.length),by go_num,(by simp <;> omega),by omega,by omega,Hext.out.trans (Hext1.out.mono Hext.out.size),?_,(Hext1.out.block _ hsz).trans Hb.out⟩
      have:=Ho.out
      rw [Hn.out,← Bool.or_assoc,← this]; simp
    ·go_wp2
     go_roundg (n.goals.length - k)
     case measure=>omega
     case rel =>
      refine ⟨k+1,true,by go_num,rfl,by omega,by omega,Hext.out.trans (Hext1.out.mono Hext.out.size),?_,(Hext1.out.block _ hsz).trans Hb.out⟩
      have:=Ho.out
      rw [Hn.out,← Bool.or_assoc,← this]; simp
   ·have hek:k=n.goals.length:=by omega
    subst hek
    have Ho':Hid (o=(q0 || n.goals.any bigG)):=by have:=Ho.out; rw [List.take_length] at this; exact this
    clear Ho
    go_wp2
    have Hext2:=hide' Hext.out
    have Hb2:=hide' Hb.out
    have Ho2:=hide' Ho'.out
    obtain ⟨o2,ho2⟩:∃ o2:Bool,o2=o:=⟨_,rfl⟩
    subst ho2
    clear Ho' Hext Hb b0 b1 b2 b3 b4 bf
    go_loopg [3,6] (n.done.length+1) (fun gk ov i wr=>∃ (k:Nat) (o:Bool),i = .int .i64 k∧ov = .bool o∧k≤n.done.length∧n.done.length - k<gk∧Ext w wr∧o=(o2 || (n.done.take k).any bigG) ∧
      wr.heap[w.heap.size]?=some (.cells #[.slice ga n.goals.length gcap,.slice va n.vals.length vcap,.slice da n.done.length dcap,.slice ua n.used.length ucap,.int .i64 n.vars] 152 (0,0)))
    case atStart=>exact ⟨0,o2,by go_num,rfl,Nat.zero_le _,by omega,Hext2.out,by simp,Hb2.out⟩
    case round =>
     obtain ⟨k,o,rfl,rfl,hk,hgk,hext,ho,hb⟩:=hrel
     obtain ⟨b0,b1,b2,b3,b4,bf⟩:=box5 hb
     have Hext:=hide' hext
     have Hb:=hide' hb
     have Ho:=hide' ho
     have hsz:=lt_of_block hb
     clear hext hb ho
     by_cases hlt:k<n.done.length
     ·obtain ⟨p,hp⟩:∃ p,n.done[k]?=some p:=⟨_,List.getElem?_eq_getElem hlt⟩
      obtain ⟨t,d⟩:=p
      obtain ⟨a',b',c',x0,x1,x2,x3,hrt⟩:=H3.out.all k _ hp
      obtain ⟨s3,n3,c3a,c3l,c3c,rfl,rfl,rfl⟩:=hrt.shape
      have hrow':=H3.out.ext (Y:=X) (B':=0) Hext.out (fun _ _ h=>h) (Nat.le_refl _)
      obtain ⟨g,cap',cur,hge,hBg,hgb,hcp⟩:=owns_some hrow'.owns (by omega)
      simp only [Value.slice.injEq] at hge
      obtain ⟨rfl,_,rfl⟩:=hge
      have y0:wr.cell? ⟨g,k * 4,none⟩=some (.string s3):=owns_cell hrow'.owns _ _ x0
      have y1:wr.cell? ⟨g,k * 4+1,none⟩=some (.int .i64 n3):=owns_cell hrow'.owns _ _ x1
      have y2:wr.cell? ⟨g,k * 4+2,none⟩=some (.slice c3a c3l c3c):=owns_cell hrow'.owns _ _ x2
      have ht4:t.length≤4000:=Hs2.out _ (List.mem_of_getElem? hp)
      have HI:=hide' (size_any t.length wr X _ _ _ t (Nat.le_refl _) ht4 (hrt.ext Hext.out (fun _ _ h=>h)))
      have Hn:Hid ((n.done.take (k+1)).any bigG=((n.done.take k).any bigG || decide (30<t.length))):=any_next hp
      clear hgb hrow' hrt x0 x1 x2 x3 hp
      go_wp2_with fail
      refine HI.out.mono ?_
      rintro e w1 ⟨rfl,hext1⟩
      have Hext1:=hide' hext1
      clear hext1 y0 y1 y2
      cases o
      ·go_wp2
       go_roundg (n.done.length - k)
       case measure=>omega
       case rel =>
        refine ⟨k+1,decide (30<t.length),by go_num,(by simp <;> omega),by omega,by omega,Hext.out.trans (Hext1.out.mono Hext.out.size),?_,(Hext1.out.block _ hsz).trans Hb.out⟩
        have:=Ho.out
        rw [Hn.out,← Bool.or_assoc,← this]; simp
      ·go_wp2
       go_roundg (n.done.length - k)
       case measure=>omega
       case rel =>
        refine ⟨k+1,true,by go_num,rfl,by omega,by omega,Hext.out.trans (Hext1.out.mono Hext.out.size),?_,(Hext1.out.block _ hsz).trans Hb.out⟩
        have:=Ho.out
        rw [Hn.out,← Bool.or_assoc,← this]; simp
     ·have hek:k=n.done.length:=by omega
      subst hek
      have Ho':Hid (o=(o2 || n.done.any bigG)):=by have:=Ho.out; rw [List.take_length] at this; exact this
      clear Ho
      cases o
      ·by_cases hg0:n.goals=[]
       ·have hg1:((n.goals.length:Int) == 0)=true:=by rw [hg0]; rfl
        have Hg0:=hide' hg0
        clear hg0
        go_wp2
        go_ret
        refine ⟨?_,Hext.out⟩
        have hk:kindOf n=2:=by unfold kindOf overB; rw [← Hq0.out,← Ho2.out,← Ho'.out,if_neg (by simp),if_pos Hg0.out]
        rw [hk]; rfl
       ·have hg1:((n.goals.length:Int) == 0)=false:=by
         rw [beq_eq_false_iff_ne]
         cases hgg:n.goals with
         | nil=>exact absurd hgg hg0
         | cons _ _=>simp; omega
        have Hg0:=hide' hg0
        clear hg0
        go_wp2
        go_ret
        refine ⟨?_,Hext.out⟩
        have hk:kindOf n=1:=by unfold kindOf overB; rw [← Hq0.out,← Ho2.out,← Ho'.out,if_neg (by simp),if_neg Hg0.out]
        rw [hk]; rfl
      ·go_wp2
       go_ret
       refine ⟨?_,Hext.out⟩
       have hk:kindOf n=3:=by unfold kindOf overB; rw [← Hq0.out,← Ho2.out,← Ho'.out]; rfl
       rw [hk]; rfl
 ·have c1':¬ (40:Int)<n.goals.length:=by omega
  go_enter Tryz.func184,Tryz.ntmps184
  go_wp2
  go_loopg [3,4] (n.goals.length+1) (fun gk ov i wr=>∃ (k:Nat) (o:Bool),i = .int .i64 k∧ov = .bool o∧k≤n.goals.length∧n.goals.length - k<gk∧Ext w wr∧o=(q0 || (n.goals.take k).any bigG) ∧
    wr.heap[w.heap.size]?=some (.cells #[.slice ga n.goals.length gcap,.slice va n.vals.length vcap,.slice da n.done.length dcap,.slice ua n.used.length ucap,.int .i64 n.vars] 152 (0,0)))
  case atStart=>exact ⟨0,q0,by go_num,(by rw [Hq0.out]; simp [c1] <;> omega),Nat.zero_le _,by omega,(Ext.of (by repeat' (first | with_reducible exact Kept.refl _ _ | with_reducible apply Kept.drew | with_reducible apply Kept.drewN | with_reducible apply Kept.alloc | with_reducible refine Kept.setCell ?_ ?_ _ | exact fun h=>absurd h (by simp <;> omega)))),by simp,heap_alloc_new w _⟩
  case round =>
   obtain ⟨k,o,rfl,rfl,hk,hgk,hext,ho,hb⟩:=hrel
   obtain ⟨b0,b1,b2,b3,b4,bf⟩:=box5 hb
   have Hext:=hide' hext
   have Hb:=hide' hb
   have Ho:=hide' ho
   have hsz:=lt_of_block hb
   clear hext hb ho
   by_cases hlt:k<n.goals.length
   ·obtain ⟨p,hp⟩:∃ p,n.goals[k]?=some p:=⟨_,List.getElem?_eq_getElem hlt⟩
    obtain ⟨t,d⟩:=p
    obtain ⟨a',b',c',x0,x1,x2,x3,hrt⟩:=H1.out.all k _ hp
    obtain ⟨s3,n3,c3a,c3l,c3c,rfl,rfl,rfl⟩:=hrt.shape
    have hrow':=H1.out.ext (Y:=X) (B':=0) Hext.out (fun _ _ h=>h) (Nat.le_refl _)
    obtain ⟨g,cap',cur,hge,hBg,hgb,hcp⟩:=owns_some hrow'.owns (by omega)
    simp only [Value.slice.injEq] at hge
    obtain ⟨rfl,_,rfl⟩:=hge
    have y0:wr.cell? ⟨g,k * 4,none⟩=some (.string s3):=owns_cell hrow'.owns _ _ x0
    have y1:wr.cell? ⟨g,k * 4+1,none⟩=some (.int .i64 n3):=owns_cell hrow'.owns _ _ x1
    have y2:wr.cell? ⟨g,k * 4+2,none⟩=some (.slice c3a c3l c3c):=owns_cell hrow'.owns _ _ x2
    have ht4:t.length≤4000:=Hs.out _ (List.mem_of_getElem? hp)
    have HI:=hide' (size_any t.length wr X _ _ _ t (Nat.le_refl _) ht4 (hrt.ext Hext.out (fun _ _ h=>h)))
    have Hn:Hid ((n.goals.take (k+1)).any bigG=((n.goals.take k).any bigG || decide (30<t.length))):=any_next hp
    clear hgb hrow' hrt x0 x1 x2 x3 hp
    go_wp2_with fail
    refine HI.out.mono ?_
    rintro e w1 ⟨rfl,hext1⟩
    have Hext1:=hide' hext1
    clear hext1 y0 y1 y2
    cases o
    ·go_wp2
     go_roundg (n.goals.length - k)
     case measure=>omega
     case rel =>
      refine ⟨k+1,decide (30<t.length),by go_num,(by simp <;> omega),by omega,by omega,Hext.out.trans (Hext1.out.mono Hext.out.size),?_,(Hext1.out.block _ hsz).trans Hb.out⟩
      have:=Ho.out
      rw [Hn.out,← Bool.or_assoc,← this]; simp
    ·go_wp2
     go_roundg (n.goals.length - k)
     case measure=>omega
     case rel =>
      refine ⟨k+1,true,by go_num,rfl,by omega,by omega,Hext.out.trans (Hext1.out.mono Hext.out.size),?_,(Hext1.out.block _ hsz).trans Hb.out⟩
      have:=Ho.out
      rw [Hn.out,← Bool.or_assoc,← this]; simp
   ·have hek:k=n.goals.length:=by omega
    subst hek
    have Ho':Hid (o=(q0 || n.goals.any bigG)):=by have:=Ho.out; rw [List.take_length] at this; exact this
    clear Ho
    go_wp2
    have Hext2:=hide' Hext.out
    have Hb2:=hide' Hb.out
    have Ho2:=hide' Ho'.out
    obtain ⟨o2,ho2⟩:∃ o2:Bool,o2=o:=⟨_,rfl⟩
    subst ho2
    clear Ho' Hext Hb b0 b1 b2 b3 b4 bf
    go_loopg [3,6] (n.done.length+1) (fun gk ov i wr=>∃ (k:Nat) (o:Bool),i = .int .i64 k∧ov = .bool o∧k≤n.done.length∧n.done.length - k<gk∧Ext w wr∧o=(o2 || (n.done.take k).any bigG) ∧
      wr.heap[w.heap.size]?=some (.cells #[.slice ga n.goals.length gcap,.slice va n.vals.length vcap,.slice da n.done.length dcap,.slice ua n.used.length ucap,.int .i64 n.vars] 152 (0,0)))
    case atStart=>exact ⟨0,o2,by go_num,rfl,Nat.zero_le _,by omega,Hext2.out,by simp,Hb2.out⟩
    case round =>
     obtain ⟨k,o,rfl,rfl,hk,hgk,hext,ho,hb⟩:=hrel
     obtain ⟨b0,b1,b2,b3,b4,bf⟩:=box5 hb
     have Hext:=hide' hext
     have Hb:=hide' hb
     have Ho:=hide' ho
     have hsz:=lt_of_block hb
     clear hext hb ho
     by_cases hlt:k<n.done.length
     ·obtain ⟨p,hp⟩:∃ p,n.done[k]?=some p:=⟨_,List.getElem?_eq_getElem hlt⟩
      obtain ⟨t,d⟩:=p
      obtain ⟨a',b',c',x0,x1,x2,x3,hrt⟩:=H3.out.all k _ hp
      obtain ⟨s3,n3,c3a,c3l,c3c,rfl,rfl,rfl⟩:=hrt.shape
      have hrow':=H3.out.ext (Y:=X) (B':=0) Hext.out (fun _ _ h=>h) (Nat.le_refl _)
      obtain ⟨g,cap',cur,hge,hBg,hgb,hcp⟩:=owns_some hrow'.owns (by omega)
      simp only [Value.slice.injEq] at hge
      obtain ⟨rfl,_,rfl⟩:=hge
      have y0:wr.cell? ⟨g,k * 4,none⟩=some (.string s3):=owns_cell hrow'.owns _ _ x0
      have y1:wr.cell? ⟨g,k * 4+1,none⟩=some (.int .i64 n3):=owns_cell hrow'.owns _ _ x1
      have y2:wr.cell? ⟨g,k * 4+2,none⟩=some (.slice c3a c3l c3c):=owns_cell hrow'.owns _ _ x2
      have ht4:t.length≤4000:=Hs2.out _ (List.mem_of_getElem? hp)
      have HI:=hide' (size_any t.length wr X _ _ _ t (Nat.le_refl _) ht4 (hrt.ext Hext.out (fun _ _ h=>h)))
      have Hn:Hid ((n.done.take (k+1)).any bigG=((n.done.take k).any bigG || decide (30<t.length))):=any_next hp
      clear hgb hrow' hrt x0 x1 x2 x3 hp
      go_wp2_with fail
      refine HI.out.mono ?_
      rintro e w1 ⟨rfl,hext1⟩
      have Hext1:=hide' hext1
      clear hext1 y0 y1 y2
      cases o
      ·go_wp2
       go_roundg (n.done.length - k)
       case measure=>omega
       case rel =>
        refine ⟨k+1,decide (30<t.length),by go_num,(by simp <;> omega),by omega,by omega,Hext.out.trans (Hext1.out.mono Hext.out.size),?_,(Hext1.out.block _ hsz).trans Hb.out⟩
        have:=Ho.out
        rw [Hn.out,← Bool.or_assoc,← this]; simp
      ·go_wp2
       go_roundg (n.done.length - k)
       case measure=>omega
       case rel =>
        refine ⟨k+1,true,by go_num,rfl,by omega,by omega,Hext.out.trans (Hext1.out.mono Hext.out.size),?_,(Hext1.out.block _ hsz).trans Hb.out⟩
        have:=Ho.out
        rw [Hn.out,← Bool.or_assoc,← this]; simp
     ·have hek:k=n.done.length:=by omega
      subst hek
      have Ho':Hid (o=(o2 || n.done.any bigG)):=by have:=Ho.out; rw [List.take_length] at this; exact this
      clear Ho
      cases o
      ·by_cases hg0:n.goals=[]
       ·have hg1:((n.goals.length:Int) == 0)=true:=by rw [hg0]; rfl
        have Hg0:=hide' hg0
        clear hg0
        go_wp2
        go_ret
        refine ⟨?_,Hext.out⟩
        have hk:kindOf n=2:=by unfold kindOf overB; rw [← Hq0.out,← Ho2.out,← Ho'.out,if_neg (by simp),if_pos Hg0.out]
        rw [hk]; rfl
       ·have hg1:((n.goals.length:Int) == 0)=false:=by
         rw [beq_eq_false_iff_ne]
         cases hgg:n.goals with
         | nil=>exact absurd hgg hg0
         | cons _ _=>simp; omega
        have Hg0:=hide' hg0
        clear hg0
        go_wp2
        go_ret
        refine ⟨?_,Hext.out⟩
        have hk:kindOf n=1:=by unfold kindOf overB; rw [← Hq0.out,← Ho2.out,← Ho'.out,if_neg (by simp),if_neg Hg0.out]
        rw [hk]; rfl
      ·go_wp2
       go_ret
       refine ⟨?_,Hext.out⟩
       have hk:kindOf n=3:=by unfold kindOf overB; rw [← Hq0.out,← Ho2.out,← Ho'.out]; rfl
       rw [hk]; rfl
theorem RepT.repX:∀ (f:Nat) {w:World} {lo hi:Nat} {a b c:Value} {l:List Sym},RepT f w lo hi a b c l→RepX (fun _=>False) f w a b c l:=by
 intro f
 induction f with
 | zero=>intro w lo hi a b c l h; exact h.elim
 | succ f ih =>
  intro w lo hi a b c l h
  rcases h with h | ⟨nm,ls,xs,h1,h2,h3,h4,h5,h6,h7⟩
  ·exact Or.inl h
  ·refine Or.inr ⟨nm,ls,xs,h1,h2,h3,h4,owns_base h5 (Nat.zero_le _),fun _ _ h=>h,fun i l' hl => ?_⟩
   obtain ⟨a',b',c',g1,g2,g3,g4⟩:=h7 i l' hl
   exact ⟨a',b',c',g1,g2,g3,ih g4⟩
theorem RepT.rep {f:Nat} {w:World} {lo hi:Nat} {a b c:Value} {l:List Sym} (h:RepT f w lo hi a b c l):Rep (fun _=>False) w a b c l:=⟨f,h.repX⟩
theorem RepX.repT {X:Nat→Prop}:∀ (f:Nat) {w:World} {a b c:Value} {l:List Sym},RepX X f w a b c l→RepT f w 0 w.heap.size a b c l:=by
 intro f
 induction f with
 | zero=>intro w a b c l h; exact h.elim
 | succ f ih =>
  intro w a b c l h
  rcases h with h | ⟨nm,ls,xs,h1,h2,h3,h4,h5,h6,h7⟩
  ·exact Or.inl h
  ·refine Or.inr ⟨nm,ls,xs,h1,h2,h3,h4,h5,fun k hk=>(h5.lt k hk).2,fun i l' hl => ?_⟩
   obtain ⟨a',b',c',g1,g2,g3,g4⟩:=h7 i l' hl
   exact ⟨a',b',c',g1,g2,g3,ih g4⟩
theorem Rep.repT {X:Nat→Prop} {w:World} {a b c:Value} {l:List Sym} (h:Rep X w a b c l) {f:Nat} (hf:l.length≤f):RepT f w 0 w.heap.size a b c l:=by
 obtain ⟨g,h⟩:=h
 exact (h.len.mono hf).repT f
theorem Kids.rowT {f:Nat} {w:World} {lo:Nat} {cv:Value} {acc:List (List Sym)} {xs:List Value} (h:Kids f w lo cv acc xs):RowT (fun _=>False) w cv acc xs :=
 ⟨owns_base h.owns (Nat.zero_le _),fun _ _ h=>h,fun i l' hl=>by
  obtain ⟨a,b,c,_,_,x0,x1,x2,_,_,_,g⟩:=h.all i l' hl
  exact ⟨a,b,c,x0,x1,x2,g.rep⟩⟩
structure RowC (X:Nat→Prop) (w:World) (lv:Value) (cs:List Cls) (xs:List Value):Prop where
 owns:w.ownsRow 0 185 5 lv cs.length xs
 all:∀ (i:Nat) (c:Cls),cs[i]?=some c→∃ a b d bv ys,xs[i * 5]?=some a∧xs[i * 5+1]?=some b∧xs[i * 5+2]?=some d∧xs[i * 5+3]?=some bv∧xs[i * 5+4]?=some (.int .i64 c.n)∧Rep X w a b d c.head∧RowT X w bv c.body ys
theorem RowC.ext {X Y:Nat→Prop} {w w':World} {lv:Value} {cs:List Cls} {xs:List Value} (h:RowC X w lv cs xs) (e:Ext w w') (hy:∀ k,k<w.heap.size→Y k→X k):RowC Y w' lv cs xs :=
 ⟨owns_same h.owns (fun k hk=>e.block k (h.owns.lt k hk).2),fun i c hc=>by
  obtain ⟨a,b,d,bv,ys,x0,x1,x2,x3,x4,g1,g2⟩:=h.all i c hc
  exact ⟨a,b,d,bv,ys,x0,x1,x2,x3,x4,g1.ext e hy,g2.ext e hy⟩⟩
theorem five_at {xs:List (List Value)} (h5:∀ x ∈ xs,x.length=5) {i:Nat} {x:List Value} (hx:xs[i]?=some x) (j:Nat) (hj:j<5):xs.flatten[i * 5+j]?=x[j]?:=by
 induction xs generalizing i with
 | nil=>simp at hx
 | cons y ys ih =>
  have hy:=h5 y (by simp)
  cases i with
  | zero =>
   simp at hx; subst hx
   rw [List.flatten_cons,List.getElem?_append_left (by omega)]
   simp
  | succ i =>
   rw [List.flatten_cons,List.getElem?_append_right (by omega),hy]
   have e:(i+1) * 5+j - 5=i * 5+j:=by omega
   rw [e]
   exact ih (fun z hz=>h5 z (by simp [hz])) (by simpa using hx)
theorem ClsRow.rowC {w:World} {lo:Nat} {lv:Value} {cs:List Cls} {xs:List (List Value)} (h:ClsRow w lo lv cs xs):RowC (fun _=>False) w lv cs xs.flatten :=
 ⟨owns_base h.owns (Nat.zero_le _),fun i c hc=>by
  obtain ⟨x,hx,s,n,ca,cl,cc,bv,lo',hi',lo'',ys,rfl,g1,g2⟩:=h.all i c hc
  refine ⟨_,_,_,bv,ys,?_,?_,?_,?_,?_,g1.rep,g2.rowT⟩
  ·have:=five_at h.five hx 0 (by omega); simpa using this
  ·have:=five_at h.five hx 1 (by omega); simpa using this
  ·have:=five_at h.five hx 2 (by omega); simpa using this
  ·have:=five_at h.five hx 3 (by omega); simpa using this
  ·have:=five_at h.five hx 4 (by omega); simpa using this⟩
theorem not_terms {w:World} {M:Nat} {cs:Array Value} {t:TypeId} {fr:Nat × Nat} (hM:w.heap[M]?=some (.cells cs t fr)) (ht:t≠183) {k:Nat} (hk:isTerms w k):k≠M:=by
 rintro rfl
 obtain ⟨cur,hc⟩:=hk
 rw [hM] at hc
 simp at hc
 exact ht hc.2.1
theorem Rep.box {X:Nat→Prop} {w w':World} {M:Nat} {cs:Array Value} {t:TypeId} {fr:Nat × Nat} {a b c:Value} {l:List Sym} (h:Rep X w a b c l) (hM:w.heap[M]?=some (.cells cs t fr)) (ht:t≠183) (hk:Kept (fun k=>k=M) w w'):Rep X w' a b c l :=
 h.on (fun k hk' hx hti=>⟨hk.block k hk' (not_terms hM ht hti),hx⟩)
theorem RowT.box {X:Nat→Prop} {w w':World} {M:Nat} {cs:Array Value} {t:TypeId} {fr:Nat × Nat} {cv:Value} {ls:List (List Sym)} {xs:List Value} (h:RowT X w cv ls xs) (hM:w.heap[M]?=some (.cells cs t fr)) (ht:t≠183) (hk:Kept (fun k=>k=M) w w'):RowT X w' cv ls xs :=
 h.on (fun k hk' hx hti=>⟨hk.block k hk' (not_terms hM ht hti),hx⟩)
theorem owns_box {w w':World} {M:Nat} {cs:Array Value} {t:TypeId} {fr:Nat × Nat} {B:Nat} {e:TypeId} {size n:Nat} {v:Value} {xs:List Value} (h:w.ownsRow B e size v n xs) (hM:w.heap[M]?=some (.cells cs t fr)) (ht:e≠t) (hk:Kept (fun k=>k=M) w w'):w'.ownsRow B e size v n xs :=
 hk.owns h (fun k hk' e'=>by subst e'; exact owns_apart h ht hM hk')
theorem RowG.box {X:Nat→Prop} {w w':World} {M:Nat} {cs:Array Value} {t:TypeId} {fr:Nat × Nat} {B n:Nat} {cv:Value} {gs:List (List Sym × Nat)} {xs:List Value} (h:RowG X w B cv n gs xs) (hM:w.heap[M]?=some (.cells cs t fr)) (ht:t≠183) (ht':200≠t) (hk:Kept (fun k=>k=M) w w'):RowG X w' B cv n gs xs :=
 ⟨owns_box h.owns hM ht' hk,h.len,fun i s hs=>by
  obtain ⟨a,b,c,x0,x1,x2,x3,g⟩:=h.all i s hs
  exact ⟨a,b,c,x0,x1,x2,x3,g.box hM ht hk⟩⟩
theorem RepN.box {X:Nat→Prop} {w w':World} {M:Nat} {cs:Array Value} {t:TypeId} {fr:Nat × Nat} {gv vv dv uv:Value} {n:ND} (h:RepN X w gv vv dv uv n) (hM:w.heap[M]?=some (.cells cs t fr)) (ht:t≠183) (ht':200≠t) (ht2:3≠t) (hk:Kept (fun k=>k=M) w w'):RepN X w' gv vv dv uv n:=by
 obtain ⟨xs,h1⟩:=h.goals
 obtain ⟨ys,h2⟩:=h.vals
 obtain ⟨zs,h3⟩:=h.done
 exact ⟨⟨xs,h1.box hM ht ht' hk⟩,⟨ys,h2.box hM ht hk⟩,⟨zs,h3.box hM ht ht' hk⟩,owns_box h.used hM ht2 hk⟩
theorem owns_block {w:World} {B:Nat} {e:TypeId} {size n k:Nat} {v:Value} {xs:List Value} (h:w.ownsRow B e size v n xs) (hk:v.ownBlock=some k):∃ cur,w.heap[k]?=some (.cells cur e (0,0)):=by
 rcases h.2 with ⟨rfl,rfl⟩ | ⟨g,cap,cur,rfl,hb,hg,rest⟩
 ·simp [Value.ownBlock] at hk
 ·have:g=k:=by simpa [Value.ownBlock] using hk
  subst this
  exact ⟨cur,hg⟩
theorem RowT.aside {X:Nat→Prop} {w w':World} {B:Nat} {e:TypeId} {size m:Nat} {v cv:Value} {ys xs:List Value} {ls:List (List Sym)} (h:RowT X w cv ls xs) (ho:w.ownsRow B e size v m ys) (he:e≠183) (hk:Kept (ownOf v) w w'):RowT X w' cv ls xs :=
 h.on (fun k hk' hx ht=>by
  obtain ⟨cur,hc⟩:=ht
  exact ⟨hk.block k hk' (owns_apart ho he hc),hx⟩)
theorem RowG.aside {X:Nat→Prop} {w w':World} {B B' n:Nat} {e:TypeId} {size m:Nat} {v cv:Value} {ys xs:List Value} {gs:List (List Sym × Nat)} (h:RowG X w B' cv n gs xs) (ho:w.ownsRow B e size v m ys) (he:e≠183) (he':e≠200) (hk:Kept (ownOf v) w w'):RowG X w' B' cv n gs xs :=
 h.on (fun k hk'=>by
  obtain ⟨cur,hc⟩:=owns_block h.owns hk'
  exact hk.block k (h.owns.lt k hk').2 (owns_apart ho he' hc)) (fun k hk' hx ht=>by
  obtain ⟨cur,hc⟩:=ht
  exact ⟨hk.block k hk' (owns_apart ho he hc),hx⟩)
theorem Tryz.infoGC:(Tryz.prog.info? 292).map (fun i=>(i.zero,i.size,i.bytes))=some (some (.agg #[.string ⟨#[]⟩,.int .i64 0,.int .i64 0,.int .i64 0,.int .i64 0,.int .i64 0]),6,56):=by kernel_rfl
def placeG (gs:List GC) (s:Sym):Nat:=gs.findIdx (fun c=>sameVar c.sym s)
theorem placeG_hit {gs:List GC} {s:Sym} {k:Nat} {c:GC} (hc:gs[k]?=some c) (h:sameVar c.sym s=true) (hb:∀ i d,i<k→gs[i]?=some d→sameVar d.sym s=false):placeG gs s=k:=by
 unfold placeG
 obtain ⟨hk,rfl⟩:=List.getElem?_eq_some_iff.1 hc
 rw [List.findIdx_eq hk]
 exact ⟨h,fun j hj=>hb j _ hj (List.getElem?_eq_getElem (by omega))⟩
theorem placeG_miss {gs:List GC} {s:Sym} (hb:∀ i d,i<gs.length→gs[i]?=some d→sameVar d.sym s=false):placeG gs s=gs.length:=by
 unfold placeG
 rw [List.findIdx_eq_length]
 intro c hc
 obtain ⟨i,hi,rfl⟩:=List.getElem_of_mem hc
 exact hb i _ hi (List.getElem?_eq_getElem hi)
theorem gc_one {s:ByteArray} {a b c d e:Int}:∀ u ∈ (#[Value.string s,.int .i64 a,.int .i64 b,.int .i64 c,.int .i64 d,.int .i64 e]:Array Value).toList,u.oneCell'=true:=by
 intro u hu
 simp at hu
 rcases hu with rfl | rfl | rfl | rfl | rfl | rfl <;> rfl
def notV:Value→Value
 | .bool b => .bool (!b)
 | v=>v
theorem exec_append1 {P:Program} {W w':World} {a:Act} {o:Oper} {v x' v':Value} (s x:Operand) (t:TypeId) (ho:o.op = .call { callee := .builtin .append,args:=#[s,x],argTypes:=#[t,t] }) (hs:a.eval s=v) (hx:a.eval x=x') (hr:(Builtin.append_ #[t,t] o.type #[v,x']).run P W = .ok v' w'):(execOp a.eval o).run P W = .ok (.value v') w':=by
 unfold execOp
 simp only [ho,resolve,invoke,builtin,Sem.run_bind,Sem.run_pure,Result.andThen_ok,List.map_toArray,List.map_cons,List.map_nil,hs,hx,hr]
def AddOut (gb:Nat) (v:Value) (gs:List GC) (s:Sym) (w w':World):Prop:=∃ v',GAt w' gb v' (gs++[⟨s,0,placeG gs s,0⟩])∧Kept (fun k=>k=gb∨ownOf v k) w w'∧∀ k,ownOf v' k→ownOf v k∨w.heap.size≤k
set_option maxRecDepth 10000 in
set_option maxHeartbeats 4000000 in
theorem addCell_any (w:World) (gb:Nat) (v:Value) (gs:List GC) (s:Sym) (h:GAt w gb v gs) (hl:gs.length≤4000) :
  Calls Tryz.prog 187 #[.pointer (some ⟨gb,0,none⟩),.agg #[.string ⟨s.name.toArray⟩,.int .i64 s.num,.int .i64 s.args]] w fun e w'=>e = .returned (.tuple #[])∧AddOut gb v gs s w w':=by
 obtain ⟨va,vcap,rfl⟩:=owns_slice h.owns
 have hgb:=lt_of_block h.box
 have H:=hide' h
 clear h
 go_enter Tryz.func187,Tryz.ntmps187
 go_wp2
 go_loopg [4] (gs.length+1) (fun gk iv wr=>∃ (k:Nat),iv = .int .i64 k∧k≤gs.length∧gs.length - k<gk∧Ext w wr∧wr.heap[w.heap.size]?=some (.cells #[.string ⟨s.name.toArray⟩,.int .i64 s.num,.int .i64 s.args] 133 (0,0))∧∀ i d,i<k→gs[i]?=some d→sameVar d.sym s=false)
 case atStart=>exact ⟨0,by go_num,Nat.zero_le _,by omega,(Ext.of (by repeat' (first | with_reducible exact Kept.refl _ _ | with_reducible apply Kept.drew | with_reducible apply Kept.drewN | with_reducible apply Kept.alloc | with_reducible refine Kept.setCell ?_ ?_ _ | exact fun h=>absurd h (by simp <;> omega)))),heap_alloc_new w _,fun i d h=>by omega⟩
 case round =>
  obtain ⟨k,rfl,hk,hgk,hext,hbox,hbef⟩:=hrel
  have hsr:=hext.size
  have hG:=H.out.ext hext
  have b0:wr.cell? ⟨gb,0,none⟩=some (.slice va gs.length vcap):=cell_of_block hG.box 0 _ rfl
  have hgb':=lt_of_block hG.box
  obtain ⟨s0,s1,s2,sf⟩:=box3 hbox
  have hwb:=lt_of_block hbox
  have gf:=fun i=>thawed_of_block hG.box i
  have HG:=hide' hG
  have Hext:=hide' hext
  have Hbox:=hide' hbox
  have Hbef:=hide' hbef
  clear hG hext hbox hbef
  have Hdone:Hid (∀ (u:World) (v':Value) (w2:World),Ext wr u→placeG gs s=k→Appended u 0 292 6 (.slice va gs.length vcap) (gs.length+1) (gcs gs++[.string ⟨s.name.toArray⟩,.int .i64 s.num,.int .i64 s.args,.int .i64 0,.int .i64 k,.int .i64 0]) v' w2→AddOut gb (.slice va gs.length vcap) gs s w (w2.setCell ⟨gb,0,none⟩ v')):=fun u v' w2 hu hpl hap=>by
   have hGu:=HG.out.ext hu
   have hsu:=hu.size
   have hblk:=(hap.kept.block gb (lt_of_block hGu.box) (owns_apart hGu.owns (by decide) hGu.box)).trans hGu.box
   have hK:Kept (fun j=>j=gb) w2 (w2.setCell ⟨gb,0,none⟩ v'):=(Kept.refl (only gb) w2).put 0 _
   refine ⟨v',⟨block_set hblk 0 _,?_⟩,?_,fun j hj => ?_⟩
   ·have:=owns_box hap.owns hblk (by decide) hK
    rw [gcs_snoc,hpl]
    simpa [gcV] using this
   ·have k1:Kept (fun k=>k=gb∨ownOf (.slice va gs.length vcap) k) w u:=(Kept.of_below (Hext.out.trans (hu.mono hsr))).mono (fun i hi h=>by omega)
    exact (k1.then hap.kept (fun i _ h=>Or.inr h)).then hK (fun i _ h=>Or.inl h)
   ·rcases hap.where_ with hw | ⟨g,hw,hg⟩
    ·exact Or.inl (hw.symm.trans hj)
    ·have:some g=some j:=hw.symm.trans hj
     simp at this
     exact Or.inr (by omega)
  by_cases hlt:k<gs.length
  ·obtain ⟨c,hc⟩:∃ c,gs[k]?=some c:=⟨_,List.getElem?_eq_getElem hlt⟩
   obtain ⟨cb,cap',he,hcb,hcap,_,_⟩:=HG.out.shape (by omega)
   simp only [Value.slice.injEq] at he
   obtain ⟨rfl,_,rfl⟩:=he
   obtain ⟨c0,c1,c2,_,_,_⟩:=HG.out.cell hc
   have HS:=hide' (isSame_any wr.drew c.sym s)
   have Hc:=hide' hc
   clear hc
   go_wp2_with fail
   refine region_lastG (by kernel_rfl) [.pur (.int .i64 k),.pur (.pointer (some ⟨gb,0,none⟩)),.pur (.pointer (some ⟨gb,0,none⟩)),.pur (.pointer (some ⟨gb,0,none⟩)),.pur (.slice (some ⟨cb,0,none⟩) gs.length vcap),.pur (.int .i64 gs.length),.pur (.bool true),.pur (.bool true),
    .pur (.pointer (some ⟨gb,0,none⟩)),.pur (.pointer (some ⟨gb,0,none⟩)),.pur (.pointer (some ⟨gb,0,none⟩)),.pur (.slice (some ⟨cb,0,none⟩) gs.length vcap),.pur (.int .i64 k),.pur (.pointer (some ⟨cb,k * 6,none⟩)),.pur (.pointer (some ⟨cb,k * 6,none⟩)),.pur (.agg #[.string ⟨c.sym.name.toArray⟩,.int .i64 c.sym.num,.int .i64 c.sym.args]),.pur (.agg #[.string ⟨s.name.toArray⟩,.int .i64 s.num,.int .i64 s.args]),
    .cal,.post notV,.post notV] 17 20 (by kernel_rfl)
    (fun r u=>r = .bool (sameVar c.sym s)∧Ext wr u) (fun r u=>r = .bool (sameVar c.sym s)∧Ext wr u) 207
    #[.agg #[.string ⟨c.sym.name.toArray⟩,.int .i64 c.sym.num,.int .i64 c.sym.args],.agg #[.string ⟨s.name.toArray⟩,.int .i64 s.num,.int .i64 s.args]] ?_ ?_ rfl (by decide) (Or.inr ⟨by decide,fun _ _ h=>h⟩) ?_
   ·refine HS.out.mono ?_
    rintro e u ⟨rfl,he⟩
    exact ⟨_,rfl,rfl,he.undrew⟩
   ·refine ⟨fun vc => ?_,fun vc => ?_,fun vc => ?_,fun vc => ?_,fun vc => ?_,fun vc => ?_,fun vc => ?_,fun vc => ?_,fun vc => ?_,fun vc => ?_,fun vc => ?_,fun vc => ?_,fun vc => ?_,fun vc => ?_,fun vc => ?_,fun vc => ?_,fun vc => ?_,fun vc => ?_,?_,?_,trivial⟩
    all_goals try (simp [pa,Kd.val,go_sem,b0,s0,s1,s2,c0,c1,c2,hlt]; done)
    all_goals
     rintro vc u (⟨rfl,_⟩ | ⟨rfl,_⟩) <;> simp [pa,Kd.val,go_sem,notV]
   rintro vc u ⟨rfl,hu⟩
   simp only [paAll,pa,Kd.val,if_true,Act.put,notV]
   have hsu:=hu.size
   have hgu0:=HG.out.ext hu
   have hbu:=(hu.block _ hwb).trans Hbox.out
   obtain ⟨s0,s1,s2,sf⟩:=box3 hbu
   have b0:u.cell? ⟨gb,0,none⟩=some (.slice (some ⟨cb,0,none⟩) gs.length vcap):=cell_of_block hgu0.box 0 _ rfl
   have hgu:gb<u.heap.size:=lt_of_block hgu0.box
   have HGu:Hid (GAt (u.drewN 1) gb (.slice (some ⟨cb,0,none⟩) gs.length vcap) gs):=hgu0.on (fun _ _=>rfl)
   have Hrow:Hid ((u.drewN 1).ownsRow 0 292 6 (.slice (some ⟨cb,0,none⟩) gs.length vcap) gs.length (gcs gs)):=HGu.out.owns
   have Hu:=hide' hu
   have Hbu:=hide' hbu
   clear hu hgu0 hbu c0 c1 c2
   cases hsv:sameVar c.sym s with
   | false =>
    have Hsv:=hide' hsv
    clear hsv
    simp only [List.setIfInBounds_toArray,Bool.not_false,Bool.not_true,List.set_cons_succ,List.set_cons_zero]
    go_wp2
    go_roundg (gs.length - k)
    case measure=>omega
    case rel =>
     refine ⟨k+1,by go_num,by omega,by omega,Hext.out.trans (Hu.out.mono hsr),Hbu.out,fun i d hi hd => ?_⟩
     by_cases e:i=k
     ·subst e
      rw [Hc.out] at hd
      simp at hd
      subst hd
      exact Hsv.out
     ·exact Hbef.out i d (by omega) hd
   | true =>
    have Hpl:=hide' (placeG_hit Hc.out hsv Hbef.out)
    clear hsv
    simp only [List.setIfInBounds_toArray,Bool.not_false,Bool.not_true,List.set_cons_succ,List.set_cons_zero]
    go_wp2_with fail
    have Hu':Hid (Ext wr u.drew):=Hu.out.trans ⟨rfl,rfl,rfl,Nat.le_refl _,fun _ _=>rfl⟩
    have hwu:w.heap.size<u.heap.size:=by omega
    refine region_app (by kernel_rfl) [.pur (.pointer (some ⟨gb,0,none⟩)),.pur (.pointer (some ⟨gb,0,none⟩)),.pur (.pointer (some ⟨gb,0,none⟩)),.pur (.pointer (some ⟨gb,0,none⟩)),.pur (.slice (some ⟨cb,0,none⟩) gs.length vcap),.pur (.agg #[.string ⟨s.name.toArray⟩,.int .i64 s.num,.int .i64 s.args]),.pur (.int .i64 k),.pur (.agg #[.string ⟨s.name.toArray⟩,.int .i64 s.num,.int .i64 s.args,.int .i64 0,.int .i64 k,.int .i64 0]),.pur (.slice (some ⟨u.heap.size,0,none⟩) 1 1),
     .cal,.post (fun _ => .pointer (some ⟨gb,0,none⟩)),.post (fun _ => .pointer (some ⟨gb,0,none⟩)),.sto 0] 8 9 12 (by kernel_rfl)
     (fun v' w2=>Appended u.drew 0 292 6 (.slice (some ⟨cb,0,none⟩) gs.length vcap) (gs.length+1) (gcs gs++[.string ⟨s.name.toArray⟩,.int .i64 s.num,.int .i64 s.args,.int .i64 0,.int .i64 k,.int .i64 0]) v' w2)
     (fun v' w3=>AddOut gb (.slice (some ⟨cb,0,none⟩) gs.length vcap) gs s w w3)
     (u.drew.alloc (.cells #[.string ⟨s.name.toArray⟩,.int .i64 s.num,.int .i64 s.args,.int .i64 0,.int .i64 k,.int .i64 0] 292)) _ rfl (fun o h=>by simp at h; subst h; rfl) ?_ rfl (by decide) (Or.inl ⟨_,rfl⟩) ?_
    ·refine ⟨fun vc uu hu => ?_,fun vc uu hu => ?_,fun vc uu hu => ?_,fun vc uu hu => ?_,fun vc uu hu => ?_,fun vc uu hu => ?_,fun vc uu hu => ?_,fun vc uu hu => ?_,fun vc => ?_,fun vc => ?_,fun vc uu hu => ?_,fun vc uu hu => ?_,fun vc uu hu => ?_,trivial⟩
     all_goals try (simp [paAll,pa,Kd.val,go_sem]; done)
     ·rcases hu with rfl | rfl | h
      ·simp [paAll,pa,Kd.val,go_sem,b0]
      ·simp [paAll,pa,Kd.val,go_sem,b0,hgu]
      ·simp [isMove] at h
     ·rcases hu with rfl | rfl | h
      ·simp [paAll,pa,Kd.val,go_sem,s0,s1,s2]
      ·simp [paAll,pa,Kd.val,go_sem,s0,s1,s2,hwu]
      ·simp [isMove] at h
     ·obtain ⟨v',w',hrun,hap⟩:=run_append1 (P:=Tryz.prog) u.drew 264 264 0 292 Tryz.infoGC Tryz.underlying264 rfl (by decide) (.slice (some ⟨cb,0,none⟩) gs.length vcap) gs.length (gcs gs) Hrow.out #[.string ⟨s.name.toArray⟩,.int .i64 s.num,.int .i64 s.args,.int .i64 0,.int .i64 k,.int .i64 0] rfl gc_one (by omega) (Nat.zero_le _)
      refine ⟨v',w',?_,by simpa using hap⟩
      have hrun':(Builtin.append_ #[264,264] 264 #[.slice (some ⟨cb,0,none⟩) gs.length vcap,.slice (some ⟨u.heap.size,0,none⟩) 1 1]).run Tryz.prog (u.drew.alloc (.cells #[.string ⟨s.name.toArray⟩,.int .i64 s.num,.int .i64 s.args,.int .i64 0,.int .i64 k,.int .i64 0] 292)) = .ok v' w':=hrun
      exact exec_append1 (.tmp 31) (.tmp 35) 264 rfl (by simp [paAll,pa,Kd.val,go_sem]) (by simp [paAll,pa,Kd.val,go_sem]) hrun'
     ·have hap:Appended _ _ _ _ _ _ _ vc uu:=hu
      have hblk2:=(hap.kept.block gb hgu (owns_apart Hrow.out (by decide) HGu.out.box)).trans HGu.out.box
      obtain ⟨va2,vc2,rfl⟩:=owns_slice hap.owns
      refine ⟨uu.setCell ⟨gb,0,none⟩ _,?_,Hdone.out u.drew _ uu ?_ Hpl.out hap⟩
      ·simp [paAll,pa,Kd.val,go_sem,thawed_of_block hblk2,(cell_of_block hblk2 0 _ rfl:uu.cell? ⟨gb,0,none⟩=_)]
      ·exact Hu'.out
    rintro vc u3 hout
    simp only [paAll,pa,Kd.val,if_true,Act.put,List.setIfInBounds_toArray,List.set_cons_succ,List.set_cons_zero]
    have Hout:=hide' hout
    clear hout
    go_wp2
    go_end0
    exact ⟨rfl,Hout.out⟩
  ·have hek:k=gs.length:=by omega
   subst hek
   have hd:decide (((gs.length:Nat):Int)<((gs.length:Nat):Int))=false:=by simp
   have Hpl:=hide' (placeG_miss (fun i d hi hd'=>Hbef.out i d hi hd'))
   have HGu:Hid (∀ n,GAt (wr.drewN n) gb (.slice va gs.length vcap) gs):=fun n=>HG.out.on (fun _ _=>rfl)
   go_wp2_with fail
   go_quiet (fail)
   obtain ⟨u,hqu⟩:∃ u,u=wr.drewN nq:=⟨_,rfl⟩
   rw [← hqu]
   have b0:u.cell? ⟨gb,0,none⟩=some (.slice va gs.length vcap):=by rw [hqu]; exact b0
   have s0:u.cell? ⟨w.heap.size,0,none⟩=some (.string ⟨s.name.toArray⟩):=by rw [hqu]; exact s0
   have s1:u.cell? ⟨w.heap.size,1,none⟩=some (.int .i64 s.num):=by rw [hqu]; exact s1
   have s2:u.cell? ⟨w.heap.size,2,none⟩=some (.int .i64 s.args):=by rw [hqu]; exact s2
   have hgu:gb<u.heap.size:=by rw [hqu]; exact hgb'
   have hwu:w.heap.size<u.heap.size:=by rw [hqu]; exact hwb
   have HGu:Hid (GAt u.drew gb (.slice va gs.length vcap) gs):=by rw [hqu]; exact HGu.out (nq+1)
   have Hrow:Hid (u.drew.ownsRow 0 292 6 (.slice va gs.length vcap) gs.length (gcs gs)):=HGu.out.owns
   have Hu:Hid (Ext wr u):=by rw [hqu]; exact ⟨rfl,rfl,rfl,Nat.le_refl _,fun _ _=>rfl⟩
   clear hqu
   go_wp2_with fail
   have Hu':Hid (Ext wr u.drew):=Hu.out.trans ⟨rfl,rfl,rfl,Nat.le_refl _,fun _ _=>rfl⟩
   have hwu:w.heap.size<u.heap.size:=by omega
   refine region_app (by kernel_rfl) [.pur (.pointer (some ⟨gb,0,none⟩)),.pur (.pointer (some ⟨gb,0,none⟩)),.pur (.pointer (some ⟨gb,0,none⟩)),.pur (.pointer (some ⟨gb,0,none⟩)),.pur (.slice va gs.length vcap),.pur (.agg #[.string ⟨s.name.toArray⟩,.int .i64 s.num,.int .i64 s.args]),.pur (.int .i64 gs.length),.pur (.agg #[.string ⟨s.name.toArray⟩,.int .i64 s.num,.int .i64 s.args,.int .i64 0,.int .i64 gs.length,.int .i64 0]),.pur (.slice (some ⟨u.heap.size,0,none⟩) 1 1),
    .cal,.post (fun _ => .pointer (some ⟨gb,0,none⟩)),.post (fun _ => .pointer (some ⟨gb,0,none⟩)),.sto 0] 8 9 12 (by kernel_rfl)
    (fun v' w2=>Appended u.drew 0 292 6 (.slice va gs.length vcap) (gs.length+1) (gcs gs++[.string ⟨s.name.toArray⟩,.int .i64 s.num,.int .i64 s.args,.int .i64 0,.int .i64 gs.length,.int .i64 0]) v' w2)
    (fun v' w3=>AddOut gb (.slice va gs.length vcap) gs s w w3)
    (u.drew.alloc (.cells #[.string ⟨s.name.toArray⟩,.int .i64 s.num,.int .i64 s.args,.int .i64 0,.int .i64 gs.length,.int .i64 0] 292)) _ rfl (fun o h=>by simp at h; subst h; rfl) ?_ rfl (by decide) (Or.inl ⟨_,rfl⟩) ?_
   ·refine ⟨fun vc uu hu => ?_,fun vc uu hu => ?_,fun vc uu hu => ?_,fun vc uu hu => ?_,fun vc uu hu => ?_,fun vc uu hu => ?_,fun vc uu hu => ?_,fun vc uu hu => ?_,fun vc => ?_,fun vc => ?_,fun vc uu hu => ?_,fun vc uu hu => ?_,fun vc uu hu => ?_,trivial⟩
    all_goals try (simp [paAll,pa,Kd.val,go_sem]; done)
    ·rcases hu with rfl | rfl | h
     ·simp [paAll,pa,Kd.val,go_sem,b0]
     ·simp [paAll,pa,Kd.val,go_sem,b0,hgu]
     ·simp [isMove] at h
    ·rcases hu with rfl | rfl | h
     ·simp [paAll,pa,Kd.val,go_sem,s0,s1,s2]
     ·simp [paAll,pa,Kd.val,go_sem,s0,s1,s2,hwu]
     ·simp [isMove] at h
    ·obtain ⟨v',w',hrun,hap⟩:=run_append1 (P:=Tryz.prog) u.drew 264 264 0 292 Tryz.infoGC Tryz.underlying264 rfl (by decide) (.slice va gs.length vcap) gs.length (gcs gs) Hrow.out #[.string ⟨s.name.toArray⟩,.int .i64 s.num,.int .i64 s.args,.int .i64 0,.int .i64 gs.length,.int .i64 0] rfl gc_one (by omega) (Nat.zero_le _)
     refine ⟨v',w',?_,by simpa using hap⟩
     have hrun':(Builtin.append_ #[264,264] 264 #[.slice va gs.length vcap,.slice (some ⟨u.heap.size,0,none⟩) 1 1]).run Tryz.prog (u.drew.alloc (.cells #[.string ⟨s.name.toArray⟩,.int .i64 s.num,.int .i64 s.args,.int .i64 0,.int .i64 gs.length,.int .i64 0] 292)) = .ok v' w':=hrun
     exact exec_append1 (.tmp 31) (.tmp 35) 264 rfl (by simp [paAll,pa,Kd.val,go_sem]) (by simp [paAll,pa,Kd.val,go_sem]) hrun'
    ·have hap:Appended _ _ _ _ _ _ _ vc uu:=hu
     have hblk2:=(hap.kept.block gb hgu (owns_apart Hrow.out (by decide) HGu.out.box)).trans HGu.out.box
     obtain ⟨va2,vc2,rfl⟩:=owns_slice hap.owns
     refine ⟨uu.setCell ⟨gb,0,none⟩ _,?_,Hdone.out u.drew _ uu ?_ Hpl.out hap⟩
     ·simp [paAll,pa,Kd.val,go_sem,thawed_of_block hblk2,(cell_of_block hblk2 0 _ rfl:uu.cell? ⟨gb,0,none⟩=_)]
     ·exact Hu'.out
   rintro vc u3 hout
   simp only [paAll,pa,Kd.val,if_true,Act.put,List.setIfInBounds_toArray,List.set_cons_succ,List.set_cons_zero]
   have Hout:=hide' hout
   clear hout
   go_wp2
   go_end0
   exact ⟨rfl,Hout.out⟩
end Go.Proofs.YtlmjilpjmgjjcaaGreatDoor
