/-
  PROVED HERE: the program's own Yes answers as the document does; so the given card of the law 'Yeses' holds.
-/
import Derived.Test.YtlmjilpjmgjjcaaGreatDoorT9
import Derived.Test.YtlmjilpjmgjjcaaGreatDoorCards
import Derived.Test.YtlmjilpjmgjjcaaGreatDoorTie
import Derived.ProofKit
import Derived.LaidMore
import Derived.OpenShut
import Derived.Stop.Joined
import Derived.SevenTiedAt
import Derived.Deep.Slices
import Derived.Carry
namespace Go.Proofs.YtlmjilpjmgjjcaaGreatDoor
open Go.RowKit
set_option linter.unusedSimpArgs false
set_option linter.unusedVariables false
theorem canon_len {l:List Sym} (hl:l.length≤1000) (hw:Wf 1 l) (hn:∀ s ∈ l,s.name.length≤4096) {seen:List Nat} (hs:seen.length+l.length≤4000) :
  (atomC (canon1 l seen).1 []).length≤4100 * l.length∧(canon1 l seen).2.length≤seen.length+l.length:=by
 have hT:=wf_isT 1000 hl hw
 obtain ⟨h1,h2⟩:=wterm_canon hT seen
 have:=wterm_len 1000 l hT hn seen hs
 rw [h1,h2] at this
 omega
theorem pairs_len:∀ (names:Names) (ts:List (List Sym)) (sep:List UInt8) (seen:List Nat),(∀ x ∈ names,x.length≤4096)→(∀ t ∈ ts,Wf 1 t∧t.length≤1000∧∀ s ∈ t,s.name.length≤4096)→sep.length≤1→seen.length+ts.flatten.length≤4000 →
  (pairs sep names (canons ts seen).1).length≤4098 * names.length+4100 * ts.flatten.length:=by
 intro names
 induction names with
 | nil=>intro ts sep seen _ _ _ _; cases ts <;> simp [canons,pairs]
 | cons x xs ih =>
  intro ts sep seen h1 h2 h3 h4
  cases ts with
  | nil=>simp [canons,pairs]
  | cons t ts =>
   obtain ⟨t1,t2,t3⟩:=h2 t (by simp)
   simp only [List.flatten_cons,List.length_append] at h4 ⊢
   obtain ⟨c1,c2⟩:=canon_len t2 t1 t3 (seen:=seen) (by omega)
   have h:=ih ts [44] (canon1 t seen).2 (fun y hy=>h1 y (by simp [hy])) (fun y hy=>h2 y (by simp [hy])) (by simp) (by omega)
   have hx:=h1 x (by simp)
   simp only [canons,pairs,List.length_append,List.length_cons]
   omega
set_option maxRecDepth 10000 in
set_option maxHeartbeats 4000000 in
theorem refAnswer_any (w:World) (X:Nat→Prop) (av nv gv vv dv uv:Value) (vs:Int) (names:Names) (n:ND) (lo:Nat) (vx:List Value) (hav:∃ a l c,av = .slice a l c) (hgv:∃ a l c,gv = .slice a l c) (hdv:∃ a l c,dv = .slice a l c) (huv:∃ a l c,uv = .slice a l c)
  (hN:w.ownsRow lo 9 1 nv names.length (strs names)) (hV:RowT X w vv n.vals vx) (hl:names.length=n.vals.length) (hn:names.length≤125) (hnl:∀ x ∈ names,x.length≤4096) (hs:∀ t ∈ n.vals,t.length≤30∧∀ s ∈ t,s.name.length≤4096) :
  Calls Tryz.prog 116 #[.agg #[av,nv],.agg #[gv,vv,dv,uv,.int .i64 vs]] w fun e w'=>e = .returned (.string ⟨(answerN names n).toArray⟩)∧Ext w w':=by
 obtain ⟨aa,al,ac,rfl⟩:=hav
 obtain ⟨ga,gl,gc,rfl⟩:=hgv
 obtain ⟨da,dl,dc,rfl⟩:=hdv
 obtain ⟨ua,ul,uc,rfl⟩:=huv
 obtain ⟨na,ncap,rfl⟩:=owns_slice hN
 obtain ⟨va,vcap,rfl⟩:=owns_slice hV.1
 have hwf:=hV.wf
 have HN:=hide' hN
 have HV:=hide' hV
 clear hN hV
 cases hnm:names with
 | nil =>
  have hl0:n.vals.length=0:=by rw [← hl,hnm]; rfl
  have Hans:Hid (answerN [] n=[121,101,115]):=by show _=_; simp [answerN]
  clear HN HV hl hn hnl hs hwf hnm
  go_enter Tryz.func116,Tryz.ntmps116
  go_wp2
  go_ret
  rw [Hans.out]
  exact ⟨rfl,(Ext.of (by repeat' (first | with_reducible exact Kept.refl _ _ | with_reducible apply Kept.drew | with_reducible apply Kept.drewN | with_reducible apply Kept.alloc | with_reducible refine Kept.setCell ?_ ?_ _ | exact fun h=>absurd h (by simp <;> omega))))⟩
 | cons x0 xr =>
  rw [← hnm]
  have hpos:0<names.length:=by rw [hnm]; simp
  have hne:(((names.length:Nat):Int) == 0)=false:=by rw [beq_eq_false_iff_ne]; omega
  obtain ⟨F,hF⟩:∃ F,F=pairs [] names (canons n.vals []).1:=⟨_,rfl⟩
  have Hans:Hid (answerN names n=F):=by show _=_; rw [hF,answerN,if_neg (by rw [hnm]; simp)]
  have hfl:n.vals.flatten.length≤3750:=by
   have key:∀ ls:List (List Sym),(∀ t ∈ ls,t.length≤30)→ls.flatten.length≤30 * ls.length:=by
    intro ls
    induction ls with
    | nil=>intro _; simp
    | cons t ts ih =>
     intro h
     have h1:=h t (by simp)
     have h2:=ih (fun y hy=>h y (by simp [hy]))
     simp only [List.flatten_cons,List.length_append,List.length_cons]; omega
   have:=key n.vals (fun t ht=>(hs t ht).1)
   omega
  have hFl:F.length≤20000000:=by
   have:=pairs_len names n.vals [] [] hnl (fun t ht=>⟨hwf t ht,by have:=(hs t ht).1; omega,(hs t ht).2⟩) (by simp) (by simp only [List.length_nil]; omega)
   rw [hF]; omega
  have HF:=hide' hF
  have Hl:=hide' hl
  have hn2:n.vals.length≤125:=by omega
  have Hs:=hide' hs
  have Hnl:=hide' hnl
  have Hwf:=hide' hwf
  clear hnm hF hs hnl hwf hl
  go_enter Tryz.func116,Tryz.ntmps116
  go_wp2
  obtain ⟨W0,hW0⟩:∃ W0,W0=(w.alloc (.cells #[.slice aa al ac,.slice na names.length ncap] 148)).alloc (.cells #[.slice ga gl gc,.slice va n.vals.length vcap,.slice da dl dc,.slice ua ul uc,.int .i64 vs] 152):=⟨_,rfl⟩
  have hE0:Ext w W0:=by rw [hW0]; exact (Ext.of (by repeat' (first | with_reducible exact Kept.refl _ _ | with_reducible apply Kept.drew | with_reducible apply Kept.drewN | with_reducible apply Kept.alloc | with_reducible refine Kept.setCell ?_ ?_ _ | exact fun h=>absurd h (by simp <;> omega))))
  have hs0:W0.heap.size=w.heap.size+2:=by rw [hW0]; simp
  have hA0:W0.heap[w.heap.size]?=some (.cells #[.slice aa al ac,.slice na names.length ncap] 148 (0,0)):=by rw [hW0]; exact block_alloc (heap_alloc_new w _) _
  have hB0:W0.heap[w.heap.size+1]?=some (.cells #[.slice ga gl gc,.slice va n.vals.length vcap,.slice da dl dc,.slice ua ul uc,.int .i64 vs] 152 (0,0)):=by rw [hW0]; simpa using heap_alloc_new (w.alloc _) _
  rw [← hW0]
  have HE0:=hide' hE0
  have HA0:=hide' hA0
  have HB0:=hide' hB0
  clear hW0 hE0 hA0 hB0
  go_loopg [5,6,7] (names.length+1) (fun gk tx sl i wr=>∃ (k:Nat) (sk:List Nat) (dt:List UInt8),i = .int .i64 k∧k≤names.length∧names.length - k<gk∧tx = .string ⟨dt.toArray⟩ ∧
   dt++pairs (if k=0 then [] else [44]) (names.drop k) (canons (n.vals.drop k) sk).1=F∧sk.length+(n.vals.drop k).flatten.length≤3750∧Appended W0 W0.heap.size 3 1 (.slice none 0 0) sk.length (ints sk) sl wr)
  case atStart=>exact ⟨0,[],[],by go_num,Nat.zero_le _,by omega,rfl,by simp [HF.out],by simpa using hfl,⟨World.ownsRow_nil _ _ _ _,Kept.refl _ _,Or.inl rfl⟩⟩
  case round =>
   obtain ⟨k,sk,dt,rfl,hk,hgk,rfl,hdt,hsk,hap⟩:=hrel
   obtain ⟨ska,skcap,rfl⟩:=owns_slice hap.owns
   have hdl:dt.length≤20000000:=by
    have h1:=congrArg List.length hdt
    simp only [List.length_append] at h1
    omega
   have hE0r:Ext W0 wr:=hap.kept.below (Nat.le_refl _) (fun i e=>by simp [ownOf,Value.ownBlock] at e)
   have hsr:=hE0r.size
   have hEwr:Ext w wr:=HE0.out.trans (hE0r.mono (by omega))
   have hA:=(hE0r.block _ (by omega)).trans HA0.out
   obtain ⟨b0,b1⟩:wr.cell? ⟨w.heap.size,0,none⟩=some (.slice aa al ac)∧wr.cell? ⟨w.heap.size,1,none⟩=some (.slice na names.length ncap):=⟨cell_of_block hA 0 _ rfl,cell_of_block hA 1 _ rfl⟩
   obtain ⟨m0,m1,m2,m3,m4,mf⟩:=box5 ((hE0r.block (w.heap.size+1) (by omega)).trans HB0.out)
   have Hap:=hide' hap
   have Hdt:=hide' hdt
   have HEwr:=hide' hEwr
   have HE0r:=hide' hE0r
   clear hap hdt hEwr hE0r hA
   by_cases hlt:k<names.length
   ·obtain ⟨x,hx⟩:∃ x,names[k]?=some x:=⟨_,List.getElem?_eq_getElem hlt⟩
    have hlv:k<n.vals.length:=by have:=Hl.out; omega
    obtain ⟨t,ht⟩:∃ t,n.vals[k]?=some t:=⟨_,List.getElem?_eq_getElem hlv⟩
    have hdx:names.drop k=x::names.drop (k+1):=by
     rw [List.drop_eq_getElem_cons hlt,(List.getElem?_eq_some_iff.1 hx).2]
    have hdv:n.vals.drop k=t::n.vals.drop (k+1):=by
     rw [List.drop_eq_getElem_cons hlv,(List.getElem?_eq_some_iff.1 ht).2]
    obtain ⟨a',b',c',x0,x1,x2,hrt⟩:=HV.out.2.2 k t ht
    obtain ⟨s3,n3,c3a,c3l,c3c,rfl,rfl,rfl⟩:=hrt.shape
    have hrow':=HV.out.ext (Y:=X) HEwr.out (fun _ _ h=>h)
    obtain ⟨gb,cap',cur,hge,hBg,hgb,hcp⟩:=owns_some hrow'.1 (by omega)
    simp only [Value.slice.injEq] at hge
    obtain ⟨rfl,_,rfl⟩:=hge
    have y0:wr.cell? ⟨gb,k * 3,none⟩=some (.string s3):=owns_cell hrow'.1 _ _ x0
    have y1:wr.cell? ⟨gb,k * 3+1,none⟩=some (.int .i64 n3):=owns_cell hrow'.1 _ _ x1
    have y2:wr.cell? ⟨gb,k * 3+2,none⟩=some (.slice c3a c3l c3c):=owns_cell hrow'.1 _ _ x2
    have hnr:=owns_same HN.out (fun i hi=>HEwr.out.block i (HN.out.lt i hi).2)
    obtain ⟨nb,ncap',ncur,hne',hNB,hnb,hncp⟩:=owns_some hnr (by omega)
    simp only [Value.slice.injEq] at hne'
    obtain ⟨rfl,_,rfl⟩:=hne'
    have z0:wr.cell? ⟨nb,k,none⟩=some (.string ⟨x.toArray⟩):=owns_cell hnr k _ (by simp only [strs,List.getElem?_map,hx,Option.map_some])
    have hxl:=Hnl.out x (List.mem_of_getElem? hx)
    obtain ⟨ht30,htn⟩:=Hs.out t (List.mem_of_getElem? ht)
    have htw:=Hwf.out t (List.mem_of_getElem? ht)
    have hT:=wf_isT 1000 (by omega) htw
    obtain ⟨wc1,wc2⟩:=wterm_canon hT sk
    have hskl:sk.length+t.length+(n.vals.drop (k+1)).flatten.length≤3750:=by
     rw [hdv] at hsk
     simp only [List.flatten_cons,List.length_append] at hsk
     omega
    obtain ⟨cl1,cl2⟩:=canon_len (by omega) htw htn (seen:=sk) (by omega)
    have hI:=written_any 1000 wr 0 wr.heap.size _ _ _ t W0.heap.size sk _ ((hrt.ext HEwr.out (fun _ _ h=>h)).repT (by omega)) Hap.out.owns hsr htn (by omega)
    rw [wc1,wc2] at hI
    have HI:=hide' hI
    have hcl1:(atomC (canon1 t sk).1 []).length≤200000:=by omega
    have hnbl:=lt_of_block hnb
    obtain ⟨tx,htx⟩:∃ tx,tx=atomC (canon1 t sk).1 []:=⟨_,rfl⟩
    obtain ⟨sk2,hsk2⟩:∃ sk2,sk2=(canon1 t sk).2:=⟨_,rfl⟩
    have Hnext:Hid (∀ sep:List UInt8,dt++(sep++(x++(61::(tx++pairs [44] (names.drop (k+1)) (canons (n.vals.drop (k+1)) sk2).1))))=dt++pairs sep (names.drop k) (canons (n.vals.drop k) sk).1):=fun sep=>by
     rw [hdx,hdv,htx,hsk2]; simp [canons,pairs]
    rw [← htx] at hcl1
    rw [← hsk2] at cl2
    rw [← htx,← hsk2] at HI
    clear hgb hrow' hrt x0 x1 x2 ht hx hnr hnb hdx hdv hT wc1 wc2 hI htw htn cl1 htx hsk2
    by_cases h0:k=0
    ·have hk0:¬ (0:Int)<(k:Int):=by omega
     have Hd0:Hid ((dt++x++[61]++tx)++pairs [44] (names.drop (k+1)) (canons (n.vals.drop (k+1)) sk2).1=F):=by
      have h1:=Hdt.out
      rw [if_pos h0,← Hnext.out []] at h1
      show _=_
      rw [← h1]; simp
     have Hstr:Hid ((⟨dt.toArray⟩:ByteArray)++⟨x.toArray⟩++⟨[61].toArray⟩++⟨tx.toArray⟩=⟨(dt++x++[61]++tx).toArray⟩):=by
      show _=_; rw [str_cat,str_cat,str_cat]
     have H0:=hide' h0
     clear h0
     go_wp2_with fail
     refine HI.out.mono ?_
     rintro e w1 ⟨sv',rfl,hap1⟩
     obtain ⟨s1a,s1cap,rfl⟩:=owns_slice hap1.owns
     have hk1:Kept (fun i=>W0.heap.size≤i) wr w1:=hap1.kept.mono (fun i _ e=>(Hap.out.owns.lt i e).1)
     have b1':w1.cell? ⟨w.heap.size,1,none⟩=some (.slice (some ⟨nb,0,none⟩) names.length ncap):=hk1.cell b1 (by show ¬ W0.heap.size≤w.heap.size; omega)
     have z0':w1.cell? ⟨nb,k,none⟩=some (.string ⟨x.toArray⟩):=hk1.cell z0 (by have:=(HN.out.lt nb rfl).2; show ¬ W0.heap.size≤nb; omega)
     have Hap1:=hide' hap1
     clear hap1 y0 y1 y2 hk1
     go_wp2
     go_roundg (names.length - k)
     case measure=>omega
     case rel=>exact ⟨k+1,sk2,dt++x++[61]++tx,by go_num,by omega,by omega,by rw [← Hstr.out],by simpa using Hd0.out,by omega,Hap.out.trans Hap1.out⟩
    ·have hk0:(0:Int)<(k:Int):=by omega
     have Hd0:Hid ((dt++[44]++x++[61]++tx)++pairs [44] (names.drop (k+1)) (canons (n.vals.drop (k+1)) sk2).1=F):=by
      have h1:=Hdt.out
      rw [if_neg h0,← Hnext.out [44]] at h1
      show _=_
      rw [← h1]; simp
     have Hstr:Hid ((⟨dt.toArray⟩:ByteArray)++⟨[44].toArray⟩++⟨x.toArray⟩++⟨[61].toArray⟩++⟨tx.toArray⟩=⟨(dt++[44]++x++[61]++tx).toArray⟩):=by
      show _=_; rw [str_cat,str_cat,str_cat,str_cat]
     have H0:=hide' h0
     clear h0
     go_wp2_with fail
     refine HI.out.mono ?_
     rintro e w1 ⟨sv',rfl,hap1⟩
     obtain ⟨s1a,s1cap,rfl⟩:=owns_slice hap1.owns
     have hk1:Kept (fun i=>W0.heap.size≤i) wr w1:=hap1.kept.mono (fun i _ e=>(Hap.out.owns.lt i e).1)
     have b1':w1.cell? ⟨w.heap.size,1,none⟩=some (.slice (some ⟨nb,0,none⟩) names.length ncap):=hk1.cell b1 (by show ¬ W0.heap.size≤w.heap.size; omega)
     have z0':w1.cell? ⟨nb,k,none⟩=some (.string ⟨x.toArray⟩):=hk1.cell z0 (by have:=(HN.out.lt nb rfl).2; show ¬ W0.heap.size≤nb; omega)
     have Hap1:=hide' hap1
     clear hap1 y0 y1 y2 hk1
     go_wp2
     go_roundg (names.length - k)
     case measure=>omega
     case rel=>exact ⟨k+1,sk2,dt++[44]++x++[61]++tx,by go_num,by omega,by omega,by rw [← Hstr.out],by simpa using Hd0.out,by omega,Hap.out.trans Hap1.out⟩
   ·have Hend:Hid (F=dt):=by
     have h1:=Hdt.out
     rw [List.drop_eq_nil_of_le (by omega)] at h1
     have e:pairs (if k=0 then [] else [44]) [] (canons (n.vals.drop k) sk).1=[]:=by cases (canons (n.vals.drop k) sk).1 <;> rfl
     rw [e,List.append_nil] at h1
     exact h1.symm
    go_wp2
    go_ret
    rw [Hans.out,Hend.out]
    exact ⟨rfl,HEwr.out⟩
theorem tryN_vals {n:ND} {c:Cls} {k:Nat} (h:(tryN n c k).2=1∨(tryN n c k).2=2):(tryN n c k).1.vals.length=n.vals.length:=by
 by_cases hex:∃ r:ND × Nat,∃ m,NOk m∧Same m n∧Out m c k r.2 r.1
 ·have e:tryN n c k=Classical.choose hex:=by unfold tryN; rw [dif_pos hex]
  obtain ⟨m,_,hS,g,gs,_,ho⟩:=Classical.choose_spec hex
  rw [e] at h ⊢
  rcases ho with ⟨h0,_⟩ | ⟨h0,_⟩ | ⟨σ,_,_,_,h4⟩
  ·omega
  ·omega
  ·rw [h4]; simp [childBy,hS.vl]
 ·have e:tryN n c k=(⟨[],[],[],[],0⟩,0):=by unfold tryN; rw [dif_neg hex]
  rw [e] at h
  simp at h
theorem followN_vals {cs:List Cls}:∀ {ks:List Nat} {n:ND} {i:Nat},(followN cs n ks i).2.1=0→(followN cs n ks i).1.vals.length=n.vals.length:=by
 intro ks
 induction ks with
 | nil=>intro n i h; unfold followN at h ⊢; split <;> rfl
 | cons k ks ih =>
  intro n i h
  cases hc:cs[k]? with
  | none =>
   have:=followN_none (cs:=cs) (n:=n) (k:=k) (i:=i) (ks:=ks) (Or.inr (List.getElem?_eq_none_iff.1 hc))
   rw [this] at h; simp at h
  | some c =>
   by_cases hg:n.goals=[]
   ·have:=followN_none (cs:=cs) (n:=n) (k:=k) (i:=i) (ks:=ks) (Or.inl hg)
    rw [this] at h; simp at h
   ·by_cases hq:(tryN n c k).2=1∨(tryN n c k).2=2
    ·rw [followN_on hc hg hq] at h ⊢
     rw [ih h,tryN_vals hq]
    ·have:=followN_off (i:=i) (ks:=ks) hc hq
     rw [this] at h; simp at h
theorem heldN_vals {p q x:ByteArray} {a:List (List Sym) × Names} {n0:ND} (ha:askOf q=some a) (h:heldN p q x=(a.2,n0,0,0)):n0.vals.length=a.2.length:=by
 cases hp:progOf p with
 | none=>simp [heldN,hp] at h
 | some cs =>
  by_cases hx:400<x.size
  ·simp [heldN,hp,ha,hx] at h
  ·cases hn:numbersL x with
   | mk o pl =>
    cases o with
    | none=>simp [heldN,hp,ha,hx,hn] at h
    | some ks =>
     simp [heldN,hp,ha,hx,hn] at h
     have h2:=followN_vals (cs:=cs) (ks:=ks) (n:=topN a) (i:=0) (by rw [h])
     rw [h] at h2
     simpa [topN] using h2
set_option maxRecDepth 10000 in
set_option maxHeartbeats 4000000 in
theorem refYes_any (p q x:ByteArray) (w:World) (hp:p.size≤maxLen) (hq:q.size≤maxLen) (hx:x.size≤maxLen) :
  Calls Tryz.prog 91 #[.string p,.string q,.string x] w fun e w'=>e = .returned (.tuple #[.string ⟨(yesN p q x).1.toArray⟩,.int .i64 (yesN p q x).2.1,.int .i64 (yesN p q x).2.2])∧Ext w w':=by
 have HF:=hide' (fun u=>refFollow_any p q x u hp hq hx)
 obtain ⟨Y,hY⟩:∃ Y,Y=yesN p q x:=⟨_,rfl⟩
 rw [← hY]
 have HY:=hide' hY
 clear hp hq hx hY
 go_enter Tryz.func91,Tryz.ntmps91
 go_wp2_with fail
 refine (HF.out _).mono ?_
 rintro e w1 ⟨hE1,hF⟩
 have hs1:=hE1.size
 have HE1:=hide' hE1
 clear hE1
 rcases hF with ⟨er,pl,her,hh,a0,l0,c0,a1,l1,c1,rfl⟩ | ⟨a,av,nv,m0,m1,m2,m3,m4,n0,hh,hask,rfl,hA,hnode⟩
 ·have Hy:Hid (Y=([],er,pl)):=by show _=_; rw [HY.out,yesN,hh]; simp [her]
  have hb:((er:Int) != 0)=true:=by rw [bne_iff_ne]; omega
  clear hh
  go_wp2
  go_ret3
  rw [Hy.out]
  exact ⟨rfl,HE1.out.trans (Kept.below (S:=fun i=>w.heap.size≤i) (by repeat' (first | with_reducible exact Kept.refl _ _ | with_reducible apply Kept.drew | with_reducible apply Kept.drewN | with_reducible apply Kept.alloc | with_reducible refine Kept.setCell ?_ ?_ _ | (intro _; simp only; omega))) hs1 (fun _ h=>h))⟩
 ·have hvl:=heldN_vals hask hh
  obtain ⟨_,_,_,_,_,_,_,ha3,ha4⟩:=ask_parsed hask
  obtain ⟨ax,hA1⟩:=hA.atoms
  obtain ⟨aa,acap,rfl⟩:=owns_slice hA1.1
  obtain ⟨n,hR,hOk,hNm,hS,rfl⟩:=hnode.node
  obtain ⟨vx,hV⟩:=hR.vals
  obtain ⟨gx,hG⟩:=hR.goals
  obtain ⟨dx,hD⟩:=hR.done
  obtain ⟨ga,gcap,rfl⟩:=owns_slice hG.owns
  obtain ⟨va,vcap,rfl⟩:=owns_slice hV.1
  obtain ⟨da,dcap,rfl⟩:=owns_slice hD.owns
  obtain ⟨ua,ucap,rfl⟩:=owns_slice hR.used
  obtain ⟨na,ncap,rfl⟩:=owns_slice hA.names
  have hans:answerN a.2 n=answerN a.2 n0:=by unfold answerN; rw [hS.valsC hOk]
  obtain ⟨T,hT⟩:∃ T,T=answerN a.2 n:=⟨_,rfl⟩
  have Hy:Hid (Y=(T,0,0)):=by show _=_; rw [HY.out,yesN,hh,hT]; simp [hans]
  have HAn:=hide' (fun u (hu:Ext w1 u)=>refAnswer_any u (fun _=>False) (.slice aa a.1.length acap) (.slice na a.2.length ncap) (.slice ga n.goals.length gcap) (.slice va n.vals.length vcap) (.slice da n.done.length dcap) (.slice ua n.used.length ucap) n.vars a.2 n 0 vx ⟨_,_,_,rfl⟩ ⟨_,_,_,rfl⟩ ⟨_,_,_,rfl⟩ ⟨_,_,_,rfl⟩
   (owns_same hA.names (fun i hi=>hu.block i (hA.names.lt i hi).2)) (hV.ext hu (fun _ _ h=>h)) (by rw [hS.vl,hvl]) (by omega) (fun y hy=>Nat.le_trans (ha4 y hy) (by omega)) (fun t ht=>⟨hOk.vsize ht,fun s hs=>Nat.le_trans (hNm t (by simp [ND.terms,ht]) s hs) (by omega)⟩))
  rw [← hT] at HAn
  clear hh hask hA hA1 hnode hR hOk hNm hS hV hG hD hvl hans ha3 ha4 hT
  go_wp2_with fail
  refine (HAn.out _ (Ext.of (by repeat' (first | with_reducible exact Kept.refl _ _ | with_reducible apply Kept.drew | with_reducible apply Kept.drewN | with_reducible apply Kept.alloc | with_reducible refine Kept.setCell ?_ ?_ _ | exact fun h=>absurd h (by simp <;> omega))))).mono ?_
  rintro e w2 ⟨rfl,hE2⟩
  have HE2:=hide' hE2
  clear hE2
  go_wp2
  go_ret3
  rw [Hy.out]
  exact ⟨rfl,(HE1.out.trans (Kept.below (S:=fun i=>w.heap.size≤i) (by repeat' (first | with_reducible exact Kept.refl _ _ | with_reducible apply Kept.drew | with_reducible apply Kept.drewN | with_reducible apply Kept.alloc | with_reducible refine Kept.setCell ?_ ?_ _ | (intro _; simp only; omega))) hs1 (fun _ h=>h))).trans (HE2.out.mono (by simp; omega))⟩
theorem tryN_depth {n:ND} {c:Cls} {k:Nat} (h:(tryN n c k).2=1∨(tryN n c k).2=2):∃ d ds,n.goals.map (·.2)=d::ds∧(tryN n c k).1.goals.map (·.2)=List.replicate c.body.length (d+1)++ds∧(tryN n c k).1.done.map (·.2)=n.done.map (·.2)++[d]:=by
 by_cases hex:∃ r:ND × Nat,∃ m,NOk m∧Same m n∧Out m c k r.2 r.1
 ·have e:tryN n c k=Classical.choose hex:=by unfold tryN; rw [dif_pos hex]
  obtain ⟨m,_,hS,g,gs,hg,ho⟩:=Classical.choose_spec hex
  rw [e] at h ⊢
  rcases ho with ⟨h0,_⟩ | ⟨h0,_⟩ | ⟨σ,_,_,_,h4⟩
  ·omega
  ·omega
  ·rw [h4]
   refine ⟨g.2,gs.map (·.2),?_,?_,?_⟩
   ·rw [← hS.gd,hg]; rfl
   ·simp only [childBy]
    rw [carr_snd,List.map_append,List.map_map]
    congr 1
    generalize c.body=b
    induction b with
    | nil=>rfl
    | cons x b ih=>rw [List.map_cons,ih,List.length_cons,List.replicate_succ]; rfl
   ·simp only [childBy]
    rw [carr_snd,List.map_append,hS.dd]
    rfl
 ·have e:tryN n c k=(⟨[],[],[],[],0⟩,0):=by unfold tryN; rw [dif_neg hex]
  rw [e] at h
  simp at h
theorem follow_go {cs:List Cls} {m:ND} {k i:Nat} {ks:List Nat} (h:(followN cs m (k::ks) i).2=(0,0)):∃ c,cs[k]?=some c∧m.goals≠[]∧((tryN m c k).2=1∨(tryN m c k).2=2)∧followN cs m (k::ks) i=followN cs (tryN m c k).1 ks (i+1):=by
 cases hc:cs[k]? with
 | none =>
  have:=followN_none (cs:=cs) (n:=m) (k:=k) (i:=i) (ks:=ks) (Or.inr (List.getElem?_eq_none_iff.1 hc))
  rw [this] at h; simp at h
 | some c =>
  by_cases hg:m.goals=[]
  ·have:=followN_none (cs:=cs) (n:=m) (k:=k) (i:=i) (ks:=ks) (Or.inl hg)
   rw [this] at h; simp at h
  ·by_cases hq:(tryN m c k).2=1∨(tryN m c k).2=2
   ·exact ⟨c,rfl,hg,hq,followN_on hc hg hq⟩
   ·have:=followN_off (i:=i) (ks:=ks) hc hq
    rw [this] at h; simp at h
structure DepAt (w:World) (ds ls:List Nat) (dv lv:Value) (wr:World):Prop where
 ext:Ext w wr
 dep:wr.ownsRow w.heap.size 3 1 dv ds.length (ints ds)
 lef:wr.ownsRow w.heap.size 3 1 lv ls.length (ints ls)
 off:∀ j,dv.ownBlock=some j→¬ lv.ownBlock=some j
theorem DepAt.depApp {w w1 w2:World} {ds ls:List Nat} {dv lv dv2:Value} {d:Nat} (h:DepAt w ds ls dv lv w1) (hap:Appended w1 w.heap.size 3 1 dv (ds.length+1) (ints ds++[.int .i64 d]) dv2 w2):DepAt w (ds++[d]) ls dv2 lv w2:=by
 obtain ⟨h1,h2,h3,h4⟩:=h
 refine ⟨h1.trans (hap.kept.below h1.size (fun j hj=>(h2.lt j hj).1)),by have:=hap.owns; simpa [ints] using this,hap.kept.owns h3 (fun j hj hS=>h4 j hS hj),fun j hj hl => ?_⟩
 rcases hap.where_ with e | ⟨g,e,hg⟩
 ·rw [e] at hj; exact h4 j hj hl
 ·rw [e] at hj
  simp only [Option.some.injEq] at hj
  have:=(h3.lt j hl).2
  omega
theorem DepAt.lefApp {w w1 w2:World} {ds ls:List Nat} {dv lv lv2:Value} {d:Nat} (h:DepAt w ds ls dv lv w1) (hap:Appended w1 w.heap.size 3 1 lv (ls.length+1) (ints ls++[.int .i64 d]) lv2 w2):DepAt w ds (ls++[d]) dv lv2 w2:=by
 obtain ⟨h1,h2,h3,h4⟩:=h
 refine ⟨h1.trans (hap.kept.below h1.size (fun j hj=>(h3.lt j hj).1)),hap.kept.owns h2 (fun j hj hS=>h4 j hj hS),by have:=hap.owns; simpa [ints] using this,fun j hj hl => ?_⟩
 rcases hap.where_ with e | ⟨g,e,hg⟩
 ·rw [e] at hl; exact h4 j hj hl
 ·rw [e] at hl
  simp only [Option.some.injEq] at hl
  have:=(h2.lt j hj).2
  omega
theorem DepAt.cut {w wr:World} {ds ls:List Nat} {dv:Value} {d g cap:Nat} (h:DepAt w ds (ls++[d]) dv (.slice (some ⟨g,0,none⟩) (ls.length+1) cap) wr):DepAt w ds ls dv (.slice (some ⟨g,0,none⟩) ls.length cap) wr:=by
 obtain ⟨h1,h2,h3,h4⟩:=h
 rw [List.length_append,List.length_cons,List.length_nil] at h3
 have:=owns_pop h3
 refine ⟨h1,h2,?_,h4⟩
 have e:(ints (ls++[d])).take ls.length=ints ls:=by
  unfold ints
  rw [List.map_append,List.take_append_of_le_length (by simp),List.take_of_length_le (by simp)]
 rw [e] at this
 exact this
def DepOut (ds:List Nat) (w:World) (e:Ending) (w':World):Prop:=Ext w w'∧∃ x c,e = .returned (.slice x ds.length c)∧w'.ownsRow 0 3 1 (.slice x ds.length c) ds.length (ints ds)
set_option maxRecDepth 10000 in
set_option maxHeartbeats 4000000 in
theorem depthsOf_any (w:World) (cv hv bv nv kv:Value) (cs:List Cls) (xs:List (List Value)) (a:List (List Sym) × Names) (ks:List Nat) (hP:ProgIn w cv cs xs) (hh:∃ a n x,hv = .slice a n x) (hb:TermsIn w bv a.1) (hns:w.ownsRow 0 9 1 nv a.2.length (strs a.2)) (hk:w.ownsRow 0 3 1 kv ks.length (ints ks))
  (hcs:∀ c ∈ cs,COk c) (hcl:cs.length≤24) (hal:a.1.length≤6) (hkl:ks.length≤400) (hk9:∀ k ∈ ks,k≤99) (hf:(followN cs (topN a) ks 0).2=(0,0)) :
  Calls Tryz.prog 69 #[cv,.agg #[hv,bv,nv],kv] w (DepOut ((followN cs (topN a) ks 0).1.done.map (·.2)) w):=by
 obtain ⟨h1,h2,h3,rfl⟩:=hh
 obtain ⟨ba,bcap,rfl⟩:=hb.shape
 obtain ⟨na,ncap,rfl⟩:=owns_slice hns
 obtain ⟨ka,kcap,rfl⟩:=owns_slice hk
 obtain ⟨la,lcap,rfl⟩:=owns_slice hP.owns
 have HP:=hide' hP
 have Hk:=hide' hk
 have Hcs:=hide' hcs
 have Hk9:=hide' hk9
 have Hf:=hide' hf
 clear hP hb hns hk hcs hk9 hf
 go_enter Tryz.func69,Tryz.ntmps69
 go_wp2
 go_loopg [8,16] (a.1.length+1) (fun gk lv iv wr=>∃ (k:Nat),iv = .int .i64 k∧k≤a.1.length∧a.1.length - k<gk∧DepAt w [] (List.replicate k 0) (.slice none 0 0) lv wr)
 case atStart=>exact ⟨0,by go_num,Nat.zero_le _,by omega,(Ext.of (by repeat' (first | with_reducible exact Kept.refl _ _ | with_reducible apply Kept.drew | with_reducible apply Kept.drewN | with_reducible apply Kept.alloc | with_reducible refine Kept.setCell ?_ ?_ _ | exact fun h=>absurd h (by simp <;> omega)))),World.ownsRow_nil _ _ _ _,World.ownsRow_nil _ _ _ _,fun j hj=>by simp [Value.ownBlock] at hj⟩
 case round =>
  obtain ⟨k,rfl,hk,hgk,hD⟩:=hrel
  have hrow:=hD.lef
  rw [List.length_replicate] at hrow
  obtain ⟨sa,scap,rfl⟩:=owns_slice hrow
  have hsr:=hD.ext.size
  have HD:=hide' hD
  have Hrow:=hide' hrow
  clear hD hrow
  by_cases hlt:k<a.1.length
  ·go_wp2_with (at_builtin; go_loud (refine wpList_append1 wr rfl (.tmp 18) (.tmp 19) 25 rfl w.heap.size 3 Tryz.infoInt Tryz.underlying25 rfl (by decide) (.slice sa k scap) k (ints (List.replicate k 0)) rfl Hrow.out #[.int .i64 0] (N:=wr.heap.size) rfl (by simp) rfl (int_one _) ?_ ?_ ?_))
   ·omega
   ·omega
   intro v2 w2 hap
   obtain ⟨a2,c2,rfl⟩:=owns_slice hap.owns
   have hD2:=HD.out.lefApp (d:=0) (w2:=w2) (lv2 := .slice a2 (k+1) c2) (by rw [List.length_replicate]; exact hap)
   rw [← List.replicate_succ'] at hD2
   have HD2:=hide' hD2
   clear hap hD2
   go_wp2
   go_roundg (a.1.length - k)
   case measure=>omega
   case rel=>exact ⟨k+1,by go_num,by omega,by omega,HD2.out⟩
  ·have hek:k=a.1.length:=by omega
   subst hek
   obtain ⟨wo,hwo⟩:∃ x,x=wr:=⟨_,rfl⟩
   subst hwo
   have HD0:Hid (DepAt w ((topN a).done.map (·.2)) ((topN a).goals.map (·.2)).reverse (.slice none 0 0) (.slice sa a.1.length scap) wo):=by
    have e1:(topN a).done.map (·.2)=[]:=rfl
    have e2:((topN a).goals.map (·.2)).reverse=List.replicate a.1.length 0:=by
     have:(topN a).goals.map (·.2)=List.replicate a.1.length 0:=by
      unfold topN
      simp only [List.map_map]
      generalize a.1=l
      induction l with
      | nil=>rfl
      | cons x l ih=>rw [List.map_cons,ih,List.length_cons,List.replicate_succ]; rfl
     rw [this,List.reverse_replicate]
    rw [e1,e2]
    exact HD.out
   have hb0:Hid (∀ x ∈ (topN a).goals.map (·.2),x≤0):=fun x hx=>by
    unfold topN at hx
    simp at hx
    omega
   clear HD Hrow
   go_wp2
   go_loopg [7,8,24] (ks.length+1) (fun gk dv lv iv wr=>∃ (i:Nat) (m:ND),iv = .int .i64 i∧i≤ks.length∧ks.length - i<gk∧followN cs (topN a) ks 0=followN cs m (ks.drop i) i∧(∀ x ∈ m.goals.map (·.2),x≤i)∧m.goals.length≤6+6 * i∧m.done.length=i∧DepAt w (m.done.map (·.2)) (m.goals.map (·.2)).reverse dv lv wr)
   case atStart=>exact ⟨0,topN a,by go_num,Nat.zero_le _,by omega,by simp,hb0.out,by unfold topN; simp; omega,by unfold topN; rfl,HD0.out⟩
   case round =>
    obtain ⟨i,m,rfl,hi,hgi,hfo,hbd,hgl,hdl,hD⟩:=hrel
    have hdn:=hD.dep
    have hln:=hD.lef
    rw [List.length_map,hdl] at hdn
    rw [List.length_reverse,List.length_map] at hln
    obtain ⟨da,dcap,rfl⟩:=owns_slice hdn
    obtain ⟨sa,scap,rfl⟩:=owns_slice hln
    have hsr:=hD.ext.size
    have Hfo:=hide' hfo
    have Hbd:=hide' hbd
    have HD:=hide' hD
    have Hdn:=hide' hdn
    have Hln:=hide' hln
    clear hfo hbd hD hdn hln
    by_cases hlt:i<ks.length
    ·obtain ⟨k,hk⟩:∃ k,ks[i]?=some k:=⟨_,List.getElem?_eq_getElem hlt⟩
     have hdk:ks.drop i=k::ks.drop (i+1):=by rw [List.drop_eq_getElem_cons hlt,(List.getElem?_eq_some_iff.1 hk).2]
     have hk99:=Hk9.out k (List.mem_of_getElem? hk)
     have hfz:=Hf.out
     rw [Hfo.out,hdk] at hfz
     obtain ⟨c,hc,hmg,hq,hgo⟩:=follow_go hfz
     obtain ⟨d,ds,hg1,hg2,hd1⟩:=tryN_depth hq
     have hkc2:=(List.getElem?_eq_some_iff.1 hc).1
     have hfo2:followN cs (topN a) ks 0=followN cs (tryN m c k).1 (ks.drop (i+1)) (i+1):=by rw [Hfo.out,hdk,hgo]
     have hdi:d≤i:=Hbd.out d (by rw [hg1]; simp)
     have hbl:=(Hcs.out c (List.mem_of_getElem? hc)).bn
     have hL:m.goals.length=ds.length+1:=by have:=congrArg List.length hg1; simpa using this
     have hbd2:∀ x ∈ (tryN m c k).1.goals.map (·.2),x≤i+1:=fun x hx=>by
      rw [hg2] at hx
      rcases List.mem_append.1 hx with hx | hx
      ·have:=List.eq_of_mem_replicate hx; omega
      ·have:=Hbd.out x (by rw [hg1]; simp [hx]); omega
     have hgl2:(tryN m c k).1.goals.length≤6+6 * (i+1):=by
      have:=congrArg List.length hg2
      simp at this
      omega
     have hdl2:(tryN m c k).1.done.length=i+1:=by
      have:=congrArg List.length hd1
      simp at this
      omega
     have hDr:=HD.out
     rw [hg1,List.reverse_cons] at hDr
     have hlr:=Hln.out
     rw [hg1,List.reverse_cons,hL] at hlr
     have hdr:=Hdn.out
     obtain ⟨dl,hdle⟩:∃ l,l=m.done.map (·.2):=⟨_,rfl⟩
     rw [← hdle] at hdr hDr hd1
     have hdll:dl.length=i:=by rw [hdle,List.length_map]; exact hdl
     obtain ⟨rs,hrs⟩:∃ l,l=ds.reverse:=⟨_,rfl⟩
     have hrl:ds.length=rs.length:=by rw [hrs]; simp
     rw [← hrs] at hlr hDr
     rw [hrl] at hlr hL
     rw [hL] at hDr ⊢
     obtain ⟨kb,kcap',kcur,hke,hBk,hkb,hkc⟩:=owns_some Hk.out (by omega)
     simp only [Value.slice.injEq] at hke
     obtain ⟨rfl,_,rfl⟩:=hke
     have hkbw:=lt_of_block hkb
     have k0:wr.cell? ⟨kb,i,none⟩=some (.int .i64 k):=(HD.out.ext.cell (p:=⟨kb,i,none⟩) hkbw).trans (owns_cell Hk.out i _ (by simp only [ints,List.getElem?_map,hk,Option.map_some]))
     have hkbl:kb<wr.heap.size:=by omega
     obtain ⟨lb,lcap',lcur,hle,_,hlb,_⟩:=owns_some HP.out.owns (by omega)
     simp only [Value.slice.injEq] at hle
     obtain ⟨rfl,_,rfl⟩:=hle
     have hlbw:=lt_of_block hlb
     obtain ⟨cv0,cv1,cv2,e0,e1,e2,hcl2⟩:=HP.out.cell hc
     obtain ⟨b2,b3,rfl⟩:=hcl2.body.shape
     obtain ⟨sg,scap',scur,hse,_,hsb,_⟩:=owns_some hlr (by omega)
     simp only [Value.slice.injEq] at hse
     obtain ⟨rfl,_,rfl⟩:=hse
     have s0:wr.cell? ⟨sg,rs.length,none⟩=some (.int .i64 d):=owns_cell hlr _ _ (by simp [ints])
     have hsgl:=lt_of_block hsb
     have HDr:=hide' hDr
     have Hdr:Hid (wr.ownsRow w.heap.size 3 1 (.slice da i dcap) i (ints dl)):=hdr
     have Hfo2:=hide' hfo2
     have Hbd2:=hide' hbd2
     have Hg2:=hide' hg2
     have Hd1:=hide' hd1
     have He1:=hide' e1
     have Hrs:=hide' hrs
     have Hdll:=hide' hdll
     have hn1:¬ ((rs.length:Int)<0):=by omega
     have hn2:¬ ((k:Int)<0):=by omega
     have hn3:¬ ((cs.length:Int)≤(k:Int)):=by omega
     clear hk hdk hfz hc hmg hq hgo hg1 hg2 hd1 hfo2 hbd2 hDr hlr hdr hdle hrs hkb hlb e0 e1 e2 hcl2 hsb hdll hrl
     go_wp2_with (at_builtin; go_loud (refine wpList_append1 wr rfl (.tmp 47) (.tmp 49) 25 rfl w.heap.size 3 Tryz.infoInt Tryz.underlying25 rfl (by decide) (.slice da i dcap) i (ints dl) rfl Hdr.out #[.int .i64 d] (N:=wr.heap.size) rfl (by simp) rfl (int_one _) ?_ ?_ ?_))
     ·omega
     intro v2 w2 hap
     obtain ⟨a2,c2,rfl⟩:=owns_slice hap.owns
     have hD2:=(HDr.out.depApp (d:=d) (w2:=w2) (dv2 := .slice a2 (i+1) c2) (by rw [Hdll.out]; exact hap)).cut
     have hz2:=hap.kept.size
     have hlbl:lb<w2.heap.size:=by omega
     have l1:w2.cell? ⟨lb,k * 3+1,none⟩=some (.slice b2 c.body.length b3):=(hD2.ext.cell (p:=⟨lb,k * 3+1,none⟩) hlbw).trans He1.out
     have hz0:=hD2.ext.size
     have HD2:=hide' hD2
     have hsgl2:sg<w2.heap.size:=by omega
     have hrcap:rs.length≤scap:=by omega
     clear hap hD2 k0 s0
     obtain ⟨wp,hwp⟩:∃ x,x=w2:=⟨_,rfl⟩
     subst hwp
     go_wp2
     go_loopg [8,60] (c.body.length+1) (fun gk lv iv wr=>∃ (j:Nat),iv = .int .i64 j∧j≤c.body.length∧c.body.length - j<gk∧DepAt w (dl++[d]) (rs++List.replicate j (d+1)) (.slice a2 (i+1) c2) lv wr)
     case atStart=>exact ⟨0,by go_num,Nat.zero_le _,by omega,by simpa using HD2.out⟩
     case round =>
      obtain ⟨j,rfl,hj,hgj,hD3⟩:=hrel
      have hl3:=hD3.lef
      rw [List.length_append,List.length_replicate] at hl3
      obtain ⟨ta,tcap,rfl⟩:=owns_slice hl3
      have hs3:=hD3.ext.size
      have HD3:=hide' hD3
      have Hl3:=hide' hl3
      clear hD3 hl3
      by_cases hjl:j<c.body.length
      ·go_wp2_with (at_builtin; go_loud (refine wpList_append1 wr rfl (.tmp 62) (.tmp 65) 25 rfl w.heap.size 3 Tryz.infoInt Tryz.underlying25 rfl (by decide) (.slice ta (rs.length+j) tcap) (rs.length+j) (ints (rs++List.replicate j (d+1))) rfl Hl3.out #[.int .i64 ((d:Int)+1)] (N:=wr.heap.size) rfl (by simp) rfl (int_one _) ?_ ?_ ?_))
       ·omega
       ·omega
       intro v4 w4 hap
       obtain ⟨a4,c4,rfl⟩:=owns_slice hap.owns
       have hD4:=HD3.out.lefApp (d:=d+1) (w2:=w4) (lv2 := .slice a4 (rs.length+j+1) c4) (by rw [List.length_append,List.length_replicate]; exact hap)
       rw [List.append_assoc,← List.replicate_succ'] at hD4
       have HD4:=hide' hD4
       clear hap hD4
       go_wp2
       go_roundg (c.body.length - j)
       case measure=>omega
       case rel=>exact ⟨j+1,by go_num,by omega,by omega,HD4.out⟩
      ·have hej:j=c.body.length:=by omega
       subst hej
       go_wp2
       go_roundg (ks.length - i)
       case measure=>omega
       case rel =>
        refine ⟨i+1,(tryN m c k).1,by go_num,by omega,by omega,Hfo2.out,Hbd2.out,hgl2,hdl2,?_⟩
        rw [Hd1.out,Hg2.out,List.reverse_append,List.reverse_replicate,← Hrs.out]
        exact HD3.out
    ·have hei:i=ks.length:=by omega
     subst hei
     have hm:(followN cs (topN a) ks 0).1=m:=by
      have h1:=Hf.out
      have e:followN cs m [] ks.length=if m.goals=[] then (m,0,0) else (m,7,ks.length):=by unfold followN; rfl
      rw [Hfo.out,List.drop_eq_nil_of_le (Nat.le_refl _),e] at h1
      rw [Hfo.out,List.drop_eq_nil_of_le (Nat.le_refl _),e]
      by_cases hg:m.goals=[]
      ·rw [if_pos hg]
      ·rw [if_neg hg] at h1; simp at h1
     have Hm:=hide' hm
     clear hm
     go_wp2
     go_ret
     rw [Hm.out]
     refine ⟨HD.out.ext,da,dcap,by rw [List.length_map,hdl]; rfl,?_⟩
     rw [List.length_map,hdl]
     exact owns_base Hdn.out (Nat.zero_le _)
theorem idx_hit:∀ {met:List Nat} {n k:Nat},(∀ i,i<k→met[i]?≠some n)→met[k]?=some n→met.idxOf n=k:=by
 intro met
 induction met with
 | nil=>intro n k _ h; simp at h
 | cons x met ih =>
  intro n k h1 h2
  rw [List.idxOf_cons]
  cases k with
  | zero=>simp at h2; subst h2; simp
  | succ k =>
   have hx:x≠n:=fun e=>h1 0 (by omega) (by simp [e])
   have:(x == n)=false:=by rw [beq_eq_false_iff_ne]; exact hx
   rw [this]
   simp only [cond_false]
   rw [ih (n:=n) (k:=k) (fun i hi=>by have:=h1 (i+1) (by omega); simpa using this) (by simpa using h2)]
theorem idx_miss:∀ {met:List Nat} {n:Nat},(∀ i,i<met.length→met[i]?≠some n)→met.idxOf n=met.length:=by
 intro met
 induction met with
 | nil=>intro n _; rfl
 | cons x met ih =>
  intro n h1
  rw [List.idxOf_cons]
  have hx:x≠n:=fun e=>h1 0 (by simp) (by simp [e])
  have:(x == n)=false:=by rw [beq_eq_false_iff_ne]; exact hx
  rw [this]
  simp only [cond_false,List.length_cons]
  rw [ih (n:=n) (fun i hi=>by have:=h1 (i+1) (by simp; omega); simpa using this)]
set_option maxRecDepth 10000 in
set_option maxHeartbeats 2000000 in
theorem placeOf_any (w:World) (n:Nat) (lv:Value) (met:List Nat) (h:w.ownsRow 0 3 1 lv met.length (ints met)) (hl:met.length≤10000) (hn:n≤200000) :
  Calls Tryz.prog 134 #[.int .i64 n,lv] w fun e w'=>e = .returned (.int .i64 (met.idxOf n))∧w'=w:=by
 obtain ⟨la,lcap,rfl⟩:=owns_slice h
 have H:=hide' h
 clear h
 go_enter Tryz.func134,Tryz.ntmps134
 go_wp2
 go_loopg [5] (met.length+1) (fun gk pv wr=>∃ (k:Nat),pv = .int .i64 k∧k≤met.length∧met.length - k<gk∧wr=w∧∀ i,i<k→met[i]?≠some n)
 case atStart=>exact ⟨0,by go_num,Nat.zero_le _,by omega,rfl,fun i hi=>by omega⟩
 case round =>
  obtain ⟨k,rfl,hk,hgk,rfl,hbef⟩:=hrel
  have Hbef:=hide' hbef
  clear hbef
  by_cases hlt:k<met.length
  ·have hlt':(k:Int)<(met.length:Int):=by omega
   obtain ⟨x,hx⟩:∃ x,met[k]?=some x:=⟨_,List.getElem?_eq_getElem hlt⟩
   obtain ⟨g,cap',cur,he,_,hgb,_⟩:=owns_some H.out (by omega)
   simp only [Value.slice.injEq] at he
   obtain ⟨rfl,_,rfl⟩:=he
   have x0:wr.cell? ⟨g,k,none⟩=some (.int .i64 x):=owns_cell H.out k _ (by simp only [ints,List.getElem?_map,hx,Option.map_some])
   have hgl:=lt_of_block hgb
   have Hx:=hide' hx
   clear hx hgb
   by_cases hxn:x=n
   ·subst hxn
    have Hi:Hid (met.idxOf x=k):=idx_hit Hbef.out Hx.out
    go_wp2
    go_ret
    exact ⟨by rw [Hi.out]; simp,rfl⟩
   ·have hb:((x:Int) != (n:Int))=true:=by rw [bne_iff_ne]; omega
    go_wp2
    go_roundg (met.length - k)
    case measure=>omega
    case rel =>
     refine ⟨k+1,by go_num,by omega,by omega,rfl,fun i hi => ?_⟩
     by_cases e:i=k
     ·subst e
      rw [Hx.out]
      simpa using hxn
     ·exact Hbef.out i (by omega)
  ·have hek:k=met.length:=by omega
   subst hek
   have Hi:Hid (met.idxOf n=met.length):=idx_miss Hbef.out
   have hlt':¬ ((met.length:Int)<(met.length:Int)):=by omega
   go_wp2
   go_ret
   exact ⟨by rw [Hi.out]; simp,rfl⟩
theorem TermsAt.other {w w':World} {B B2 n s:Nat} {e:TypeId} {v vv:Value} {ls:List (List Sym)} {vs ys:List Value} (h:TermsAt w B v ls vs) (hv:w.ownsRow B2 e s vv n ys) (he1:105≠e) (he2:133≠e) (hk:Kept (ownOf vv) w w'):TermsAt w' B v ls vs :=
 ⟨hk.owns h.owns (fun j hj hS=>by
  obtain ⟨cur,hc⟩:=owns_terms hv j hS
  exact owns_apart h.owns he1 hc hj),fun i l hi=>by
  obtain ⟨x,h1,h2⟩:=h.all i l hi
  refine ⟨x,h1,hk.owns h2 (fun j hj hS => ?_)⟩
  obtain ⟨cur,hc⟩:=owns_terms hv j hS
  exact owns_apart h2 he2 hc hj⟩
structure OrdB (w:World) (Bc:Nat) (rl:List (List Sym)) (rv:Value) (xs:List Value) (met:List Nat) (mv:Value) (ch:List Sym) (cv:Value) (wr:World):Prop where
 ext:Ext w wr
 row:TermsAt wr w.heap.size rv rl xs
 low:∀ x ∈ xs,∀ j,x.ownBlock=some j→j<Bc
 met:wr.ownsRow w.heap.size 3 1 mv met.length (ints met)
 b1:w.heap.size≤Bc
 b2:Bc≤wr.heap.size
 chg:wr.ownsRow Bc 133 3 cv ch.length (symsCells ch)
theorem OrdB.on {w wr w1:World} {Bc:Nat} {rl:List (List Sym)} {rv mv cv:Value} {xs:List Value} {met:List Nat} {ch:List Sym} (h:OrdB w Bc rl rv xs met mv ch cv wr) (e:Ext wr w1):OrdB w Bc rl rv xs met mv ch cv w1:=by
 obtain ⟨h1,h2,h3,h4,h5,h6,h7⟩:=h
 exact ⟨h1.trans (e.mono h1.size),h2.ext e,h3,owns_same h4 (fun j hj=>e.block j (h4.lt j hj).2),h5,Nat.le_trans h6 e.size,owns_same h7 (fun j hj=>e.block j (h7.lt j hj).2)⟩
theorem OrdB.metApp {w w1 w2:World} {Bc n:Nat} {rl:List (List Sym)} {rv mv mv2 cv:Value} {xs:List Value} {met:List Nat} {ch:List Sym} (h:OrdB w Bc rl rv xs met mv ch cv w1) (hap:Appended w1 w.heap.size 3 1 mv (met.length+1) (ints met++[.int .i64 n]) mv2 w2):OrdB w Bc rl rv xs (met++[n]) mv2 ch cv w2:=by
 obtain ⟨h1,h2,h3,h4,h5,h6,h7⟩:=h
 have hsz:=hap.kept.size
 refine ⟨h1.trans (hap.kept.below h1.size (fun j hj=>(h4.lt j hj).1)),h2.other h4 (by decide) (by decide) hap.kept,h3,?_,h5,by omega,hap.kept.owns h7 (fun j hj hS => ?_)⟩
 ·have:=hap.owns
  simpa [ints] using this
 ·obtain ⟨cur,hc⟩:=owns_terms h4 j hS
  exact owns_apart h7 (by decide) hc hj
theorem OrdB.chApp {w w1 w2:World} {Bc:Nat} {rl:List (List Sym)} {rv mv cv cv2:Value} {xs:List Value} {met:List Nat} {ch:List Sym} {s:Sym} (h:OrdB w Bc rl rv xs met mv ch cv w1) (hap:Appended w1 Bc 133 3 cv (ch.length+1) (symsCells ch++symCells s) cv2 w2):OrdB w Bc rl rv xs met mv (ch++[s]) cv2 w2:=by
 obtain ⟨h1,h2,h3,h4,h5,h6,h7⟩:=h
 have hsz:=hap.kept.size
 refine ⟨h1.trans (hap.kept.below h1.size (fun j hj=>Nat.le_trans h5 (h7.lt j hj).1)),⟨hap.kept.owns h2.owns (fun j hj hS => ?_),fun i l hi => ?_⟩,h3,hap.kept.owns h4 (fun j hj hS => ?_),h5,by omega,?_⟩
 ·obtain ⟨cur,hc⟩:=owns_terms h7 j hS
  exact owns_apart h2.owns (by decide) hc hj
 ·obtain ⟨x,e1,e2⟩:=h2.all i l hi
  refine ⟨x,e1,hap.kept.owns e2 (fun j hj hS => ?_)⟩
  have:=h3 x (List.mem_of_getElem? e1) j hj
  have:=(h7.lt j hS).1
  omega
 ·obtain ⟨cur,hc⟩:=owns_terms h7 j hS
  exact owns_apart h4 (by decide) hc hj
 ·have:=hap.owns
  rw [symsCells_append,List.length_append]
  simpa [symsCells] using this
theorem OrdB.box {w w1 w2:World} {Bc M:Nat} {cs:Array Value} {fr:Nat × Nat} {rl:List (List Sym)} {rv mv cv:Value} {xs:List Value} {met:List Nat} {ch:List Sym} (h:OrdB w Bc rl rv xs met mv ch cv w1) (hM:w1.heap[M]?=some (.cells cs 133 fr)) (hB:Bc≤M) (hc:∀ j,cv.ownBlock=some j→j≠M) (hk:Kept (fun k=>k=M) w1 w2):OrdB w Bc rl rv xs met mv ch cv w2:=by
 obtain ⟨h1,h2,h3,h4,h5,h6,h7⟩:=h
 have hsz:=hk.size
 refine ⟨h1.trans (hk.below h1.size (fun j hj=>by omega)),⟨owns_box h2.owns hM (by decide) hk,fun i l hi => ?_⟩,h3,owns_box h4 hM (by decide) hk,h5,by omega,hk.owns h7 (fun j hj hS=>hc j hj hS)⟩
 obtain ⟨x,e1,e2⟩:=h2.all i l hi
 refine ⟨x,e1,hk.owns e2 (fun j hj hS => ?_)⟩
 have:=h3 x (List.mem_of_getElem? e1) j hj
 have hS:j=M:=hS
 omega
theorem TermsAt.words {w:World} {B:Nat} {v:Value} {ls:List (List Sym)} {vs:List Value} (h:TermsAt w B v ls vs):∀ x ∈ vs,∀ j,x.ownBlock=some j→j<w.heap.size:=fun x hx j hj=>by
 have hlen:vs.length=ls.length:=by have:=h.owns.1; omega
 obtain ⟨i,hi⟩:=List.mem_iff_getElem?.1 hx
 have hil:=(List.getElem?_eq_some_iff.1 hi).1
 obtain ⟨y,h3,h4⟩:=h.all i _ (List.getElem?_eq_getElem (by omega))
 rw [hi] at h3
 simp only [Option.some.injEq] at h3
 subst h3
 exact (h4.lt j hj).2
theorem meet_len (n:Nat) (met:List Nat):(meet n met).length≤met.length+1:=by unfold meet; split <;> simp
theorem canon1_met:∀ (l:List Sym) (met:List Nat),(canon1 l met).2.length≤met.length+l.length:=by
 intro l
 induction l with
 | nil=>intro met; simp [canon1]
 | cons s l ih =>
  intro met
  simp only [canon1]
  split
  ·have:=ih (meet s.num met); have:=meet_len s.num met; simp; omega
  ·have:=ih met; simp; omega
theorem canons_met:∀ (ts:List (List Sym)) (met:List Nat),(canons ts met).2.length≤met.length+ts.flatten.length:=by
 intro ts
 induction ts with
 | nil=>intro met; simp [canons]
 | cons t ts ih =>
  intro met
  simp only [canons,List.flatten_cons,List.length_append]
  have:=ih (canon1 t met).2
  have:=canon1_met t met
  omega
def OrdOut (ts:List (List Sym)) (w:World) (e:Ending) (w':World):Prop:=Ext w w'∧∃ x c,e = .returned (.slice x ts.length c)∧TermsIn w' (.slice x ts.length c) (canons ts []).1
set_option maxRecDepth 10000 in
set_option maxHeartbeats 4000000 in
theorem inOrder_any (w:World) (tv:Value) (ts:List (List Sym)) (h:TermsIn w tv ts) (hl:ts.length≤1000) (hf:ts.flatten.length≤8000) (hok:∀ t ∈ ts,TmOk t) :
  Calls Tryz.prog 99 #[tv] w (OrdOut ts w):=by
 obtain ⟨us,h⟩:=h
 obtain ⟨ta,tcap,rfl⟩:=owns_slice h.owns
 have H:=hide' h
 have Hok:=hide' hok
 have Hf:=hide' hf
 clear h hok hf
 go_enter Tryz.func99,Tryz.ntmps99
 go_wp2
 go_loopg [3,4,13] (ts.length+1) (fun gk rv mv iv wr=>∃ (k:Nat) (xs:List Value),iv = .int .i64 k∧k≤ts.length∧ts.length - k<gk∧OrdB w wr.heap.size (canons (ts.take k) []).1 rv xs (canons (ts.take k) []).2 mv [] (.slice none 0 0) wr)
 case atStart=>exact ⟨0,[],by go_num,Nat.zero_le _,by omega,Below.refl _ _,TermsAt.nil _ _,by simp,World.ownsRow_nil _ _ _ _,Nat.le_refl _,Nat.le_refl _,World.ownsRow_nil _ _ _ _⟩
 case round =>
  obtain ⟨k,xs,rfl,hk,hgk,hA⟩:=hrel
  have hmet:(canons (ts.take k) []).2.length≤8000:=by
   have h1:=canons_met (ts.take k) []
   have h2:=Hf.out
   have h3:(ts.take k).flatten.length≤ts.flatten.length:=by
    conv=>rhs; rw [← List.take_append_drop k ts,List.flatten_append,List.length_append]
    omega
   simp at h1
   simp at h2 h3
   omega
  have hlk:(canons (ts.take k) []).1.length=k:=by rw [canons_length]; simp; omega
  obtain ⟨rl,hrl⟩:∃ r,r=(canons (ts.take k) []).1:=⟨_,rfl⟩
  obtain ⟨met,hme⟩:∃ r,r=(canons (ts.take k) []).2:=⟨_,rfl⟩
  rw [← hrl,← hme] at hA
  rw [← hme] at hmet
  rw [← hrl] at hlk
  have hrow:=hA.row.owns
  rw [hlk] at hrow
  obtain ⟨ra,rcap,rfl⟩:=owns_slice hrow
  obtain ⟨ma,mcap,rfl⟩:=owns_slice hA.met
  have hsr:=hA.ext.size
  have HA:=hide' hA
  have Hrl:=hide' hrl
  have Hme:=hide' hme
  have Hlk:=hide' hlk
  clear hA hrow hrl hme hlk
  by_cases hlt:k<ts.length
  ·obtain ⟨t,ht⟩:∃ t,ts[k]?=some t:=⟨_,List.getElem?_eq_getElem hlt⟩
   obtain ⟨x,hx,hxo⟩:=H.out.all _ t ht
   obtain ⟨xa,xcap,rfl⟩:=owns_slice hxo
   obtain ⟨g,cap',cur,he,_,hgb,_⟩:=owns_some H.out.owns (by omega)
   simp only [Value.slice.injEq] at he
   obtain ⟨rfl,_,rfl⟩:=he
   have hgw:=lt_of_block hgb
   have hgr:g<wr.heap.size:=by omega
   have x0:wr.cell? ⟨g,k,none⟩=some (.slice xa t.length xcap):=(HA.out.ext.cell (p:=⟨g,k,none⟩) hgw).trans (owns_cell H.out.owns _ _ hx)
   obtain ⟨o1,o2,o3⟩:=Hok.out t (List.mem_of_getElem? ht)
   have Hxo:Hid (WordAt w (.slice xa t.length xcap) t):=hxo
   have Ht:=hide' ht
   have Ho3:=hide' o3
   have Hta:Hid (∀ (i:Nat) s,t[i]?=some s→s.name=[]→s.args=0):=fun i s hs=>by obtain ⟨j,hj⟩:=o1; exact (syms_wf hj hs).1
   have hm8:met.length+t.length≤9000:=by omega
   obtain ⟨wo,hwo⟩:∃ x,x=wr:=⟨_,rfl⟩
   subst hwo
   clear ht hx hxo hgb o1 o3
   go_wp2
   go_loopg [4,7,19] (t.length+1) (fun gk mv cv iv wr=>∃ (i:Nat),iv = .int .i64 i∧i≤t.length∧t.length - i<gk∧OrdB w wo.heap.size rl (.slice ra k rcap) xs (canon1 (t.take i) met).2 mv (canon1 (t.take i) met).1 cv wr)
   case atStart=>exact ⟨0,by go_num,Nat.zero_le _,by omega,HA.out⟩
   case round =>
    obtain ⟨i,rfl,hi,hgi,hB⟩:=hrel
    have hmi:(canon1 (t.take i) met).2.length≤9000:=by
     have:=canon1_met (t.take i) met
     simp at this
     omega
    have hci:(canon1 (t.take i) met).1.length=i:=by rw [canon1_length]; simp; omega
    obtain ⟨ch,hch⟩:∃ r,r=(canon1 (t.take i) met).1:=⟨_,rfl⟩
    obtain ⟨mt,hmt⟩:∃ r,r=(canon1 (t.take i) met).2:=⟨_,rfl⟩
    rw [← hch,← hmt] at hB
    rw [← hmt] at hmi
    rw [← hch] at hci
    have hcg:=hB.chg
    rw [hci] at hcg
    obtain ⟨ca,ccap,rfl⟩:=owns_slice hcg
    obtain ⟨na,ncap,rfl⟩:=owns_slice hB.met
    have hsi:=hB.ext.size
    have hb2:=hB.b2
    have HB:=hide' hB
    have Hch:=hide' hch
    have Hmt:=hide' hmt
    have Hci:=hide' hci
    clear hB hcg hch hmt hci x0
    by_cases hit:i<t.length
    ·obtain ⟨s,hs⟩:∃ s,t[i]?=some s:=⟨_,List.getElem?_eq_getElem hit⟩
     obtain ⟨g2,cap2,cur2,he2,_,hgb2,_⟩:=owns_some Hxo.out (by omega)
     simp only [Value.slice.injEq] at he2
     obtain ⟨rfl,_,rfl⟩:=he2
     have ho:=owns_same Hxo.out (fun j hj=>HB.out.ext.block j (Hxo.out.lt j hj).2)
     have hgw2:=lt_of_block hgb2
     have hgr2:g2<wr.heap.size:=by omega
     have e0:wr.cell? ⟨g2,i * 3,none⟩=some (.string ⟨s.name.toArray⟩):=owns_cell ho _ _ (by have:=symsCells_at t i s hs 0 (by omega); rw [Nat.add_zero] at this; rw [this]; rfl)
     have e1:wr.cell? ⟨g2,i * 3+1,none⟩=some (.int .i64 s.num):=owns_cell ho _ _ (by rw [symsCells_at t i s hs 1 (by omega)]; rfl)
     have e2:wr.cell? ⟨g2,i * 3+2,none⟩=some (.int .i64 s.args):=owns_cell ho _ _ (by rw [symsCells_at t i s hs 2 (by omega)]; rfl)
     have hsn:=Ho3.out s (List.mem_of_getElem? hs)
     have hnx:canon1 (t.take (i+1)) met=(if s.name=[] then (ch++[⟨[],mt.idxOf s.num,s.args⟩],meet s.num mt) else (ch++[s],mt)):=by
      rw [List.take_add_one,hs]
      simp only [Option.toList]
      rw [canon1_append,← Hch.out,← Hmt.out]
      simp only [canon1]
      split <;> rfl
     have Hnx:=hide' hnx
     clear hs ho hgb2 hnx
     cases hnm:s.name with
     | cons y ys =>
      rw [hnm] at e0
      have Hnx2:Hid (canon1 (t.take (i+1)) met=(ch++[s],mt)):=by show _=_; rw [Hnx.out,if_neg (by rw [hnm]; simp)]
      have Hs2:Hid (s=⟨y::ys,s.num,s.args⟩):=by show _=_; rw [← hnm]
      have hE:Ext wr (wr.alloc (.cells #[.string ⟨(y::ys).toArray⟩,.int .i64 s.num,.int .i64 s.args] 133)):=(Ext.of (by repeat' (first | with_reducible exact Kept.refl _ _ | with_reducible apply Kept.drew | with_reducible apply Kept.drewN | with_reducible apply Kept.alloc | with_reducible refine Kept.setCell ?_ ?_ _ | exact fun h=>absurd h (by simp <;> omega))))
      have HB1:=hide' (HB.out.on hE)
      have Hrow:Hid ((wr.alloc (.cells #[.string ⟨(y::ys).toArray⟩,.int .i64 s.num,.int .i64 s.args] 133)).ownsRow wo.heap.size 133 3 (.slice ca i ccap) i (symsCells ch)):=by have:=HB1.out.chg; rw [Hci.out] at this; exact this
      clear hnm hE
      go_wp2_with (at_builtin; go_loud (refine wpList_append1 (wr.alloc (.cells #[.string ⟨(y::ys).toArray⟩,.int .i64 s.num,.int .i64 s.args] 133)) rfl (.tmp 41) (.tmp 43) 105 rfl wo.heap.size 133 Tryz.infoSym Tryz.underlying105 rfl (by decide) (.slice ca i ccap) i (symsCells ch) rfl Hrow.out #[.string ⟨(y::ys).toArray⟩,.int .i64 s.num,.int .i64 s.args] (N:=wr.heap.size+1) rfl (by simp) rfl (sym_one _ _ _) ?_ ?_ ?_))
      ·omega
      ·simp; omega
      intro v2 w2 hap
      obtain ⟨a2,c2,rfl⟩:=owns_slice hap.owns
      have hB2:=HB1.out.chApp (s:=s) (cv2 := .slice a2 (i+1) c2) (w2:=w2) (by rw [Hci.out,Hs2.out]; simpa [symCells] using hap)
      have HB2:=hide' hB2
      clear hap hB2
      go_wp2
      go_roundg (t.length - i)
      case measure=>omega
      case rel=>exact ⟨i+1,by go_num,by omega,by omega,by rw [Hnx2.out]; exact HB2.out⟩
     | nil =>
      rw [hnm] at e0
      obtain ⟨P,hP⟩:∃ p,p=mt.idxOf s.num:=⟨_,rfl⟩
      have hPl:P≤mt.length:=by rw [hP]; exact List.idxOf_le_length
      have hE:∀ o,Ext wr (wr.alloc o):=fun o=>(Ext.of (by repeat' (first | with_reducible exact Kept.refl _ _ | with_reducible apply Kept.drew | with_reducible apply Kept.drewN | with_reducible apply Kept.alloc | with_reducible refine Kept.setCell ?_ ?_ _ | exact fun h=>absurd h (by simp <;> omega))))
      have HPl:=hide' (placeOf_any (wr.alloc (.cells #[.string ⟨#[]⟩,.int .i64 s.num,.int .i64 s.args] 133)) s.num (.slice na mt.length ncap) mt (owns_base (HB.out.on (hE _)).met (Nat.zero_le _)) (by omega) hsn)
      rw [← hP] at HPl
      have Hnx2:Hid (canon1 (t.take (i+1)) met=(ch++[⟨[],P,s.args⟩],meet s.num mt)):=by show _=_; rw [Hnx.out,if_pos hnm,← hP]
      have Hmeet:Hid (meet s.num mt=if P=mt.length then mt++[s.num] else mt):=by show _=_; unfold meet; rw [← hP]
      have HE:=hide' hE
      have HBm:=hide' (HB.out.on (hE (.cells #[.string ⟨#[]⟩,.int .i64 s.num,.int .i64 s.args] 133)))
      clear hnm hE hP
      go_wp2_with fail
      refine HPl.out.mono ?_
      rintro e w1 ⟨rfl,rfl⟩
      by_cases hnew:P=mt.length
      ·subst hnew
       have hz:((mt.length:Int) == (mt.length:Int))=true:=by simp
       have Hmrow:Hid ((wr.alloc (.cells #[.string ⟨#[]⟩,.int .i64 s.num,.int .i64 s.args] 133)).ownsRow w.heap.size 3 1 (.slice na mt.length ncap) mt.length (ints mt)):=HBm.out.met
       go_wp2_with (at_builtin; go_loud (refine wpList_append1 (wr.alloc (.cells #[.string ⟨#[]⟩,.int .i64 s.num,.int .i64 s.args] 133)) rfl (.tmp 34) (.tmp 37) 25 rfl w.heap.size 3 Tryz.infoInt Tryz.underlying25 rfl (by decide) (.slice na mt.length ncap) mt.length (ints mt) rfl Hmrow.out #[.int .i64 s.num] (N:=wr.heap.size+1) rfl (by simp) rfl (int_one _) ?_ ?_ ?_))
       ·omega
       ·simp; omega
       intro v2 w2 hap
       obtain ⟨a2,c2,rfl⟩:=owns_slice hap.owns
       have hB2:=HBm.out.metApp (n:=s.num) hap
       have hbx:w2.heap[wr.heap.size]?=some (.cells #[.string ⟨#[]⟩,.int .i64 s.num,.int .i64 s.args] 133 (0,0)):=(hap.kept.block _ (by simp) (owns_apart Hmrow.out (by decide) (heap_alloc_new wr _))).trans (heap_alloc_new wr _)
       have hK:Kept (fun k=>k=wr.heap.size) w2 (w2.setCell ⟨wr.heap.size,1,none⟩ (.int .i64 mt.length)):=(Kept.refl (only wr.heap.size) w2).put 1 _
       have hB3:=hB2.box hbx hb2 (fun j hj=>by have:=(HB.out.chg.lt j hj).2; omega) hK
       have y0:=cell_of_block hbx 0 _ rfl
       have y1:=cell_of_block hbx 1 _ rfl
       have y2:=cell_of_block hbx 2 _ rfl
       have yf:=fun i=>thawed_of_block hbx i
       have yl:=lt_of_block hbx
       have hsz2:=hap.kept.size
       simp at hsz2
       have HB3:=hide' hB3
       have Hrow:Hid ((w2.setCell ⟨wr.heap.size,1,none⟩ (.int .i64 mt.length)).ownsRow wo.heap.size 133 3 (.slice ca i ccap) i (symsCells ch)):=by have:=hB3.chg; rw [Hci.out] at this; exact this
       have Hme2:Hid (meet s.num mt=mt++[s.num]):=by show _=_; rw [Hmeet.out]; simp
       clear hap hB2 hbx hK hB3 e0 e1 e2
       go_wp2_with (at_builtin; go_loud (refine wpList_append1 (w2.setCell ⟨wr.heap.size,1,none⟩ (.int .i64 mt.length)) rfl (.tmp 41) (.tmp 43) 105 rfl wo.heap.size 133 Tryz.infoSym Tryz.underlying105 rfl (by decide) (.slice ca i ccap) i (symsCells ch) rfl Hrow.out #[.string ⟨#[]⟩,.int .i64 mt.length,.int .i64 s.args] (N:=w2.heap.size) rfl (by simp) rfl (sym_one _ _ _) ?_ ?_ ?_))
       ·omega
       ·simp; omega
       intro v4 w4 hap
       obtain ⟨a4,c4,rfl⟩:=owns_slice hap.owns
       have hB4:=HB3.out.chApp (s:=⟨[],mt.length,s.args⟩) (cv2 := .slice a4 (i+1) c4) (w2:=w4) (by rw [Hci.out]; simpa [symCells] using hap)
       have HB4:=hide' hB4
       clear hap hB4
       go_wp2
       go_roundg (t.length - i)
       case measure=>omega
       case rel=>exact ⟨i+1,by go_num,by omega,by omega,by rw [Hnx2.out,Hme2.out]; exact HB4.out⟩
      ·have hz:((P:Int) == (mt.length:Int))=false:=by rw [beq_eq_false_iff_ne]; omega
       have Hme2:Hid (meet s.num mt=mt):=by show _=_; rw [Hmeet.out,if_neg hnew]
       have HB3:=hide' (HB.out.on (HE.out (.cells #[.string ⟨#[]⟩,.int .i64 P,.int .i64 s.args] 133)))
       have Hrow:Hid ((wr.alloc (.cells #[.string ⟨#[]⟩,.int .i64 P,.int .i64 s.args] 133)).ownsRow wo.heap.size 133 3 (.slice ca i ccap) i (symsCells ch)):=by have:=HB3.out.chg; rw [Hci.out] at this; exact this
       clear hnew
       go_wp2_with (at_builtin; go_loud (refine wpList_append1 (wr.alloc (.cells #[.string ⟨#[]⟩,.int .i64 P,.int .i64 s.args] 133)) rfl (.tmp 41) (.tmp 43) 105 rfl wo.heap.size 133 Tryz.infoSym Tryz.underlying105 rfl (by decide) (.slice ca i ccap) i (symsCells ch) rfl Hrow.out #[.string ⟨#[]⟩,.int .i64 P,.int .i64 s.args] (N:=wr.heap.size+1) rfl (by simp) rfl (sym_one _ _ _) ?_ ?_ ?_))
       ·omega
       ·simp; omega
       intro v4 w4 hap
       obtain ⟨a4,c4,rfl⟩:=owns_slice hap.owns
       have hB4:=HB3.out.chApp (s:=⟨[],P,s.args⟩) (cv2 := .slice a4 (i+1) c4) (w2:=w4) (by rw [Hci.out]; simpa [symCells] using hap)
       have HB4:=hide' hB4
       clear hap hB4
       go_wp2
       go_roundg (t.length - i)
       case measure=>omega
       case rel=>exact ⟨i+1,by go_num,by omega,by omega,by rw [Hnx2.out,Hme2.out]; exact HB4.out⟩
    ·have hei:i=t.length:=by omega
     subst hei
     have Hrow:Hid (wr.ownsRow w.heap.size 105 1 (.slice ra k rcap) k xs):=by have:=HB.out.row.owns; rw [Hlk.out] at this; exact this
     go_wp2_with (at_builtin; go_loud (refine wpList_append1 wr rfl (.tmp 46) (.tmp 48) 85 rfl w.heap.size 105 Tryz.infoSyms Tryz.underlying85 rfl (by decide) (.slice ra k rcap) k xs rfl Hrow.out #[.slice ca t.length ccap] (N:=wr.heap.size) rfl (by simp) rfl (slice_one _ _ _) ?_ ?_ ?_))
     ·omega
     ·omega
     intro v2 w2 hap
     obtain ⟨a2,c2,rfl⟩:=owns_slice hap.owns
     have hfin:OrdB w w2.heap.size (canons (ts.take (k+1)) []).1 (.slice a2 (k+1) c2) (xs++[.slice ca t.length ccap]) (canons (ts.take (k+1)) []).2 (.slice na mt.length ncap) [] (.slice none 0 0) w2:=by
      have hch:=Hch.out
      have hmt:=Hmt.out
      rw [List.take_length] at hch hmt
      have hnx:canons (ts.take (k+1)) []=(rl++[ch],mt):=by
       rw [List.take_add_one,Ht.out]
       simp only [Option.toList]
       rw [canons_append,← Hrl.out,← Hme.out]
       simp only [canons]
       rw [hch,hmt]
      rw [hnx]
      obtain ⟨q1,q2,q3,q4,q5,q6,q7⟩:=HB.out
      have hsz:=hap.kept.size
      have hx:WordAt wr (.slice ca t.length ccap) ch:=owns_base q7 (Nat.zero_le _)
      have ht:TermsAt w2 w.heap.size (.slice a2 (k+1) c2) (rl++[ch]) (xs++[.slice ca t.length ccap]):=q2.snoc (by rw [Hlk.out]; exact hap) hx
      refine ⟨q1.trans (hap.kept.below q1.size (fun j hj=>(Hrow.out.lt j hj).1)),ht,ht.words,hap.kept.owns q4 (fun j hj hS => ?_),by omega,Nat.le_refl _,World.ownsRow_nil _ _ _ _⟩
      obtain ⟨cur,hc⟩:=owns_terms Hrow.out j hS
      exact owns_apart q4 (by decide) hc hj
     have Hfin:=hide' hfin
     clear hap hfin
     go_wp2
     go_roundg (ts.length - k)
     case measure=>omega
     case rel=>exact ⟨k+1,_,by go_num,by omega,by omega,Hfin.out⟩
  ·have hek:k=ts.length:=by omega
   subst hek
   go_wp2
   go_ret
   have hr:=Hrl.out
   rw [List.take_length] at hr
   obtain ⟨q1,q2,_⟩:=HA.out
   rw [hr] at q2
   exact ⟨q1,ra,rcap,rfl,q2.inn⟩
structure TxOk (ts:List (List Sym)):Prop where
 len:ts.length≤1000
 all:ts.flatten.length≤8000
 ok:∀ t ∈ ts,TmOk t
 sym:∀ t ∈ (canons ts []).1,SymOk t
 txt:∀ t ∈ (canons ts []).1,(atomC t []).length≤1000000
def textsOf (ts:List (List Sym)):List (List UInt8):=(canons ts []).1.map (fun t=>atomC t [])
def TextsOut (ts:List (List Sym)) (w:World) (e:Ending) (w':World):Prop:=Ext w w'∧∃ x c,e = .returned (.slice x ts.length c)∧w'.ownsRow 0 9 1 (.slice x ts.length c) ts.length (strs (textsOf ts))
set_option maxRecDepth 10000 in
set_option maxHeartbeats 2000000 in
theorem texts_any (w:World) (tv:Value) (ts:List (List Sym)) (h:TermsIn w tv ts) (ho:TxOk ts):Calls Tryz.prog 79 #[tv] w (TextsOut ts w):=by
 obtain ⟨ta,tcap,rfl⟩:=h.shape
 have HI:=hide' (inOrder_any w _ ts h ho.len ho.all ho.ok)
 have Ho:=hide' ho
 have hl:=ho.len
 have hcl:(canons ts []).1.length=ts.length:=canons_length _ _
 obtain ⟨C,hC⟩:∃ C,C=(canons ts []).1:=⟨_,rfl⟩
 have Htx:Hid (textsOf ts=C.map (fun t=>atomC t [])):=by show _=_; unfold textsOf; rw [hC]
 rw [← hC] at hcl
 have HC:=hide' hC
 have Hcl:=hide' hcl
 clear h ho hC hcl
 go_enter Tryz.func79,Tryz.ntmps79
 go_wp2_with fail
 refine HI.out.mono ?_
 rintro e w1 ⟨hE1,xa,xc,rfl,hT⟩
 rw [← HC.out] at hT
 obtain ⟨us,hT⟩:=hT
 have hz1:=hE1.size
 have HE1:=hide' hE1
 have HT:=hide' hT
 clear hE1 hT HI
 go_wp2
 go_loopg [3,9] (ts.length+1) (fun gk rv iv wr=>∃ (k:Nat),iv = .int .i64 k∧k≤ts.length∧ts.length - k<gk∧Ext w1 wr∧wr.ownsRow w1.heap.size 9 1 rv k (strs ((C.take k).map (fun t=>atomC t []))))
 case atStart=>exact ⟨0,by go_num,Nat.zero_le _,by omega,Below.refl _ _,World.ownsRow_nil _ _ _ _⟩
 case round =>
  obtain ⟨k,rfl,hk,hgk,hE,hown⟩:=hrel
  obtain ⟨ra,rcap,rfl⟩:=owns_slice hown
  have hsr:=hE.size
  have HE:=hide' hE
  have Hown:=hide' hown
  clear hE hown
  by_cases hlt:k<ts.length
  ·have hkC:k<C.length:=by rw [Hcl.out]; exact hlt
   obtain ⟨t,ht⟩:∃ t,C[k]?=some t:=⟨_,List.getElem?_eq_getElem hkC⟩
   obtain ⟨y,hy,hyo⟩:=HT.out.all _ t ht
   obtain ⟨ya,ycap,rfl⟩:=owns_slice hyo
   have hor:=HT.out.owns
   rw [Hcl.out] at hor
   obtain ⟨g,cap',cur,he,_,hgb,_⟩:=owns_some hor (by omega)
   simp only [Value.slice.injEq] at he
   obtain ⟨rfl,_,rfl⟩:=he
   have hgw:=lt_of_block hgb
   have hgr:g<wr.heap.size:=by omega
   have x0:wr.cell? ⟨g,k,none⟩=some (.slice ya t.length ycap):=(HE.out.cell (p:=⟨g,k,none⟩) hgw).trans (owns_cell hor _ _ hy)
   have htm:t ∈ (canons ts []).1:=by rw [← HC.out]; exact List.mem_of_getElem? ht
   have hso:=Ho.out.sym t htm
   have htx:=Ho.out.txt t htm
   have HA:=hide' (atomText_any wr 0 (.slice ya t.length ycap) t (WordAt.ext hyo HE.out) hso.1 hso.2 (by omega))
   have hnx:C.take (k+1)=C.take k++[t]:=by rw [List.take_add_one,ht]; rfl
   obtain ⟨A,hA⟩:∃ A,A=atomC t []:=⟨_,rfl⟩
   rw [← hA] at HA htx
   have HAA:=hide' hA
   have Hnx:=hide' hnx
   clear ht hy hyo hor hgb htm hso hnx hA
   go_wp2_with fail
   refine HA.out.mono ?_
   rintro e w2 ⟨rfl,hE2⟩
   have hz2:=hE2.size
   have HE2:Hid (Ext w1 w2):=HE.out.trans (hE2.mono hsr)
   have Hrow:Hid (w2.ownsRow w1.heap.size 9 1 (.slice ra k rcap) k (strs ((C.take k).map (fun t=>atomC t [])))):=owns_same Hown.out (fun j hj=>hE2.block j (Hown.out.lt j hj).2)
   clear hE2 x0
   go_wp2_with (at_builtin; go_loud (refine wpList_append1 w2 rfl (.tmp 13) (.tmp 16) 47 rfl w1.heap.size 9 Tryz.infoStr Tryz.underlying47 rfl (by decide) (.slice ra k rcap) k (strs ((C.take k).map (fun t=>atomC t []))) rfl Hrow.out #[.string ⟨A.toArray⟩] (N:=w2.heap.size) rfl (by simp) rfl (str_one _) ?_ ?_ ?_))
   ·omega
   ·omega
   intro v3 w3 hap
   obtain ⟨a3,c3,rfl⟩:=owns_slice hap.owns
   have hE3:Ext w1 w3:=HE2.out.trans (hap.kept.below (by omega) (fun j hj=>(Hrow.out.lt j hj).1))
   have hrow3:w3.ownsRow w1.heap.size 9 1 (.slice a3 (k+1) c3) (k+1) (strs ((C.take (k+1)).map (fun t=>atomC t []))):=by
    have:=hap.owns
    rw [Hnx.out,List.map_append]
    simp only [List.map_cons,List.map_nil,strs,List.map_append]
    rw [← HAA.out]
    rw [← List.map_take] at this
    exact this
   have HE3:=hide' hE3
   have Hrow3:=hide' hrow3
   clear hap hE3 hrow3
   go_wp2
   go_roundg (ts.length - k)
   case measure=>omega
   case rel=>exact ⟨k+1,by go_num,by omega,by omega,HE3.out,Hrow3.out⟩
  ·have hek:k=ts.length:=by omega
   subst hek
   go_wp2
   go_ret
   have hrow:=Hown.out
   rw [← Hcl.out,List.take_length] at hrow
   rw [← Htx.out,Hcl.out] at hrow
   exact ⟨HE1.out.trans (HE.out.mono hz1),ra,rcap,rfl,owns_base hrow (Nat.zero_le _)⟩
set_option maxRecDepth 10000 in
set_option maxHeartbeats 2000000 in
theorem answerText_any (w:World) (nv vv:Value) (names:Names) (ts:List (List Sym)) (hn:w.ownsRow 0 9 1 nv names.length (strs names)) (h:TermsIn w vv ts) (ho:TxOk ts) (hl:names.length=ts.length) (hL:(pairs [] names (canons ts []).1).length≤100000000) :
  Calls Tryz.prog 70 #[nv,vv] w fun e w'=>Ext w w'∧e = .returned (.string ⟨(if names=[] then [121,101,115] else pairs [] names (canons ts []).1).toArray⟩):=by
 obtain ⟨na,ncap,rfl⟩:=owns_slice hn
 obtain ⟨ta,tcap,rfl⟩:=h.shape
 by_cases h0:names=[]
 ·subst h0
  clear hn h ho hl hL
  go_enter Tryz.func70,Tryz.ntmps70
  go_wp2
  go_ret
  exact ⟨Below.refl _ _,by simp⟩
 ·have hpos:0<names.length:=List.length_pos_iff.2 h0
  rw [if_neg h0]
  have HI:=hide' (texts_any w _ ts h ho)
  have hcl:(canons ts []).1.length=ts.length:=canons_length _ _
  have hlen:=ho.len
  obtain ⟨C,hC⟩:∃ C,C=(canons ts []).1:=⟨_,rfl⟩
  have Htx:Hid (textsOf ts=C.map (fun t=>atomC t [])):=by show _=_; unfold textsOf; rw [hC]
  rw [← hC] at hcl hL ⊢
  obtain ⟨F,hF⟩:∃ F,F=pairs [] names C:=⟨_,rfl⟩
  rw [← hF] at hL ⊢
  have HF:=hide' hF
  have Hn:=hide' hn
  have Hcl:=hide' hcl
  have z1:((names.length:Int) == 0)=false:=by rw [beq_eq_false_iff_ne]; omega
  have Hl:=hide' hl
  obtain ⟨N,hN⟩:∃ N,N=names.length:=⟨_,rfl⟩
  rw [← hN] at z1 hpos ⊢
  have hNl:N≤1000:=by omega
  have htN:ts.length=N:=by omega
  rw [htN]
  have HN:=hide' hN
  have HtN:=hide' htN
  rw [htN] at HI
  clear hn h ho hC hF hcl hl h0 hN htN
  go_enter Tryz.func70,Tryz.ntmps70
  go_wp2_with fail
  refine HI.out.mono ?_
  rintro e w1 ⟨hE1,xa,xc,rfl,hT⟩
  rw [HtN.out] at hT ⊢
  rw [Htx.out] at hT
  have hz1:=hE1.size
  have HE1:=hide' hE1
  have HT:=hide' hT
  clear hE1 hT HI
  go_wp2
  go_loopg [5,14] (N+1) (fun gk tx iv wr=>∃ (k:Nat) (acc:List UInt8),iv = .int .i64 k∧k≤N∧N - k<gk∧tx = .string ⟨acc.toArray⟩∧acc++pairs (if k=0 then [] else [44]) (names.drop k) (C.drop k)=F∧wr=w1)
  case atStart=>exact ⟨0,[],by go_num,Nat.zero_le _,by omega,rfl,by rw [HF.out]; rfl,rfl⟩
  case round =>
   obtain ⟨k,acc,rfl,hk,hgk,rfl,hacc,rfl⟩:=hrel
   by_cases hlt:k<N
   ·have hkn:k<names.length:=by rw [← HN.out]; exact hlt
    have hkC:k<C.length:=by rw [Hcl.out,HtN.out]; exact hlt
    obtain ⟨x,hx⟩:∃ x,names[k]?=some x:=⟨_,List.getElem?_eq_getElem hkn⟩
    obtain ⟨t,ht⟩:∃ t,C[k]?=some t:=⟨_,List.getElem?_eq_getElem hkC⟩
    have hdx:names.drop k=x::names.drop (k+1):=by rw [List.drop_eq_getElem_cons hkn,(List.getElem?_eq_some_iff.1 hx).2]
    have hdt:C.drop k=t::C.drop (k+1):=by rw [List.drop_eq_getElem_cons hkC,(List.getElem?_eq_some_iff.1 ht).2]
    rw [hdx,hdt,pairs] at hacc
    have hor:w.ownsRow 0 9 1 (.slice na N ncap) N (strs names):=by have:=Hn.out; rw [← HN.out] at this; exact this
    obtain ⟨g,cap',cur,he,_,hgb,_⟩:=owns_some hor (by omega)
    simp only [Value.slice.injEq] at he
    obtain ⟨rfl,_,rfl⟩:=he
    have hgw:=lt_of_block hgb
    have hgr:g<wr.heap.size:=by omega
    have x0:wr.cell? ⟨g,k,none⟩=some (.string ⟨x.toArray⟩):=(HE1.out.cell (p:=⟨g,k,none⟩) hgw).trans (owns_cell hor _ _ (by simp [strs,hx]))
    obtain ⟨g2,cap2,cur2,he2,_,hgb2,_⟩:=owns_some HT.out (by omega)
    simp only [Value.slice.injEq] at he2
    obtain ⟨rfl,_,rfl⟩:=he2
    have hgr2:=lt_of_block hgb2
    obtain ⟨A,hA⟩:∃ A,A=atomC t []:=⟨_,rfl⟩
    have y0:wr.cell? ⟨g2,k,none⟩=some (.string ⟨A.toArray⟩):=owns_cell HT.out _ _ (by simp [strs,ht,hA])
    rw [← hA] at hacc
    have hlen2:=cat_len hacc
    simp only [List.length_append,List.length_cons] at hlen2
    have Hacc:=hide' hacc
    have hkN:¬ ((N:Int)≤(k:Int)):=by omega
    clear hacc hdx hdt hx ht hor hgb hgb2 hA
    by_cases hk0:k=0
    ·subst hk0
     have Hacc2:Hid (acc++(x++[61]++A)++pairs [44] (names.drop (0+1)) (C.drop (0+1))=F):=by show _=_; rw [← Hacc.out]; simp
     simp only [if_pos,List.length_nil] at hlen2
     go_wp2
     go_roundg (N - 0)
     case measure=>omega
     case rel =>
      refine ⟨0+1,acc++(x++[61]++A),by go_num,by omega,by omega,?_,Hacc2.out,rfl⟩
      show Value.string (_++(_++(⟨[61].toArray⟩:ByteArray)++_))=_
      rw [str_cat,str_cat,str_cat]
    ·have Hacc2:Hid (acc++[44]++(x++[61]++A)++pairs [44] (names.drop (k+1)) (C.drop (k+1))=F):=by show _=_; rw [← Hacc.out,if_neg hk0]; simp
     rw [if_neg hk0] at hlen2
     simp only [List.length_cons,List.length_nil] at hlen2
     have hk1:(0:Int)<(k:Int):=by omega
     go_wp2
     go_roundg (N - k)
     case measure=>omega
     case rel =>
      refine ⟨k+1,acc++[44]++(x++[61]++A),by go_num,by omega,by omega,?_,by rw [if_neg (by omega)]; exact Hacc2.out,rfl⟩
      show Value.string (_++(⟨[44].toArray⟩:ByteArray)++(_++(⟨[61].toArray⟩:ByteArray)++_))=_
      rw [str_cat,str_cat,str_cat,str_cat]
   ·have hek:k=N:=by omega
    subst hek
    have Hacc:Hid (acc=F):=by
     show _=_
     rw [List.drop_eq_nil_of_le (by rw [← HN.out]; exact Nat.le_refl _)] at hacc
     simpa [pairs] using hacc
    clear hacc
    go_wp2
    go_ret
    rw [← Hacc.out]
    exact ⟨HE1.out,rfl⟩
structure HeldC (p q x:ByteArray) (a:List (List Sym) × Names) (ks:List Nat) (n m:ND):Prop where
 ask:askOf q=some a
 held:heldN p q x=(a.2,m,0,0)
 ok:NOk n
 nm:NNm n
 same:Same n m
 fol:∃ cs,progOf p=some cs∧followN cs (topN a) ks 0=(m,0,0)
def zeroProof:Value := .agg #[.slice none 0 0,.slice none 0 0,.slice none 0 0,.slice none 0 0,.int .i64 0,.slice none 0 0,.slice none 0 0]
def CheckOut (p q x:ByteArray) (w:World) (e:Ending) (w':World):Prop:=Ext w w' ∧
 (((heldN p q x).2.2.1≠0∧e = .returned (.tuple #[zeroProof,.agg #[.int .i64 (heldN p q x).2.2.1,.int .i64 (heldN p q x).2.2.2]])) ∨
  (∃ a ks n m,HeldC p q x a ks n m∧∃ n1 nc g1 g2 g3 v1 v2 v3 r1 r2 r3,∃ uu:Nat,∃ k1 kc d1 dc,e = .returned (.tuple #[.agg #[.slice n1 a.2.length nc,.slice g1 g2 g3,.slice v1 v2 v3,.slice r1 r2 r3,.int .i64 uu,.slice k1 ks.length kc,.slice d1 (m.done.map (·.2)).length dc],.agg #[.int .i64 0,.int .i64 0]]) ∧
   NodeIn w' (.slice g1 g2 g3) (.slice v1 v2 v3) (.slice r1 r2 r3) n∧w'.ownsRow 0 9 1 (.slice n1 a.2.length nc) a.2.length (strs a.2)∧w'.ownsRow 0 3 1 (.slice k1 ks.length kc) ks.length (ints ks)∧w'.ownsRow 0 3 1 (.slice d1 (m.done.map (·.2)).length dc) (m.done.map (·.2)).length (ints (m.done.map (·.2)))))
set_option maxRecDepth 10000 in
set_option maxHeartbeats 4000000 in
theorem check_code (p q x:ByteArray) (w:World) (hp:p.size≤maxLen) (hq:q.size≤maxLen) (hx:x.size≤maxLen):Calls Tryz.prog 42 #[.string p,.string q,.string x] w (CheckOut p q x w):=by
 have HBo:=hide' (fun u=>both_code p q u hp hq)
 have HNu:=hide' (fun u=>nums_any x u hx)
 clear hp hq hx
 obtain ⟨W,hW⟩:∃ W,W=(w.alloc (.cells #[.slice none 0 0,.slice none 0 0,.slice none 0 0,.slice none 0 0,.int .i64 0,.slice none 0 0,.slice none 0 0] 89)).alloc (.cells #[.int .i64 0,.int .i64 0] 91):=⟨_,rfl⟩
 have hE0:Ext w W:=by rw [hW]; exact (Ext.of (by repeat' (first | with_reducible exact Kept.refl _ _ | with_reducible apply Kept.drew | with_reducible apply Kept.drewN | with_reducible apply Kept.alloc | with_reducible refine Kept.setCell ?_ ?_ _ | exact fun h=>absurd h (by simp <;> omega))))
 have hWs:W.heap.size=w.heap.size+2:=by rw [hW]; simp
 have hb0:W.heap[w.heap.size]?=some (.cells #[.slice none 0 0,.slice none 0 0,.slice none 0 0,.slice none 0 0,.int .i64 0,.slice none 0 0,.slice none 0 0] 89 (0,0)):=by rw [hW]; exact block_alloc (heap_alloc_new w _) _
 have hb1:W.heap[w.heap.size+1]?=some (.cells #[.int .i64 0,.int .i64 0] 91 (0,0)):=by rw [hW]; exact block_at (by simp) _
 have HB:Hid (∀ y,Ext W y→y.cell? ⟨w.heap.size,0,none⟩=some (.slice none 0 0)∧y.cell? ⟨w.heap.size,1,none⟩=some (.slice none 0 0)∧y.cell? ⟨w.heap.size,2,none⟩=some (.slice none 0 0)∧y.cell? ⟨w.heap.size,3,none⟩=some (.slice none 0 0)∧y.cell? ⟨w.heap.size,4,none⟩=some (.int .i64 0)∧y.cell? ⟨w.heap.size,5,none⟩=some (.slice none 0 0)∧y.cell? ⟨w.heap.size,6,none⟩=some (.slice none 0 0)∧(∀ i,y.frozen? ⟨w.heap.size,i,none⟩=false) ∧
   y.cell? ⟨w.heap.size+1,0,none⟩=some (.int .i64 0)∧y.cell? ⟨w.heap.size+1,1,none⟩=some (.int .i64 0)∧(∀ i,y.frozen? ⟨w.heap.size+1,i,none⟩=false)∧w.heap.size<y.heap.size∧w.heap.size+1<y.heap.size):=fun y hE=>by
  have e0:=(hE.block _ (lt_of_block hb0)).trans hb0
  have e1:=(hE.block _ (lt_of_block hb1)).trans hb1
  exact ⟨cell_of_block e0 0 _ rfl,cell_of_block e0 1 _ rfl,cell_of_block e0 2 _ rfl,cell_of_block e0 3 _ rfl,cell_of_block e0 4 _ rfl,cell_of_block e0 5 _ rfl,cell_of_block e0 6 _ rfl,fun i=>thawed_of_block e0 i,cell_of_block e1 0 _ rfl,cell_of_block e1 1 _ rfl,fun i=>thawed_of_block e1 i,lt_of_block e0,lt_of_block e1⟩
 have Hb0:=hide' hb0
 have Hb1:=hide' hb1
 have HE0:=hide' hE0
 clear hb0 hb1 hE0
 go_enter Tryz.func42,Tryz.ntmps42
 go_wp2_with fail
 rw [← hW]
 have HW:=hide' hW
 clear hW
 refine (HBo.out W).mono ?_
 rintro e w1 ⟨hE1,hout⟩
 obtain ⟨p0,p1,p2,p3,p4,p5,p6,pf,f0,f1,ff,pl,fl⟩:=HB.out w1 hE1
 have hz1:=hE1.size
 have hEw1:Ext w w1:=HE0.out.trans (hE1.mono (by omega))
 have HE1:=hide' hE1
 have HEw1:=hide' hEw1
 clear hE1 hEw1
 rcases hout with ⟨hno,rfl⟩ | ⟨⟨cs,hcs⟩,hno,rfl⟩ | ⟨cs,a,l1,lc,xs,h1,h2,h3,b1,bc,n1,nc,hcs,hask,rfl,hP,hA,hN⟩
 ·have Hh:Hid ((heldN p q x).2.2=(4,0)):=by show _=_; simp [heldN,hno]
  clear hno
  go_wp2
  refine bodyPost_ret (v := .tuple #[zeroProof,.agg #[.int .i64 4,.int .i64 0]]) (by simp [results,Tryz.results42,go_sem,zeroProof,p0,p1,p2,p3,p4,p5,p6,pf,f0,f1,ff,pl,fl]) rfl ?_
  exact ⟨HEw1.out.trans (Kept.below (S:=fun i=>w.heap.size≤i) (by repeat' (first | with_reducible exact Kept.refl _ _ | with_reducible apply Kept.drew | with_reducible apply Kept.drewN | with_reducible apply Kept.alloc | with_reducible refine Kept.setCell ?_ ?_ _ | (intro _; simp only; omega))) (by omega) (fun i e=>e)),Or.inl (by rw [Hh.out]; exact ⟨by simp,rfl⟩)⟩
 ·have Hh:Hid ((heldN p q x).2.2=(5,0)):=by show _=_; simp [heldN,hcs,hno]
  clear hno hcs
  go_wp2
  refine bodyPost_ret (v := .tuple #[zeroProof,.agg #[.int .i64 5,.int .i64 0]]) (by simp [results,Tryz.results42,go_sem,zeroProof,p0,p1,p2,p3,p4,p5,p6,pf,f0,f1,ff,pl,fl]) rfl ?_
  exact ⟨HEw1.out.trans (Kept.below (S:=fun i=>w.heap.size≤i) (by repeat' (first | with_reducible exact Kept.refl _ _ | with_reducible apply Kept.drew | with_reducible apply Kept.drewN | with_reducible apply Kept.alloc | with_reducible refine Kept.setCell ?_ ?_ _ | (intro _; simp only; omega))) (by omega) (fun i e=>e)),Or.inl (by rw [Hh.out]; exact ⟨by simp,rfl⟩)⟩
 ·obtain ⟨_,_,_,hNO,hNN,hal,_,han,_⟩:=ask_parsed hask
  obtain ⟨_,_,_,hCO,hcl⟩:=prog_parsed hcs
  have Hhe:Hid (heldN p q x=if 400<x.size then ([],⟨[],[],[],[],0⟩,1,0) else match numbersL x with
   | (none,at')=>([],⟨[],[],[],[],0⟩,6,at')
   | (some ks,_)=>(a.2,followN cs (topN a) ks 0)):=by show _=_; unfold heldN; rw [hcs,hask]; rfl
  have HP:=hide' hP
  have HA:=hide' hA
  have HN:=hide' hN
  have HNO:=hide' hNO
  have HNN:=hide' hNN
  have HCO:Hid (∀ c ∈ cs,COk c∧CNm c):=hCO
  have Hask:=hide' hask
  have Hcs:=hide' hcs
  clear hP hA hN hNO hNN hCO hask hcs
  go_wp2_with fail
  refine (HNu.out _).mono ?_
  rintro e w2 ⟨hE2,hout⟩
  have hz2:=hE2.size
  have hz2:w1.heap.size+1≤w2.heap.size:=by simpa using hz2
  have hE12:Ext w1 w2:=(Below.refl _ w1 |>.alloc (Nat.le_refl _) _).trans (hE2.mono (by simp))
  have hcb:w2.heap[w1.heap.size]?=some (.cells #[.slice h1 h2 h3,.slice b1 a.1.length bc,.slice n1 a.2.length nc] 107 (0,0)):=(hE2.block _ (by simp)).trans (heap_alloc_new w1 _)
  have hEw2:Ext w w2:=HEw1.out.trans (hE12.mono (by omega))
  obtain ⟨p0,p1,p2,p3,p4,p5,p6,pf,f0,f1,ff,pl,fl⟩:=HB.out w2 (HE1.out.trans (hE12.mono (by omega)))
  have q0:=cell_of_block hcb 0 _ rfl
  have q1:=cell_of_block hcb 1 _ rfl
  have q2:=cell_of_block hcb 2 _ rfl
  have ql:=lt_of_block hcb
  have HE12:=hide' hE12
  have HEw2:=hide' hEw2
  clear hE2 hE12 hEw2 hcb
  rcases hout with ⟨hbig,rfl⟩ | ⟨hsm,⟨ks,ka,kc,hnum,rfl,hks,hkl,hk9⟩ | ⟨pp,hnum,rfl⟩⟩
  ·have Hh:Hid ((heldN p q x).2.2=(1,0)):=by show _=_; rw [Hhe.out,if_pos hbig]
   clear hbig
   go_wp2_with fail
   go_region
   all_goals
    go_wp2
    refine bodyPost_ret (v := .tuple #[zeroProof,.agg #[.int .i64 1,.int .i64 0]]) (by simp [results,Tryz.results42,go_sem,zeroProof,p0,p1,p2,p3,p4,p5,p6,pf,f0,f1,ff,pl,fl]) rfl ?_
    exact ⟨HEw2.out.trans (Kept.below (S:=fun i=>w.heap.size≤i) (by repeat' (first | with_reducible exact Kept.refl _ _ | with_reducible apply Kept.drew | with_reducible apply Kept.drewN | with_reducible apply Kept.alloc | with_reducible refine Kept.setCell ?_ ?_ _ | (intro _; simp only; omega))) (by omega) (fun i e=>e)),Or.inl (by rw [Hh.out]; exact ⟨by simp,rfl⟩)⟩
  ·have Hh0:Hid (heldN p q x=(a.2,followN cs (topN a) ks 0)):=by show _=_; rw [Hhe.out,if_neg (by omega),hnum]
   have hP2:=HP.out.ext HE12.out
   have hA2:=HA.out.ext HE12.out
   have hN2:=owns_same HN.out (fun j hj=>HE12.out.block j (HN.out.lt j hj).2)
   have HFo:Hid (∀ o,Calls Tryz.prog 68 #[.slice l1 cs.length lc,.agg #[.slice h1 h2 h3,.slice b1 a.1.length bc,.slice n1 a.2.length nc],.slice ka ks.length kc] (w2.alloc o) (CFollowOut cs a ks (w2.alloc o))):=fun o=>by
    have hE:Ext w2 (w2.alloc o):=(Ext.of (by repeat' (first | with_reducible exact Kept.refl _ _ | with_reducible apply Kept.drew | with_reducible apply Kept.drewN | with_reducible apply Kept.alloc | with_reducible refine Kept.setCell ?_ ?_ _ | exact fun h=>absurd h (by simp <;> omega))))
    exact follow_code _ _ _ _ _ _ cs xs a ks (hP2.ext hE) ⟨_,_,_,rfl⟩ (hA2.ext hE) (owns_same hN2 (fun j hj=>hE.block j (hN2.lt j hj).2)) (owns_same hks (fun j hj=>hE.block j (hks.lt j hj).2)) HCO.out hcl HNO.out HNN.out hal han hkl hk9
   have HDp:Hid ((followN cs (topN a) ks 0).2=(0,0)→∀ y,Ext w2 y→Calls Tryz.prog 69 #[.slice l1 cs.length lc,.agg #[.slice h1 h2 h3,.slice b1 a.1.length bc,.slice n1 a.2.length nc],.slice ka ks.length kc] y (DepOut ((followN cs (topN a) ks 0).1.done.map (·.2)) y)):=fun hf y hE =>
    depthsOf_any y _ _ _ _ _ cs xs a ks (hP2.ext hE) ⟨_,_,_,rfl⟩ (hA2.ext hE) (owns_same hN2 (fun j hj=>hE.block j (hN2.lt j hj).2)) (owns_same hks (fun j hj=>hE.block j (hks.lt j hj).2)) (fun c hc=>(HCO.out c hc).1) hcl hal hkl hk9 hf
   have HN2:=hide' hN2
   have Hks:=hide' hks
   clear hP2 hA2 hN2 hks hk9 hnum
   go_wp2_with fail
   refine (HFo.out _).mono ?_
   rintro e w3 ⟨hE3,hout⟩
   have hz3:=hE3.size
   have hz3:w2.heap.size+1≤w3.heap.size:=by simpa using hz3
   have hE23:Ext w2 w3:=(Below.refl _ w2 |>.alloc (Nat.le_refl _) _).trans (hE3.mono (by simp))
   have hfb:w3.heap[w2.heap.size]?=some (.cells #[.int .i64 0,.int .i64 0] 91 (0,0)):=(hE3.block _ (by simp)).trans (heap_alloc_new w2 _)
   have hEw3:Ext w w3:=HEw2.out.trans (hE23.mono (by omega))
   obtain ⟨p0,p1,p2,p3,p4,p5,p6,pf,f0,f1,ff,pl,fl⟩:=HB.out w3 (HE1.out.trans ((HE12.out.mono (by omega)).trans (hE23.mono (by omega))))
   have t0:=cell_of_block hfb 0 _ rfl
   have t1:=cell_of_block hfb 1 _ rfl
   have tf:=fun i=>thawed_of_block hfb i
   have tl:=lt_of_block hfb
   have q0:w3.cell? ⟨w1.heap.size,0,none⟩=some (.slice h1 h2 h3):=(hE23.cell (p:=⟨w1.heap.size,0,none⟩) ql).trans q0
   have q1:w3.cell? ⟨w1.heap.size,1,none⟩=some (.slice b1 a.1.length bc):=(hE23.cell (p:=⟨w1.heap.size,1,none⟩) ql).trans q1
   have q2:w3.cell? ⟨w1.heap.size,2,none⟩=some (.slice n1 a.2.length nc):=(hE23.cell (p:=⟨w1.heap.size,2,none⟩) ql).trans q2
   have ql3:w1.heap.size<w3.heap.size:=by omega
   have HE23:=hide' hE23
   have HEw3:=hide' hEw3
   have Hfb:=hide' hfb
   clear hE3 hE23 hEw3 hfb HFo
   rcases hout with ⟨hne,rfl⟩ | ⟨hz,g1,g2,g3,v1,v2,v3,r1,r2,r3,uu,n,rfl,hNd,hok,hnm,hsame⟩
   ·obtain ⟨er,her⟩:∃ r,r=(followN cs (topN a) ks 0).2.1:=⟨_,rfl⟩
    obtain ⟨pe,hpe⟩:∃ r,r=(followN cs (topN a) ks 0).2.2:=⟨_,rfl⟩
    rw [← her,← hpe]
    rw [← her] at hne
    have Hh:Hid ((heldN p q x).2.2.1=er∧(heldN p q x).2.2.2=pe):=by show _∧_; rw [Hh0.out]; exact ⟨her.symm,hpe.symm⟩
    have hb:((er:Int) != 0)=true:=by rw [bne_iff_ne]; omega
    have Hne:=hide' hne
    clear her hpe hne
    go_wp2_with fail
    go_region
    all_goals
     go_wp2
     refine bodyPost_ret (v := .tuple #[zeroProof,.agg #[.int .i64 er,.int .i64 pe]]) (by simp [results,Tryz.results42,go_sem,zeroProof,p0,p1,p2,p3,p4,p5,p6,pf,f0,f1,ff,pl,fl]) rfl ?_
     exact ⟨HEw3.out.trans (Kept.below (S:=fun i=>w.heap.size≤i) (by repeat' (first | with_reducible exact Kept.refl _ _ | with_reducible apply Kept.drew | with_reducible apply Kept.drewN | with_reducible apply Kept.alloc | with_reducible refine Kept.setCell ?_ ?_ _ | (intro _; simp only; omega))) (by omega) (fun i e=>e)),Or.inl (by rw [Hh.out.1,Hh.out.2]; exact ⟨Hne.out,rfl⟩)⟩
   ·have HNd:=hide' hNd
    have Hok:=hide' hok
    have Hnm:=hide' hnm
    have Hsame:=hide' hsame
    have Hz:=hide' hz
    have HDp2:=hide' (HDp.out hz)
    clear hNd hok hnm hsame hz HDp
    go_wp2_with fail
    refine (HDp2.out _ (HE23.out.trans (Kept.below (S:=fun i=>w2.heap.size≤i) (by repeat' (first | with_reducible exact Kept.refl _ _ | with_reducible apply Kept.drew | with_reducible apply Kept.drewN | with_reducible apply Kept.alloc | with_reducible refine Kept.setCell ?_ ?_ _ | (intro _; simp only; omega))) (by omega) (fun i e=>e)))).mono ?_
    rintro e w4 ⟨hE4,da,dc,rfl,hds⟩
    obtain ⟨M,hM⟩:∃ M,M=(followN cs (topN a) ks 0).1:=⟨_,rfl⟩
    rw [← hM] at hds ⊢
    have hfo:followN cs (topN a) ks 0=(M,0,0):=by rw [hM,← Hz.out]
    have hsm2:Same n M:=by rw [hM]; exact Hsame.out
    have hz4:=hE4.size
    simp at hz4
    have hE24:Ext w2 w4:=(HE23.out.trans (Kept.below (S:=fun i=>w2.heap.size≤i) (by repeat' (first | with_reducible exact Kept.refl _ _ | with_reducible apply Kept.drew | with_reducible apply Kept.drewN | with_reducible apply Kept.alloc | with_reducible refine Kept.setCell ?_ ?_ _ | (intro _; simp only; omega))) (by omega) (fun i e=>e))).trans (hE4.mono (by simp; omega))
    have hK3:Kept (fun j=>j=w2.heap.size) w3 ((w3.setCell ⟨w2.heap.size,0,none⟩ (.int .i64 0)).setCell ⟨w2.heap.size,1,none⟩ (.int .i64 0)):=((Kept.refl (only w2.heap.size) w3).put 0 _).put 1 _
    have hT4:∀ {v:Value} {ls:List (List Sym)},TermsIn w3 v ls→TermsIn w4 v ls:=fun {v ls} h=>((h.box Hfb.out (by decide) (by decide) hK3).ext ((Ext.of (by repeat' (first | with_reducible exact Kept.refl _ _ | with_reducible apply Kept.drew | with_reducible apply Kept.drewN | with_reducible apply Kept.alloc | with_reducible refine Kept.setCell ?_ ?_ _ | exact fun h=>absurd h (by simp <;> omega)))):Ext _ (((w3.setCell ⟨w2.heap.size,0,none⟩ (.int .i64 0)).setCell ⟨w2.heap.size,1,none⟩ (.int .i64 0)).alloc (.cells #[.slice g1 g2 g3,.slice v1 v2 v3,.slice r1 r2 r3,.int .i64 uu] 87)))).ext hE4
    have hnb:w4.heap[w3.heap.size]?=some (.cells #[.slice g1 g2 g3,.slice v1 v2 v3,.slice r1 r2 r3,.int .i64 uu] 87 (0,0)):=(hE4.block _ (by simp)).trans (block_at (by simp) _)
    have hEw4:Ext w w4:=HEw2.out.trans (hE24.mono (by omega))
    have hEW4:Ext W w4:=HE1.out.trans ((HE12.out.mono (by omega)).trans (hE24.mono (by omega)))
    obtain ⟨p0,p1,p2,p3,p4,p5,p6,pf,f0,f1,ff,pl,fl⟩:=HB.out w4 hEW4
    have hpb:=(hEW4.block _ (lt_of_block Hb0.out)).trans Hb0.out
    have hfb2:=(hEW4.block _ (lt_of_block Hb1.out)).trans Hb1.out
    have u0:=cell_of_block hnb 0 _ rfl
    have u1:=cell_of_block hnb 1 _ rfl
    have u2:=cell_of_block hnb 2 _ rfl
    have u3:=cell_of_block hnb 3 _ rfl
    have ul:=lt_of_block hnb
    have q2:w4.cell? ⟨w1.heap.size,2,none⟩=some (.slice n1 a.2.length nc):=(hE24.cell (p:=⟨w1.heap.size,2,none⟩) ql).trans ((HE23.out.cell (p:=⟨w1.heap.size,2,none⟩) ql).symm.trans q2)
    have ql4:w1.heap.size<w4.heap.size:=by omega
    have hN4:=owns_same HN2.out (fun j hj=>hE24.block j (HN2.out.lt j hj).2)
    have hk4:=owns_same Hks.out (fun j hj=>hE24.block j (Hks.out.lt j hj).2)
    obtain ⟨D,hDe⟩:∃ D,D=M.done.map (·.2):=⟨_,rfl⟩
    rw [← hDe] at hds ⊢
    have hKp:∀ x0 x1 x2 x3 x4 x5 x6,Kept (fun j=>j=w.heap.size) w4 (((((((w4.setCell ⟨w.heap.size,0,none⟩ x0).setCell ⟨w.heap.size,1,none⟩ x1).setCell ⟨w.heap.size,2,none⟩ x2).setCell ⟨w.heap.size,3,none⟩ x3).setCell ⟨w.heap.size,4,none⟩ x4).setCell ⟨w.heap.size,5,none⟩ x5).setCell ⟨w.heap.size,6,none⟩ x6):=fun x0 x1 x2 x3 x4 x5 x6=>(((((((Kept.refl (only w.heap.size) w4).put 0 _).put 1 _).put 2 _).put 3 _).put 4 _).put 5 _).put 6 _
    have hKf:∀ (y:World) z0 z1,Kept (fun j=>j=w.heap.size+1) y ((y.setCell ⟨w.heap.size+1,0,none⟩ z0).setCell ⟨w.heap.size+1,1,none⟩ z1):=fun y z0 z1=>((Kept.refl (only (w.heap.size+1)) y).put 0 _).put 1 _
    have hout:∀ x0 x1 x2 x3 x4 x5 x6 z0 z1,CheckOut p q x w (.returned (.tuple #[.agg #[.slice n1 a.2.length nc,.slice g1 g2 g3,.slice v1 v2 v3,.slice r1 r2 r3,.int .i64 uu,.slice ka ks.length kc,.slice da D.length dc],.agg #[.int .i64 0,.int .i64 0]])) (((((((((w4.setCell ⟨w.heap.size,0,none⟩ x0).setCell ⟨w.heap.size,1,none⟩ x1).setCell ⟨w.heap.size,2,none⟩ x2).setCell ⟨w.heap.size,3,none⟩ x3).setCell ⟨w.heap.size,4,none⟩ x4).setCell ⟨w.heap.size,5,none⟩ x5).setCell ⟨w.heap.size,6,none⟩ x6).setCell ⟨w.heap.size+1,0,none⟩ z0).setCell ⟨w.heap.size+1,1,none⟩ z1):=fun x0 x1 x2 x3 x4 x5 x6 z0 z1=>by
     have hf5:=((hKp x0 x1 x2 x3 x4 x5 x6).block _ fl (by simp)).trans hfb2
     have hT:∀ {v:Value} {ls:List (List Sym)},TermsIn w3 v ls→TermsIn (((((((((w4.setCell ⟨w.heap.size,0,none⟩ x0).setCell ⟨w.heap.size,1,none⟩ x1).setCell ⟨w.heap.size,2,none⟩ x2).setCell ⟨w.heap.size,3,none⟩ x3).setCell ⟨w.heap.size,4,none⟩ x4).setCell ⟨w.heap.size,5,none⟩ x5).setCell ⟨w.heap.size,6,none⟩ x6).setCell ⟨w.heap.size+1,0,none⟩ z0).setCell ⟨w.heap.size+1,1,none⟩ z1) v ls:=fun {v ls} h =>
      ((hT4 h).box hpb (by decide) (by decide) (hKp x0 x1 x2 x3 x4 x5 x6)).box hf5 (by decide) (by decide) (hKf _ z0 z1)
     refine ⟨hEw4.trans (Kept.below (S:=fun i=>w.heap.size≤i) (by repeat' (first | with_reducible exact Kept.refl _ _ | with_reducible apply Kept.drew | with_reducible apply Kept.drewN | with_reducible apply Kept.alloc | with_reducible refine Kept.setCell ?_ ?_ _ | (intro _; simp only; omega))) (by omega) (fun i e=>e)),Or.inr ⟨a,ks,n,M,⟨Hask.out,by rw [Hh0.out,hfo],Hok.out,Hnm.out,hsm2,cs,Hcs.out,hfo⟩,n1,nc,g1,g2,g3,v1,v2,v3,r1,r2,r3,uu,ka,kc,da,dc,by rw [← hDe],⟨hT HNd.out.goals,hT HNd.out.vals,hT HNd.out.done⟩,?_,?_,?_⟩⟩
     ·exact owns_box (owns_box hN4 hpb (by decide) (hKp x0 x1 x2 x3 x4 x5 x6)) hf5 (by decide) (hKf _ z0 z1)
     ·exact owns_box (owns_box hk4 hpb (by decide) (hKp x0 x1 x2 x3 x4 x5 x6)) hf5 (by decide) (hKf _ z0 z1)
     ·rw [← hDe]; exact owns_box (owns_box hds hpb (by decide) (hKp x0 x1 x2 x3 x4 x5 x6)) hf5 (by decide) (hKf _ z0 z1)
    have Hout:=hide' hout
    clear hout hKp hKf hT4 hN4 hk4 hds hE24 hK3 hnb hEw4 hEW4 hpb hfb2 hfo hsm2 hE4 hM hDe HDp2
    go_wp2
    refine bodyPost_ret (v := .tuple #[.agg #[.slice n1 a.2.length nc,.slice g1 g2 g3,.slice v1 v2 v3,.slice r1 r2 r3,.int .i64 uu,.slice ka ks.length kc,.slice da D.length dc],.agg #[.int .i64 0,.int .i64 0]]) (by simp [results,Tryz.results42,go_sem,p0,p1,p2,p3,p4,p5,p6,pf,f0,f1,ff,pl,fl]) rfl ?_
    exact Hout.out _ _ _ _ _ _ _ _ _
  ·have Hh:Hid ((heldN p q x).2.2=(6,pp)):=by show _=_; rw [Hhe.out,if_neg (by omega),hnum]
   clear hnum
   go_wp2_with fail
   go_region
   all_goals
    go_wp2
    refine bodyPost_ret (v := .tuple #[zeroProof,.agg #[.int .i64 6,.int .i64 pp]]) (by simp [results,Tryz.results42,go_sem,zeroProof,p0,p1,p2,p3,p4,p5,p6,pf,f0,f1,ff,pl,fl]) rfl ?_
    exact ⟨HEw2.out.trans (Kept.below (S:=fun i=>w.heap.size≤i) (by repeat' (first | with_reducible exact Kept.refl _ _ | with_reducible apply Kept.drew | with_reducible apply Kept.drewN | with_reducible apply Kept.alloc | with_reducible refine Kept.setCell ?_ ?_ _ | (intro _; simp only; omega))) (by omega) (fun i e=>e)),Or.inl (by rw [Hh.out]; exact ⟨by simp,rfl⟩)⟩
theorem pargs_two {p:List Tok→Names→Option (List Sym × List Tok × Names)} (hp:∀ ts names r,p ts names=some r→2 * r.1.length+r.2.1.length≤ts.length+1) :
  ∀ (g:Nat) (ts:List Tok) (names:Names) (acc:List (List Sym)) r,pargs p g ts names acc=some r→2 * r.1.flatten.length+r.2.1.length+1≤2 * acc.flatten.length+ts.length:=by
 intro g
 induction g with
 | zero=>intro ts names acc r h; simp [pargs] at h
 | succ g ih =>
  intro ts names acc r h
  cases ts with
  | nil=>simp [pargs] at h
  | cons t ts =>
   rw [pargs] at h
   split at h
   ·simp at h; subst h
    simp only [List.length_cons]; omega
   ·split at h
    ·simp at h
    ·rename_i q hq
     have h1:=hp _ _ _ hq
     have h4:=ih _ _ _ _ h
     simp only [List.flatten_append,List.flatten_cons,List.flatten_nil,List.append_nil,List.length_append,List.length_cons] at h4 ⊢
     omega
theorem pterm_two:∀ (f:Nat) (ts:List Tok) (names:Names) r,pterm f ts names=some r→2 * r.1.length+r.2.1.length≤ts.length+1:=by
 intro f
 induction f with
 | zero=>intro ts names r h; simp [pterm] at h
 | succ f ih =>
  intro ts names r h
  cases ts with
  | nil=>simp [pterm] at h
  | cons t ts =>
   rw [pterm] at h
   split at h
   ·simp at h; subst h
    simp only [List.length_cons,List.length_nil]; omega
   ·cases ts with
    | nil=>simp [pname] at h
    | cons u us =>
     rw [pname] at h
     split at h
     ·simp at h; subst h
      simp only [List.length_cons,List.length_nil]; omega
     ·rw [Option.map_eq_some_iff] at h
      obtain ⟨q,hq,rfl⟩:=h
      have h1:=pargs_two ih _ _ _ _ _ hq
      simp only [List.flatten_nil,List.length_nil,List.length_cons] at h1 ⊢
      omega
theorem pterms_two {f:Nat}:∀ (g:Nat) (ts:List Tok) (names:Names) (acc:List (List Sym)) r,pterms f g ts names acc=some r→2 * r.1.flatten.length+r.2.1.length≤2 * acc.flatten.length+ts.length:=by
 intro g
 induction g with
 | zero=>intro ts names acc r h; simp [pterms] at h
 | succ g ih =>
  intro ts names acc r h
  rw [pterms] at h
  split at h
  ·simp at h
  ·rename_i q hq
   have h1:=pterm_two f _ _ _ hq
   split at h
   ·simp at h
   ·rename_i x rest hx
    rw [hx] at h1
    simp only [List.length_cons] at h1
    split at h
    ·simp at h; subst h
     simp only [List.flatten_append,List.flatten_cons,List.flatten_nil,List.append_nil,List.length_append]
     omega
    ·have h4:=ih _ _ _ _ h
     simp only [List.flatten_append,List.flatten_cons,List.flatten_nil,List.append_nil,List.length_append] at h4
     omega
theorem ask_small {s:ByteArray} {a:List (List Sym) × Names} (h:askOf s=some a):a.2.length≤60:=by
 unfold askOf at h
 split at h
 ·simp at h
 ·split at h
  ·simp at h
  ·rename_i hs he
   have hs:s.size≤120:=by omega
   obtain ⟨r1,_,_⟩:=runs_lover s true
   have h0:(runs s true).1=0:=by rw [r1]; omega
   obtain ⟨q,e1,e2,_⟩:=query_fits s hs h0
   rw [e1] at h
   simp at h
   subst h
   obtain ⟨g1,g2,_⟩:=terms_good 1000 0 1000 (alltoks s) [] [] q (alltoks_worded s) (by simp) rfl e1
   obtain ⟨x1,x2,x3⟩:=scan_bound _ _ _ g2
   have hl:=alltoks_len s
   have h2:=pterms_two 1000 (alltoks s) [] [] q e1
   simp only [List.flatten_nil,List.length_nil] at h2
   simp only
   omega
theorem canon1_num:∀ (l:List Sym) (met:List Nat) (M:Nat),(canon1 l met).2.length≤M→(∀ s ∈ l,s.name≠[]→s.num=0)→0<M→∀ s ∈ (canon1 l met).1,s.num<M:=by
 intro l
 induction l with
 | nil=>intro met M _ _ _ s hs; simp [canon1] at hs
 | cons s l ih =>
  intro met M hM hz hp t ht
  have hgrow:∀ (l:List Sym) (met:List Nat),met.length≤(canon1 l met).2.length:=by
   intro l
   induction l with
   | nil=>intro met; simp [canon1]
   | cons s l ih =>
    intro met
    simp only [canon1]
    split
    ·have:=ih (meet s.num met)
     have h1:met.length≤(meet s.num met).length:=by unfold meet; split <;> simp
     simp; omega
    ·exact ih met
  simp only [canon1] at hM ht
  split at ht
  ·rename_i hn
   rw [if_pos hn] at hM
   simp only at hM
   rcases List.mem_cons.1 ht with rfl | ht
   ·show met.idxOf s.num<M
    have h1:=hgrow l (meet s.num met)
    have h2:met.idxOf s.num<(meet s.num met).length:=by
     unfold meet
     split
     ·rename_i e; rw [e]; simp
     ·rename_i e
      have:=List.idxOf_le_length (a:=s.num) (l:=met)
      omega
    omega
   ·exact ih _ M hM (fun u hu=>hz u (by simp [hu])) hp t ht
  ·rename_i hn
   rw [if_neg hn] at hM
   simp only at hM
   rcases List.mem_cons.1 ht with rfl | ht
   ·rw [hz t (by simp) hn]; exact hp
   ·exact ih _ M hM (fun u hu=>hz u (by simp [hu])) hp t ht
theorem canons_num:∀ (ts:List (List Sym)) (met:List Nat) (M:Nat),(canons ts met).2.length≤M→(∀ t ∈ ts,∀ s ∈ t,s.name≠[]→s.num=0)→0<M→∀ t ∈ (canons ts met).1,∀ s ∈ t,s.num<M:=by
 intro ts
 induction ts with
 | nil=>intro met M _ _ _ t ht; simp [canons] at ht
 | cons u ts ih =>
  intro met M hM hz hp t ht
  have hgrow:∀ (ts:List (List Sym)) (met:List Nat),met.length≤(canons ts met).2.length:=by
   intro ts
   induction ts with
   | nil=>intro met; simp [canons]
   | cons v ts ih =>
    intro met
    simp only [canons]
    have h1:=ih (canon1 v met).2
    have h2:met.length≤(canon1 v met).2.length:=by
     clear h1 ih
     induction v generalizing met with
     | nil=>simp [canon1]
     | cons s l ih =>
      simp only [canon1]
      split
      ·have:=ih (meet s.num met)
       have h1:met.length≤(meet s.num met).length:=by unfold meet; split <;> simp
       simp; omega
      ·exact ih met
    omega
  simp only [canons] at hM ht
  rcases List.mem_cons.1 ht with rfl | ht
  ·exact canon1_num u met M (Nat.le_trans (hgrow ts _) hM) (fun s hs=>hz u (by simp) s hs) hp
  ·exact ih _ M hM (fun v hv=>hz v (by simp [hv])) hp t ht
theorem canon1_args:∀ (l:List Sym) (met:List Nat) (P:Nat→Prop),(∀ s ∈ l,P s.args)→∀ s ∈ (canon1 l met).1,P s.args:=by
 intro l
 induction l with
 | nil=>intro met P _ s hs; simp [canon1] at hs
 | cons s l ih =>
  intro met P h t ht
  simp only [canon1] at ht
  split at ht
  ·rcases List.mem_cons.1 ht with rfl | ht
   ·exact h s (by simp)
   ·exact ih _ P (fun u hu=>h u (by simp [hu])) t ht
  ·rcases List.mem_cons.1 ht with rfl | ht
   ·exact h t (by simp)
   ·exact ih _ P (fun u hu=>h u (by simp [hu])) t ht
theorem canons_each:∀ (ts:List (List Sym)) (met:List Nat) (u:List Sym),u ∈ (canons ts met).1→∃ t ∈ ts,∃ m,u=(canon1 t m).1:=by
 intro ts
 induction ts with
 | nil=>intro met u h; simp [canons] at h
 | cons t ts ih =>
  intro met u h
  simp only [canons] at h
  rcases List.mem_cons.1 h with rfl | h
  ·exact ⟨t,by simp,met,rfl⟩
  ·obtain ⟨t',h1,m,h2⟩:=ih _ u h
   exact ⟨t',by simp [h1],m,h2⟩
def StepsAt (w:World) (sv:Value):Prop:=∃ a len cap,sv = .slice a len cap∧len≤maxLen∧∀ k,k<len→∃ (b off:Nat) (kd n m:Int) (p q x:ByteArray),a=some ⟨b,off,none⟩∧b<w.heap.size ∧
 w.cell? ⟨b,off+k * 6,none⟩=some (.int .i64 kd)∧w.cell? ⟨b,off+k * 6+1,none⟩=some (.int .i64 n)∧w.cell? ⟨b,off+k * 6+2,none⟩=some (.int .i64 m) ∧
 w.cell? ⟨b,off+k * 6+3,none⟩=some (.string p)∧w.cell? ⟨b,off+k * 6+4,none⟩=some (.string q)∧w.cell? ⟨b,off+k * 6+5,none⟩=some (.string x)∧p.size≤maxLen∧q.size≤maxLen∧x.size≤maxLen
set_option maxHeartbeats 400000 in
theorem looks_nil (w:World) (b:Nat) (h:w.heap[b]?=some (.cells #[.slice none 0 0,.slice none 0 0,.slice none 0 0] 76 (0,0))) :
  Calls Tryz.prog 39 #[.pointer (some ⟨b,0,none⟩)] w fun e w'=>e = .returned (.bool true)∧w'=w:=by
 have c1:w.cell? ⟨b,1,none⟩=some (.slice none 0 0):=cell_of_block h 1 _ rfl
 clear h
 go_enter Tryz.func39,Tryz.ntmps39
 go_wp2
 go_loop [3] (fun i=>i = .int .i64 0) (fun i=>0)
 case atStart=>rfl
 case round =>
  subst hrel
  go_wp2
  go_ret
  exact ⟨rfl,rfl⟩
def YesCode:Prop:=∀ (p q x:ByteArray) (w:World),p.size≤maxLen→q.size≤maxLen→x.size≤maxLen→Calls Tryz.prog 19 #[.string p,.string q,.string x] w fun e w'=>e = .returned (.tuple #[.string ⟨(yesN p q x).1.toArray⟩,.int .i64 (yesN p q x).2.1,.int .i64 (yesN p q x).2.2])∧Ext w w'
set_option maxRecDepth 10000 in
set_option maxHeartbeats 1000000 in
theorem checks_yes (HC0:YesCode) (n m:Int) (p q x:ByteArray) (w:World) (hp:p.size≤maxLen) (hq:q.size≤maxLen) (hx:x.size≤maxLen) :
  Calls Tryz.prog 63 #[.agg #[.int .i64 6,.int .i64 n,.int .i64 m,.string p,.string q,.string x]] w fun e w'=>e = .returned (.bool true)∧Below w.heap.size w w':=by
 have HC:=hide' (HC0 p q x)
 have HR:=hide' (refYes_any p q x)
 obtain ⟨R,hR⟩:∃ R,R=yesN p q x:=⟨_,rfl⟩
 rw [← hR] at HC HR
 clear HC0 hR
 go_enter Tryz.func63,Tryz.ntmps63
 go_wp2_with fail
 refine (HC.out _ hp hq hx).mono ?_
 rintro e w1 ⟨rfl,hb1⟩
 have hsz1:w.heap.size+1≤w1.heap.size:=by have:=hb1.size; simpa using this
 have hb1':Below w.heap.size w w1:=((Below.refl _ w).alloc (Nat.le_refl _) _).trans (hb1.mono (by simp))
 have hc:w1.cell? ⟨w.heap.size,3,none⟩=some (.string p):=(hb1.cell (p:=⟨w.heap.size,3,none⟩) (by simp)).trans (cell_alloc_new w _ _ 3 _ rfl)
 have hd:w1.cell? ⟨w.heap.size,4,none⟩=some (.string q):=(hb1.cell (p:=⟨w.heap.size,4,none⟩) (by simp)).trans (cell_alloc_new w _ _ 4 _ rfl)
 have he:w1.cell? ⟨w.heap.size,5,none⟩=some (.string x):=(hb1.cell (p:=⟨w.heap.size,5,none⟩) (by simp)).trans (cell_alloc_new w _ _ 5 _ rfl)
 have Hb1:=hide' hb1'
 clear hb1 hb1'
 go_wp2_with fail
 refine (HR.out _ hp hq hx).mono ?_
 rintro e w2 ⟨rfl,hb2⟩
 have Hb2:=hide' hb2
 clear hb2
 go_wp2
 go_ret
 exact ⟨rfl,Hb1.out.trans (Hb2.out.mono Hb1.out.size)⟩
set_option maxRecDepth 10000 in
set_option maxHeartbeats 1000000 in
theorem step_yes (HC0:YesCode) (n m:Int) (p q x:ByteArray) (b:Value) (w:World) (hp:p.size≤maxLen) (hq:q.size≤maxLen) (hx:x.size≤maxLen) :
  Calls Tryz.prog 38 #[b,.agg #[.int .i64 6,.int .i64 n,.int .i64 m,.string p,.string q,.string x]] w fun e w'=>e = .returned (.bool true)∧Below w.heap.size w w':=by
 have HT:=hide' (checks_yes HC0 n m p q x)
 clear HC0
 go_enter Tryz.func38,Tryz.ntmps38
 go_wp2_with fail
 refine (HT.out _ hp hq hx).mono ?_
 rintro e w1 ⟨rfl,hb1⟩
 have Hb1:=hide' hb1
 clear hb1
 go_wp2
 go_ret
 exact ⟨rfl,((Below.refl _ w).alloc (Nat.le_refl _) _).trans (Hb1.out.mono (by simp))⟩
set_option maxRecDepth 10000 in
set_option maxHeartbeats 1000000 in
theorem upTo_yes (HC0:YesCode) (sv:Value) (w:World) (hst:StepsAt w sv) :
  Calls Tryz.prog 13 #[sv,.int .i64 6,.int .i64 6] w fun e w'=>e = .returned (.int .i64 (-1))∧Below w.heap.size w w':=by
 obtain ⟨a,len,cap,rfl,hlen,hcells⟩:=hst
 unfold maxLen at hlen
 have HS:=hide' (step_yes HC0)
 have HL:=hide' looks_nil
 have Hcells:=hide' hcells
 clear HC0 hcells
 go_enter Tryz.func13,Tryz.ntmps13
 go_wp2
 go_loopw [8] (fun i wr=>∃ k:Nat,k≤len∧i = .int .i64 k∧Below w.heap.size w wr∧wr.heap[w.heap.size]?=some (.cells #[.slice none 0 0,.slice none 0 0,.slice none 0 0] 76 (0,0))) (fun i _=>len - (intOf i).toNat)
 case atStart=>exact ⟨0,Nat.zero_le _,rfl,(Below.refl _ _).alloc (Nat.le_refl _) _,heap_alloc_new w _⟩
 case round =>
  obtain ⟨k,hk,rfl,hbel,hblk⟩:=hrel
  have Hblk:=hide' hblk
  have hsz:=lt_of_block hblk
  clear hblk
  by_cases hlt:k<len
  ·obtain ⟨b,off,kd,n,m,p,q,x,rfl,hbl,d0,d1,d2,d3,d4,d5,hp,hq,hx⟩:=Hcells.out k hlt
   have c0:wr.cell? ⟨b,off+k * 6,none⟩=some (.int .i64 kd):=(hbel.cell (p:=⟨b,off+k * 6,none⟩) hbl).trans d0
   have c1:wr.cell? ⟨b,off+k * 6+1,none⟩=some (.int .i64 n):=(hbel.cell (p:=⟨b,off+k * 6+1,none⟩) hbl).trans d1
   have c2:wr.cell? ⟨b,off+k * 6+2,none⟩=some (.int .i64 m):=(hbel.cell (p:=⟨b,off+k * 6+2,none⟩) hbl).trans d2
   have c3:wr.cell? ⟨b,off+k * 6+3,none⟩=some (.string p):=(hbel.cell (p:=⟨b,off+k * 6+3,none⟩) hbl).trans d3
   have c4:wr.cell? ⟨b,off+k * 6+4,none⟩=some (.string q):=(hbel.cell (p:=⟨b,off+k * 6+4,none⟩) hbl).trans d4
   have c5:wr.cell? ⟨b,off+k * 6+5,none⟩=some (.string x):=(hbel.cell (p:=⟨b,off+k * 6+5,none⟩) hbl).trans d5
   clear d0 d1 d2 d3 d4 d5
   by_cases hkd:kd=6
   ·subst hkd
    go_wp2_with fail
    refine (HS.out n m p q x _ _ hp hq hx).mono ?_
    rintro e w1 ⟨rfl,hb1⟩
    have hs1:wr.heap.size+1≤w1.heap.size:=by have:=hb1.size; simpa using this
    have hbel1:Below w.heap.size w w1:=(hbel.alloc hbel.size _).trans (hb1.mono (by simp; omega))
    have Hblk1:Hid (w1.heap[w.heap.size]?=some (.cells #[.slice none 0 0,.slice none 0 0,.slice none 0 0] 76 (0,0))):=(hb1.block w.heap.size (by simp; omega)).trans (block_alloc Hblk.out _)
    clear hb1 c0 c1 c2 c3 c4 c5
    go_wp2_with fail
    refine (HL.out w1 w.heap.size Hblk1.out).mono ?_
    rintro e w2 ⟨rfl,rfl⟩
    go_wp2
    go_roundw
    case rel=>exact ⟨k+1,by omega,by go_num,hbel1,Hblk1.out⟩
    case measure=>simp [intOf]; omega
   ·rcases Int.lt_or_gt_of_ne hkd with hlt2 | hlt2
    ·have h1:¬ (6:Int)≤kd:=by omega
     clear hkd hlt2
     go_wp2
     go_roundw
     case rel=>exact ⟨k+1,by omega,by go_num,hbel.alloc hbel.size _,block_alloc Hblk.out _⟩
     case measure=>simp [intOf]; omega
    ·have h1:(6:Int)≤kd:=by omega
     have h2:¬ kd≤(6:Int):=by omega
     clear hkd hlt2
     go_wp2
     go_roundw
     case rel=>exact ⟨k+1,by omega,by go_num,hbel.alloc hbel.size _,block_alloc Hblk.out _⟩
     case measure=>simp [intOf]; omega
  ·go_wp2
   go_ret
   exact ⟨rfl,hbel⟩
set_option maxHeartbeats 1000000 in
theorem yeses_walk (HC0:YesCode) (sv:Value) (w:World) (hst:StepsAt w sv) :
  Calls Tryz.prog 6 #[sv] w fun e w'=>e = .returned (.bool true)∧Below w.heap.size w w':=by
 have HU:=hide' (upTo_yes HC0 sv w hst)
 clear HC0 hst
 go_enter Tryz.func6,Tryz.ntmps6
 go_wp2_with fail
 refine HU.out.mono ?_
 rintro e w1 ⟨rfl,hb1⟩
 have Hb1:=hide' hb1
 clear hb1
 go_wp2
 go_ret
 exact ⟨rfl,Hb1.out⟩
end Go.Proofs.YtlmjilpjmgjjcaaGreatDoor
namespace Go.Proofs.YtlmjilpjmgjjcaaGreatDoor
open Go.ChangeShapes Go.WideShapes Go.ChangeAt Go.WideMaps Go.WideElems Go.RowKit
set_option linter.unusedSimpArgs false
set_option linter.unusedVariables false
theorem own:ownKnob Tryz.prog.godebug=none:=by kernel_rfl
theorem laidOut:laidOutB Tryz.prog=true:=by kernel_rfl
theorem cellsStep:Tryz.prog.cellsOf 78=6:=by kernel_rfl
theorem cellsInt:Tryz.prog.cellsOf 3=1:=by kernel_rfl
theorem cellsStr:Tryz.prog.cellsOf 9=1:=by kernel_rfl
theorem cell_plain {W:World} {a:Addr} {j:Nat} {v:Value} (h:W.cell? (a.add j)=some v) (hs:a.spot=none):W.cell? ⟨a.block,a.off+j,none⟩=some v:=by
 have e:a.add j=⟨a.block,a.off+j,none⟩:=by
  unfold Addr.add
  obtain ⟨b,o,s⟩:=a
  simp only at hs
  subst hs
  split
  ·rename_i h0; subst h0; rfl
  ·rfl
 rwa [e] at h
theorem spot_none {W:World} {a:Addr} {v:Value} (h:W.cell? a=some v):a.spot=none:=by
 unfold World.cell? at h
 split at h
 ·split at h
  ·cases h
  ·rename_i h1; cases hs:a.spot with
   | none=>rfl
   | some _=>rw [hs] at h1; simp at h1
 ·cases h
theorem step_str {H:Type} {enc:TypeId × Value→H} {W:World} {base n':Nat} {spare:Nat→Bool} {held:Bool} {a:Addr} {cs:List Value} {x:DataW H × List MemPlace} {i:Nat} (hcells:∀ i,i<6→W.cell? (a.add i)=cs[i]?) (hlen:cs.length=6) (hi:i<6)
  (h:DataW.trod enc Tryz.prog W base spare held n' 9 ((cs.drop i).take (Tryz.prog.cellsOf 9))=some x):∃ s:ByteArray,W.cell? (a.add i)=some (.string s)∧s.size≤maxLen:=by
 obtain ⟨s,h1,_,h3⟩:=DataW.trod_string Tryz.underlying9 h
 rw [cellsStr] at h1
 refine ⟨s,?_,h3⟩
 rw [hcells i hi]
 have:=congrArg (fun l:List Value=>l[0]?) h1
 simpa using this
theorem step_int {H:Type} {enc:TypeId × Value→H} {W:World} {base n':Nat} {spare:Nat→Bool} {held:Bool} {a:Addr} {cs:List Value} {x:DataW H × List MemPlace} {i:Nat} (hcells:∀ i,i<6→W.cell? (a.add i)=cs[i]?) (hlen:cs.length=6) (hi:i<6)
  (h:DataW.trod enc Tryz.prog W base spare held n' 3 ((cs.drop i).take (Tryz.prog.cellsOf 3))=some x):∃ k:Int,W.cell? (a.add i)=some (.int .i64 k):=by
 obtain ⟨s,h1,_,h3⟩:=DataW.trod_int Tryz.underlying3 h
 rw [cellsInt] at h1
 refine ⟨s,?_⟩
 rw [hcells i hi]
 have:=congrArg (fun l:List Value=>l[0]?) h1
 simpa using this
set_option maxRecDepth 100000 in
theorem steps_of_script {H:Type} {enc:TypeId × Value→H} {W:World} {a0:Option Addr} {len cap:Nat} {d:DataW H} {ps:List MemPlace}
  (h:DataW.Trod enc Tryz.prog W 0 (fun _=>true) true 22 (.slice a0 len cap) d ps):StepsAt W (.slice a0 len cap):=by
 obtain ⟨fuel,hf⟩:=h
 rcases Deep.open_slice Tryz.underlying22 hf with ⟨hcs,_⟩ | ⟨a,l,c,m,n,D,Pl,hcs,_,hl,hm,hmm,_,hall⟩
 ·simp [Value.cells] at hcs
  obtain ⟨rfl,rfl,rfl⟩:=hcs
  exact ⟨none,0,0,rfl,by decide,fun k hk=>absurd hk (by omega)⟩
 ·simp [Value.cells] at hcs
  obtain ⟨rfl,rfl,rfl⟩:=hcs
  refine ⟨some a,len,cap,rfl,Nat.le_trans hl hm,fun k hk => ?_⟩
  obtain ⟨cs,hcells,htrod⟩:=hall k (by rw [hmm]; simp; omega)
  rw [cellsStep] at hcells
  obtain ⟨hb,hlen,hcell⟩:=World.cells?_some hcells
  obtain ⟨xs,n',_,_,hlen2,hxl,hfld⟩:=DataW.trod_struct Tryz.underlying78 htrod
  have hx:∀ i,i<6→∃ x,xs[i]?=some x:=fun i hi=>⟨_,List.getElem?_eq_getElem (by rw [hxl]; exact hi)⟩
  obtain ⟨x0,e0⟩:=hx 0 (by omega)
  obtain ⟨x1,e1⟩:=hx 1 (by omega)
  obtain ⟨x2,e2⟩:=hx 2 (by omega)
  obtain ⟨x3,e3⟩:=hx 3 (by omega)
  obtain ⟨x4,e4⟩:=hx 4 (by omega)
  obtain ⟨x5,e5⟩:=hx 5 (by omega)
  obtain ⟨k0,q0⟩:=step_int hcell hlen (i:=0) (by omega) ((hfld 0 _ rfl).trans e0)
  obtain ⟨k1,q1⟩:=step_int hcell hlen (i:=1) (by omega) ((hfld 1 _ rfl).trans e1)
  obtain ⟨k2,q2⟩:=step_int hcell hlen (i:=2) (by omega) ((hfld 2 _ rfl).trans e2)
  obtain ⟨s3,q3,z3⟩:=step_str hcell hlen (i:=3) (by omega) ((hfld 3 _ rfl).trans e3)
  obtain ⟨s4,q4,z4⟩:=step_str hcell hlen (i:=4) (by omega) ((hfld 4 _ rfl).trans e4)
  obtain ⟨s5,q5,z5⟩:=step_str hcell hlen (i:=5) (by omega) ((hfld 5 _ rfl).trans e5)
  have hblk:a.block<W.heap.size:=by
   have:=World.block_lt_of_cell? W _ q1
   rw [Deep.add_add] at this
   simpa [Addr.add] using this
  have hsp:a.spot=none:=by
   obtain ⟨cs',hcells',_⟩:=hall 0 (by rw [hmm]; simp; omega)
   rw [cellsStep] at hcells'
   obtain ⟨_,hlen',hcell'⟩:=World.cells?_some hcells'
   have h1:=hcell' 0 (by omega)
   rw [List.getElem?_eq_getElem (by omega)] at h1
   have h2:=spot_none h1
   simpa [Addr.add] using h2
  simp only [Deep.add_add] at q0 q1 q2 q3 q4 q5
  obtain ⟨b,o,sp⟩:=a
  simp only at hsp
  subst hsp
  refine ⟨b,o,k0,k1,k2,s3,s4,s5,rfl,hblk,?_,?_,?_,?_,?_,?_,z3,z4,z5⟩
  ·simpa using cell_plain q0 rfl
  ·simpa [Nat.add_assoc] using cell_plain q1 rfl
  ·simpa [Nat.add_assoc] using cell_plain q2 rfl
  ·simpa [Nat.add_assoc] using cell_plain q3 rfl
  ·simpa [Nat.add_assoc] using cell_plain q4 rfl
  ·simpa [Nat.add_assoc] using cell_plain q5 rfl
end Go.Proofs.YtlmjilpjmgjjcaaGreatDoor
namespace Go.Proofs.YtlmjilpjmgjjcaaGreatDoor
open Go.ChangeShapes Go.WideShapes Go.ChangeAt Go.WideMaps Go.WideElems Go.RowKit
set_option linter.unusedSimpArgs false
set_option linter.unusedVariables false
theorem yeses_door (os:Os) (args:Array Value):laidMetH Tryz.prog Rows.yesesRow.laid ((World.doorLaid Tryz.prog 400 os).forCall (fun _ _=>0) ⟨#[],args,[]⟩).memory :=
 laidMetH_of_parts3 (fuel:=8) (laidMet_of_run' 8 (by kernel_rfl) (by kernel_rfl)) (by kernel_rfl) (by kernel_rfl)
set_option maxRecDepth 100000 in
theorem yeses_lifted (HC:YesCode) (os:Os) (started:os.Started) (H:Type) (enc:TypeId × Value→H) :
  ReturnsInHanded {} Tryz.checked os 6 .any (fun w args=>(Rows.yesesSpec.pre enc Tryz.prog Tryz.f6 [] false w args∧laidMetH Tryz.prog Rows.yesesRow.laid w)∧sizedMet enc Tryz.prog Tryz.f6 (OpenSpec.ofChange Rows.yesesSpec) false w args)
   (Rows.yesesSpec.post enc Tryz.prog Tryz.f6 false true false false):=by
 refine returnsInHanded_of_change_and (C:=Tryz.checked) (X:=fun w _=>laidMetH Tryz.prog Rows.yesesRow.laid w) (fun _ _ _ hh h=>h.of_heap hh) own started (by kernel_rfl) Tryz.func6
  (ChangeSpec.witness_shaped (enc:=enc) (C:=Tryz.checked) (os:=os) (X:=fun w _=>laidMetH Tryz.prog Rows.yesesRow.laid w) false (World.doorLaid Tryz.prog 400 os) #[.slice none 0 0] 8 rfl (World.shaped_of_RefB (by kernel_rfl) (by kernel_rfl)) (by kernel_rfl) (by kernel_rfl) (by kernel_rfl) (yeses_door os _)) ?_
 intro W base args ds gs before hval0 hW _ _ hL _
 have hval:∀ (j:Nat) t v,Tryz.f6.params[j]?=some t→args[j]?=some v→Value.okWide Tryz.prog W .any base t v:=hval0
 have hW':=hW
 obtain ⟨p,q,hA0,hV,rfl,hfz,hnd⟩:=hW
 have hA:DataW.TrodAll enc Tryz.prog W 0 (fun _=>true) true Tryz.f6.params.toList args.toList ds p:=hA0
 rw [Tryz.params6] at hA hval
 obtain ⟨v0,d0,rfl,rfl,h0⟩:=trodAll_one hA
 obtain ⟨rfl,rfl⟩:=trodVars_none hV
 have lt0:∀ x ∈ p,x.block<W.heap.size:=by obtain ⟨m,hm⟩:=h0; exact DataW.trod_lt m _ _ _ hm
 obtain ⟨a0,len0,cap0,rfl⟩:=okWide_slice Tryz.underlying22 (hval 0 22 v0 rfl rfl)
 have hst:=steps_of_script h0
 clear hA0 hval0
 refine (yeses_walk HC _ W hst).mono fun e W' ⟨he,bel⟩ => ?_
 subst he
 exact ⟨_,rfl,_,_,_,[],_,[],hW',trodAll_mk1 (shut_bool Tryz.underlying4 _),trodAll_mk1 (Below.trod laidOut (by kernel_rfl) (of_decide_eq_true (by kernel_rfl)) h0 bel lt0),rfl,bel.frame _,fun h=>by cases h⟩
theorem yeses_row (HC:YesCode):Rows.YesesSaid :=
 OpenClaim.holds_of_wide 6 Tryz.f6 rfl rfl rfl rfl rfl rfl rfl ⟨rfl,rfl,rfl,rfl,rfl⟩ rfl rfl rfl rfl rfl (by kernel_rfl) Tryz.func6 (by kernel_rfl)
  (of_decide_eq_true (by kernel_rfl)) (by unfold Func.isWrapper; first | (rw [if_pos (by decide +kernel)]; kernel_rfl) | (rw [if_neg (by decide +kernel)]; exact ⟨rfl,rfl⟩))
  (fun os started H enc _=>yeses_lifted HC os started H enc)
theorem yeses_card (HC:YesCode):Rows.YesesCardSaid :=
 Claim7.holds_tied_plain_at .later [] [.data,.data,.data] true Rows.yesesCard.stood.harness false
  (yeses_row HC) (fun _ h=>by cases h) (by kernel_rfl) (fun _ h=>by cases h) yeses_row_tie rfl ⟨rfl,rfl⟩ (by kernel_rfl) rfl
  (fun f fn hf hfn=>by
   obtain rfl:f=6:=Option.some.inj ((show Tryz.prog.funcNamed Tryz.f6.name=some 6 by kernel_rfl).symm.trans hf) |>.symm
   obtain rfl:fn=Tryz.f6:=(Option.some.inj (Tryz.func6.symm.trans hfn)).symm
   exact ⟨by kernel_rfl,fun j t ht=>by
    rw [Tryz.params6] at ht
    have hm:t ∈ [22]:=by simpa using Array.mem_of_getElem? ht
    have hall:([22].all fun u => !Tryz.prog.wantsStandIn u)=true:=by kernel_rfl
    exact (show Tryz.prog.wantsStandIn t=false by simpa using List.all_eq_true.1 hall t hm)⟩)
  (by kernel_rfl)
end Go.Proofs.YtlmjilpjmgjjcaaGreatDoor
namespace Go.Proofs.YtlmjilpjmgjjcaaGreatDoor
open Go.RowKit
set_option linter.unusedSimpArgs false
set_option linter.unusedVariables false
theorem flat_le {ts:List (List Sym)} {N:Nat} (h:∀ t ∈ ts,t.length≤N):ts.flatten.length≤N * ts.length:=by
 induction ts with
 | nil=>simp
 | cons t ts ih =>
  have h1:=h t (by simp)
  have h2:=ih (fun y hy=>h y (by simp [hy]))
  simp only [List.flatten_cons,List.length_append,List.length_cons]
  rw [Nat.mul_add]
  omega
theorem canons_txt:∀ (ts:List (List Sym)) (seen:List Nat),(∀ t ∈ ts,Wf 1 t∧t.length≤30∧∀ s ∈ t,s.name.length≤4096)→seen.length+ts.flatten.length≤4000→∀ u ∈ (canons ts seen).1,(atomC u []).length≤200000:=by
 intro ts
 induction ts with
 | nil=>intro seen _ _ u hu; simp [canons] at hu
 | cons t ts ih =>
  intro seen h hs u hu
  simp only [List.flatten_cons,List.length_append] at hs
  obtain ⟨h1,h2,h3⟩:=h t (by simp)
  have hc:=canon_len (l:=t) (by omega) h1 h3 (seen:=seen) (by omega)
  simp only [canons] at hu
  rcases List.mem_cons.1 hu with rfl | hu
  ·omega
  ·exact ih _ (fun v hv=>h v (by simp [hv])) (by omega) u hu
theorem tx_ok {n:ND} (hn:NOk n) (hm:NNm n) {ts:List (List Sym)} (ht:∀ t ∈ ts,t ∈ n.terms∧t.length≤30) (hl:ts.length≤130) (hv:(canons ts []).2.length≤2599):TxOk ts:=by
 have hfl:ts.flatten.length≤30 * ts.length:=flat_le (fun t h=>(ht t h).2)
 have hV:n.vars≤101000:=by have:=hn.vars; have:=hn.ul; omega
 refine ⟨by omega,by omega,fun t h=>tm_ok (hn.wf t (ht t h).1) (by have:=(ht t h).2; omega) (hn.occ t (ht t h).1) (by omega),fun u hu=>⟨?_,fun s hs=>⟨?_,?_⟩⟩,fun u hu => ?_⟩
 ·obtain ⟨t,h1,m,rfl⟩:=canons_each ts [] u hu
  rw [canon1_length]
  have:=(ht t h1).2
  omega
 ·exact canons_num ts [] 2600 (by omega) (fun t h1 x hx hne=>by
   obtain ⟨i,hi⟩:=List.mem_iff_getElem?.1 hx
   exact (syms_wf (hn.wf t (ht t h1).1) hi).2 hne) (by omega) u hu s hs
 ·obtain ⟨t,h1,m,rfl⟩:=canons_each ts [] u hu
  refine Nat.le_trans (canon1_args t m (fun a=>a≤30) (fun x hx => ?_) s hs) (by omega)
  obtain ⟨i,hi⟩:=List.mem_iff_getElem?.1 hx
  have hil:=(List.getElem?_eq_some_iff.1 hi).1
  have:=args_le (hn.wf t (ht t h1).1) (i:=i) hil
  have he:symAt t i=x:=by unfold symAt; rw [List.getD_eq_getElem?_getD,hi]; rfl
  rw [he] at this
  have:=(ht t h1).2
  omega
 ·refine Nat.le_trans (canons_txt ts [] (fun t h1=>⟨hn.wf t (ht t h1).1,(ht t h1).2,fun s hs=>Nat.le_trans (hm t (ht t h1).1 s hs) (by omega)⟩) ?_ u hu) (by omega)
  simp only [List.length_nil]
  omega
theorem vals_tx {n:ND} (hn:NOk n) (hm:NNm n) (hl:n.vals.length≤60):TxOk n.vals:=by
 have hfl:n.vals.flatten.length≤30 * n.vals.length:=flat_le (fun t h=>hn.vsize h)
 refine tx_ok hn hm (fun t h=>⟨by unfold ND.terms; simp [h],hn.vsize h⟩) (by omega) ?_
 have:=canons_met n.vals []
 simp only [List.length_nil] at this
 omega
theorem vals_pairs {n:ND} (hn:NOk n) (hm:NNm n) (hl:n.vals.length≤60) {names:Names} (hs:names.length≤60) (hns:∀ x ∈ names,x.length≤8):(pairs [] names (canons n.vals []).1).length≤100000000:=by
 have hfl:n.vals.flatten.length≤30 * n.vals.length:=flat_le (fun t h=>hn.vsize h)
 have:=pairs_len names n.vals [] [] (fun x hx=>Nat.le_trans (hns x hx) (by omega)) (fun t ht=>⟨hn.wf t (by unfold ND.terms; simp [ht]),by have:=hn.vsize ht; omega,fun s hs=>Nat.le_trans (hm t (by unfold ND.terms; simp [ht]) s hs) (by omega)⟩) (by simp) (by simp only [List.length_nil]; omega)
 omega
set_option maxRecDepth 10000 in
set_option maxHeartbeats 2000000 in
theorem answer_code (w:World) (nv gv vv rv kv dv:Value) (uu:Nat) (names:Names) (n:ND) (hg:∃ a l c,gv = .slice a l c) (hr:∃ a l c,rv = .slice a l c) (hk:∃ a l c,kv = .slice a l c) (hd:∃ a l c,dv = .slice a l c) (hnv:w.ownsRow 0 9 1 nv names.length (strs names)) (hv:TermsIn w vv n.vals) (hn:NOk n) (hm:NNm n) (hl:n.vals.length=names.length) (hs:names.length≤60) (hns:∀ x ∈ names,x.length≤8) :
  Calls Tryz.prog 43 #[.agg #[nv,gv,vv,rv,.int .i64 uu,kv,dv]] w fun e w'=>Ext w w'∧e = .returned (.string ⟨(answerN names n).toArray⟩):=by
 obtain ⟨g1,g2,g3,rfl⟩:=hg
 obtain ⟨r1,r2,r3,rfl⟩:=hr
 obtain ⟨k1,k2,k3,rfl⟩:=hk
 obtain ⟨d1,d2,d3,rfl⟩:=hd
 obtain ⟨na,ncap,rfl⟩:=owns_slice hnv
 obtain ⟨va,vcap,rfl⟩:=hv.shape
 have HA:Hid (∀ o,Calls Tryz.prog 70 #[.slice na names.length ncap,.slice va n.vals.length vcap] (w.alloc o) fun e w'=>Ext (w.alloc o) w'∧e = .returned (.string ⟨(answerN names n).toArray⟩)):=fun o=>by
  have hE:Ext w (w.alloc o):=(Ext.of (by repeat' (first | with_reducible exact Kept.refl _ _ | with_reducible apply Kept.drew | with_reducible apply Kept.drewN | with_reducible apply Kept.alloc | with_reducible refine Kept.setCell ?_ ?_ _ | exact fun h=>absurd h (by simp <;> omega))))
  exact answerText_any _ _ _ names n.vals (owns_same hnv (fun j hj=>hE.block j (hnv.lt j hj).2)) (hv.ext hE) (vals_tx hn hm (by omega)) hl.symm (vals_pairs hn hm (by omega) hs hns)
 clear hnv hv hn hm hl hs hns
 go_enter Tryz.func43,Tryz.ntmps43
 go_wp2_with fail
 refine (HA.out _).mono ?_
 rintro e w1 ⟨hE1,rfl⟩
 have HE1:=hide' hE1
 clear hE1
 go_wp2
 go_ret
 exact ⟨(Below.refl _ w |>.alloc (Nat.le_refl _) _).trans (HE1.out.mono (by simp)),rfl⟩
set_option maxRecDepth 10000 in
set_option maxHeartbeats 2000000 in
theorem yes_code:YesCode:=by
 intro p q x w hp hq hx
 have HC:=hide' (check_code p q x w hp hq hx)
 obtain ⟨Y,hY⟩:∃ Y,Y=yesN p q x:=⟨_,rfl⟩
 rw [← hY]
 have HY:=hide' hY
 clear hp hq hx hY
 go_enter Tryz.func19,Tryz.ntmps19
 go_wp2_with fail
 refine HC.out.mono ?_
 rintro e w1 ⟨hE1,hout⟩
 have hz1:=hE1.size
 have HE1:=hide' hE1
 clear hE1 HC
 rcases hout with ⟨hne,rfl⟩ | ⟨a,ks,n,m,hH,n1,nc,g1,g2,g3,v1,v2,v3,r1,r2,r3,uu,k1,kc,d1,dc,rfl,hN,hnames,hks,hds⟩
 ·obtain ⟨er,her⟩:∃ r,r=(heldN p q x).2.2.1:=⟨_,rfl⟩
  obtain ⟨pe,hpe⟩:∃ r,r=(heldN p q x).2.2.2:=⟨_,rfl⟩
  rw [← her,← hpe]
  rw [← her] at hne
  have Hy:Hid (Y=([],er,pe)):=by show _=_; rw [HY.out,yesN,if_neg (by rw [← her]; exact hne),← her,← hpe]
  have hb:((er:Int) != 0)=true:=by rw [bne_iff_ne]; omega
  clear her hpe hne
  unfold zeroProof
  go_wp2_with fail
  go_quiet (fail)
  go_wp2
  go_ret3
  rw [Hy.out]
  exact ⟨rfl,HE1.out.trans (Kept.below (S:=fun i=>w.heap.size≤i) (by repeat' (first | with_reducible exact Kept.refl _ _ | with_reducible apply Kept.drew | with_reducible apply Kept.drewN | with_reducible apply Kept.alloc | with_reducible refine Kept.setCell ?_ ?_ _ | (intro _; simp only; omega))) (by omega) (fun _ h=>h))⟩
 ·have hvl:=heldN_vals hH.ask hH.held
  have hsm:=ask_small hH.ask
  obtain ⟨_,_,_,_,_,_,_,_,ha8⟩:=ask_parsed hH.ask
  have hans:answerN a.2 n=answerN a.2 m:=by unfold answerN; rw [hH.same.valsC hH.ok]
  have Hy:Hid (Y=(answerN a.2 n,0,0)):=by show _=_; rw [HY.out,yesN,hH.held,hans]; simp
  have HAn:Hid (∀ y,Ext w1 y→Calls Tryz.prog 43 #[.agg #[.slice n1 a.2.length nc,.slice g1 g2 g3,.slice v1 v2 v3,.slice r1 r2 r3,.int .i64 uu,.slice k1 ks.length kc,.slice d1 (m.done.map (·.2)).length dc]] y fun e w'=>Ext y w'∧e = .returned (.string ⟨(answerN a.2 n).toArray⟩)):=fun y hE =>
   answer_code y _ _ _ _ _ _ uu a.2 n ⟨_,_,_,rfl⟩ ⟨_,_,_,rfl⟩ ⟨_,_,_,rfl⟩ ⟨_,_,_,rfl⟩ (owns_same hnames (fun j hj=>hE.block j (hnames.lt j hj).2)) (hN.vals.ext hE) hH.ok hH.nm (by rw [hH.same.vl,hvl]) hsm ha8
  obtain ⟨T,hT⟩:∃ T,T=answerN a.2 n:=⟨_,rfl⟩
  rw [← hT] at HAn Hy
  obtain ⟨D,hD⟩:∃ D,D=(m.done.map (·.2)).length:=⟨_,rfl⟩
  rw [← hD] at HAn ⊢
  clear hvl hsm ha8 hans hH hN hnames hks hds hT hD
  go_wp2_with fail
  refine (HAn.out _ ((Below.refl _ w1 |>.alloc (Nat.le_refl _) _).alloc (by simp) _)).mono ?_
  rintro e w2 ⟨hE2,rfl⟩
  have HE2:=hide' hE2
  clear hE2
  go_wp2
  go_ret3
  rw [Hy.out]
  exact ⟨rfl,(HE1.out.trans (Kept.below (S:=fun i=>w.heap.size≤i) (by repeat' (first | with_reducible exact Kept.refl _ _ | with_reducible apply Kept.drew | with_reducible apply Kept.drewN | with_reducible apply Kept.alloc | with_reducible refine Kept.setCell ?_ ?_ _ | (intro _; simp only; omega))) (by omega) (fun _ h=>h))).trans (HE2.out.mono (by simp; omega))⟩
theorem yeses_hold:Rows.YesesCardSaid:=yeses_card yes_code
end Go.Proofs.YtlmjilpjmgjjcaaGreatDoor
