/-
  PROVED HERE: what the program's method 'leaveTried' of a search does (the conditions stand in each statement).
-/
import Derived.Test.YtlmjilpjmgjjcabGreatDoorT8
import Derived.Deep.QuietTactic
import Derived.BigQuiet
set_option linter.unusedSimpArgs false
set_option linter.unusedVariables false
set_option maxRecDepth 10000
set_option maxHeartbeats 4000000
namespace Go.Proofs.YtlmjilpjmgjjcabGreatDoor
open Go.RowKit
theorem Yal {n:ND} {c:Cls} {k:Nat} (h:(tryN n c k).2=1∨(tryN n c k).2=2):∃ d ds,n.goals.map (·.2)=d::ds∧(tryN n c k).1.goals.map (·.2)=List.replicate c.body.length (d+1)++ds∧(tryN n c k).1.done.map (·.2)=n.done.map (·.2)++[d]:=by
 by_cases hex:∃ r:ND × Nat,∃ m,NOk m∧Same m n∧Out m c k r.2 r.1
 ·have e:tryN n c k=Classical.choose hex:=by unfold tryN; rw [dif_pos hex]
  obtain ⟨m,_,hS,g,gs,hg,ho⟩:=Classical.choose_spec hex
  rw [e] at h ⊢
  rcases ho with ⟨h0,_⟩ | ⟨h0,_⟩ | ⟨σ,_,_,_,h4⟩
  ·omega
  ·omega
  ·rw [h4]
   refine ⟨g.2,gs.map (·.2),?_,?_,?_⟩
   ·rw [← hS.gd,hg]; rfl
   ·simp only [Zaq]
    rw [Zma,Qr,List.map_map]
    congr 1
    generalize c.body=b
    induction b with
    | nil=>rfl
    | cons x b ih=>rw [List.map_cons,ih,Qf,List.replicate_succ]; rfl
   ·simp only [Zaq]
    rw [Zma,Qr,hS.dd]
    rfl
 ·have e:tryN n c k=(⟨[],[],[],[],0⟩,0):=by unfold tryN; rw [dif_neg hex]
  rw [e] at h
  simp at h
theorem Yeu {cs:List Cls} {m:ND} {k i:Nat} {ks:List Nat} (h:(Zau cs m (k::ks) i).2=(0,0)):∃ c,cs[k]?=some c∧m.goals≠[]∧((tryN m c k).2=1∨(tryN m c k).2=2)∧Zau cs m (k::ks) i=Zau cs (tryN m c k).1 ks (i+1):=by
 cases hc:cs[k]? with
 | none =>
  have:=Zem (cs:=cs) (n:=m) (k:=k) (i:=i) (ks:=ks) (Or.inr (List.getElem?_eq_none_iff.1 hc))
  rw [this] at h; simp at h
 | some c =>
  by_cases hg:m.goals=[]
  ·have:=Zem (cs:=cs) (n:=m) (k:=k) (i:=i) (ks:=ks) (Or.inl hg)
   rw [this] at h; simp at h
  ·by_cases hq:(tryN m c k).2=1∨(tryN m c k).2=2
   ·exact ⟨c,rfl,hg,hq,Zla hc hg hq⟩
   ·have:=Zhn (i:=i) (ks:=ks) hc hq
    rw [this] at h; simp at h
structure DepAt (w:World) (ds ls:List Nat) (dv lv:Value) (wr:World):Prop where
 ext:Ext w wr
 dep:wr.ownsRow w.heap.size 3 1 dv ds.length (ints ds)
 lef:wr.ownsRow w.heap.size 3 1 lv ls.length (ints ls)
 off:∀ j,dv.ownBlock=some j→¬ lv.ownBlock=some j
theorem DepAt.depApp {w w1 w2:World} {ds ls:List Nat} {dv lv dv2:Value} {d:Nat} (h:DepAt w ds ls dv lv w1) (hap:Appended w1 w.heap.size 3 1 dv (ds.length+1) (ints ds++[.int .i64 d]) dv2 w2):DepAt w (ds++[d]) ls dv2 lv w2:=by
 obtain ⟨h1,h2,h3,h4⟩:=h
 refine ⟨h1.trans (hap.kept.below h1.size (fun j hj=>(h2.lt j hj).1)),by have:=hap.owns; simpa [ints] using this,hap.kept.owns h3 (fun j hj hS=>h4 j hS hj),fun j hj hl => ?_⟩
 rcases hap.where_ with e | ⟨g,e,hg⟩
 ·rw [e] at hj; exact h4 j hj hl
 ·rw [e] at hj
  simp only [Qo] at hj
  have:=(h3.lt j hl).2
  omega
theorem DepAt.lefApp {w w1 w2:World} {ds ls:List Nat} {dv lv lv2:Value} {d:Nat} (h:DepAt w ds ls dv lv w1) (hap:Appended w1 w.heap.size 3 1 lv (ls.length+1) (ints ls++[.int .i64 d]) lv2 w2):DepAt w ds (ls++[d]) dv lv2 w2:=by
 obtain ⟨h1,h2,h3,h4⟩:=h
 refine ⟨h1.trans (hap.kept.below h1.size (fun j hj=>(h3.lt j hj).1)),hap.kept.owns h2 (fun j hj hS=>h4 j hj hS),by have:=hap.owns; simpa [ints] using this,fun j hj hl => ?_⟩
 rcases hap.where_ with e | ⟨g,e,hg⟩
 ·rw [e] at hl; exact h4 j hj hl
 ·rw [e] at hl
  simp only [Qo] at hl
  have:=(h2.lt j hj).2
  omega
theorem DepAt.cut {w wr:World} {ds ls:List Nat} {dv:Value} {d g cap:Nat} (h:DepAt w ds (ls++[d]) dv (.slice (some ⟨g,0,none⟩) (ls.length+1) cap) wr):DepAt w ds ls dv (.slice (some ⟨g,0,none⟩) ls.length cap) wr:=by
 obtain ⟨h1,h2,h3,h4⟩:=h
 rw [Qg,Qf,Jt] at h3
 have:=Zpd h3
 refine ⟨h1,h2,?_,h4⟩
 have e:(ints (ls++[d])).take ls.length=ints ls:=by
  unfold ints
  rw [Qr,List.take_append_of_le_length (by simp),List.take_of_length_le (by simp)]
 rw [e] at this
 exact this
def Yis (ds:List Nat) (w:World) (e:Ending) (w':World):Prop:=Ext w w'∧∃ x c,e = .returned (.slice x ds.length c)∧w'.ownsRow 0 3 1 (.slice x ds.length c) ds.length (ints ds)
theorem Ztk (w:World) (cv hv bv nv kv:Value) (cs:List Cls) (xs:List (List Value)) (a:List (List Sym) × Names) (ks:List Nat) (hP:ProgIn w cv cs xs) (hh:∃ a n x,hv = .slice a n x) (hb:TermsIn w bv a.1) (hns:w.ownsRow 0 9 1 nv a.2.length (strs a.2)) (hk:w.ownsRow 0 3 1 kv ks.length (ints ks))
  (hcs:∀ c ∈ cs,COk c) (hcl:cs.length≤24) (hal:a.1.length≤6) (hkl:ks.length≤400) (hk9:∀ k ∈ ks,k≤99) (hf:(Zau cs (topN a) ks 0).2=(0,0)) :
  Calls Tryz.prog 38 #[cv,.agg #[hv,bv,nv],kv] w (Yis ((Zau cs (topN a) ks 0).1.done.map (·.2)) w):=by
 obtain ⟨h1,h2,h3,rfl⟩:=hh
 obtain ⟨ba,bcap,rfl⟩:=hb.shape
 obtain ⟨na,ncap,rfl⟩:=Zad hns
 obtain ⟨ka,kcap,rfl⟩:=Zad hk
 obtain ⟨la,lcap,rfl⟩:=Zad hP.owns
 have HP:=Zac hP
 have Hk:=Zac hk
 have Hcs:=Zac hcs
 have Hk9:=Zac hk9
 have Hf:=Zac hf
 clear hP hb hns hk hcs hk9 hf
 go_enter Tryz.func38,Tryz.ntmps38
 go_wp2
 go_loopg [8,16] (a.1.length+1) (fun gk lv iv wr=>∃ (k:Nat),iv = .int .i64 k∧k≤a.1.length∧a.1.length - k<gk∧DepAt w [] (List.replicate k 0) (.slice none 0 0) lv wr)
 case atStart=>exact ⟨0,by go_num,Qm _,by omega,(Ext.of (by repeat' (first | with_reducible(first|exact Qx _ _|apply Kept.drew|apply Kept.drewN|apply Qz|refine Qy ?_ ?_ _)|exact fun h=>absurd h (by simp <;> omega)))),World.ownsRow_nil _ _ _ _,World.ownsRow_nil _ _ _ _,fun j hj=>by simp [Value.ownBlock] at hj⟩
 case round =>
  obtain ⟨k,rfl,hk,hgk,hD⟩:=hrel
  have hrow:=hD.lef
  rw [List.length_replicate] at hrow
  obtain ⟨sa,scap,rfl⟩:=Zad hrow
  have hsr:=hD.ext.size
  have HD:=Zac hD
  have Hrow:=Zac hrow
  clear hD hrow
  by_cases hlt:k<a.1.length
  ·go_wp2_with (at_builtin; go_loud (refine Zam wr rfl (.tmp 18) (.tmp 19) 22 rfl w.heap.size 3 Tryz.infoInt Tryz.underlying22 rfl (by decide) (.slice sa k scap) k (ints (List.replicate k 0)) rfl Hrow.out #[.int .i64 0] (N:=wr.heap.size) rfl (by simp) rfl (Zib _) ?_ ?_ ?_))
   ·omega
   ·omega
   intro v2 w2 hap
   obtain ⟨a2,c2,rfl⟩:=Zad hap.owns
   have hD2:=HD.out.lefApp (d:=0) (w2:=w2) (lv2 := .slice a2 (k+1) c2) (by rw [List.length_replicate]; exact hap)
   rw [← List.replicate_succ'] at hD2
   have HD2:=Zac hD2
   clear hap hD2
   go_wp2
   go_roundg (a.1.length - k)
   case measure=>omega
   case rel=>exact ⟨k+1,by go_num,by omega,by omega,HD2.out⟩
  ·have hek:k=a.1.length:=by omega
   subst hek
   obtain ⟨wo,hwo⟩:∃ x,x=wr:=⟨_,rfl⟩
   subst hwo
   have HD0:Hid (DepAt w ((topN a).done.map (·.2)) ((topN a).goals.map (·.2)).reverse (.slice none 0 0) (.slice sa a.1.length scap) wo):=by
    have e1:(topN a).done.map (·.2)=[]:=rfl
    have e2:((topN a).goals.map (·.2)).reverse=List.replicate a.1.length 0:=by
     have:(topN a).goals.map (·.2)=List.replicate a.1.length 0:=by
      unfold topN
      simp only [List.map_map]
      generalize a.1=l
      induction l with
      | nil=>rfl
      | cons x l ih=>rw [List.map_cons,ih,Qf,List.replicate_succ]; rfl
     rw [this,List.reverse_replicate]
    rw [e1,e2]
    exact HD.out
   have hb0:Hid (∀ x ∈ (topN a).goals.map (·.2),x≤0):=fun x hx=>by
    unfold topN at hx
    simp at hx
    omega
   clear HD Hrow
   go_wp2
   go_loopg [7,8,24] (ks.length+1) (fun gk dv lv iv wr=>∃ (i:Nat) (m:ND),iv = .int .i64 i∧i≤ks.length∧ks.length - i<gk∧Zau cs (topN a) ks 0=Zau cs m (ks.drop i) i∧(∀ x ∈ m.goals.map (·.2),x≤i)∧m.goals.length≤6+6 * i∧m.done.length=i∧DepAt w (m.done.map (·.2)) (m.goals.map (·.2)).reverse dv lv wr)
   case atStart=>exact ⟨0,topN a,by go_num,Qm _,by omega,by simp,hb0.out,by unfold topN; simp; omega,by unfold topN; rfl,HD0.out⟩
   case round =>
    obtain ⟨i,m,rfl,hi,hgi,hfo,hbd,hgl,hdl,hD⟩:=hrel
    have hdn:=hD.dep
    have hln:=hD.lef
    rw [Ql,hdl] at hdn
    rw [List.length_reverse,Ql] at hln
    obtain ⟨da,dcap,rfl⟩:=Zad hdn
    obtain ⟨sa,scap,rfl⟩:=Zad hln
    have hsr:=hD.ext.size
    have Hfo:=Zac hfo
    have Hbd:=Zac hbd
    have HD:=Zac hD
    have Hdn:=Zac hdn
    have Hln:=Zac hln
    clear hfo hbd hD hdn hln
    by_cases hlt:i<ks.length
    ·obtain ⟨k,hk⟩:∃ k,ks[i]?=some k:=⟨_,Qb hlt⟩
     have hdk:ks.drop i=k::ks.drop (i+1):=by rw [List.drop_eq_getElem_cons hlt,(Qa.1 hk).2]
     have hk99:=Hk9.out k (Qh hk)
     have hfz:=Hf.out
     rw [Hfo.out,hdk] at hfz
     obtain ⟨c,hc,hmg,hq,hgo⟩:=Yeu hfz
     obtain ⟨d,ds,hg1,hg2,hd1⟩:=Yal hq
     have hkc2:=(Qa.1 hc).1
     have hfo2:Zau cs (topN a) ks 0=Zau cs (tryN m c k).1 (ks.drop (i+1)) (i+1):=by rw [Hfo.out,hdk,hgo]
     have hdi:d≤i:=Hbd.out d (by rw [hg1]; simp)
     have hbl:=(Hcs.out c (Qh hc)).bn
     have hL:m.goals.length=ds.length+1:=by have:=congrArg List.length hg1; simpa using this
     have hbd2:∀ x ∈ (tryN m c k).1.goals.map (·.2),x≤i+1:=fun x hx=>by
      rw [hg2] at hx
      rcases Qk.1 hx with hx | hx
      ·have:=List.eq_of_mem_replicate hx; omega
      ·have:=Hbd.out x (by rw [hg1]; simp [hx]); omega
     have hgl2:(tryN m c k).1.goals.length≤6+6 * (i+1):=by
      have:=congrArg List.length hg2
      simp at this
      omega
     have hdl2:(tryN m c k).1.done.length=i+1:=by
      have:=congrArg List.length hd1
      simp at this
      omega
     have hDr:=HD.out
     rw [hg1,List.reverse_cons] at hDr
     have hlr:=Hln.out
     rw [hg1,List.reverse_cons,hL] at hlr
     have hdr:=Hdn.out
     obtain ⟨dl,hdle⟩:∃ l,l=m.done.map (·.2):=⟨_,rfl⟩
     rw [← hdle] at hdr hDr hd1
     have hdll:dl.length=i:=by rw [hdle,Ql]; exact hdl
     obtain ⟨rs,hrs⟩:∃ l,l=ds.reverse:=⟨_,rfl⟩
     have hrl:ds.length=rs.length:=by rw [hrs]; simp
     rw [← hrs] at hlr hDr
     rw [hrl] at hlr hL
     rw [hL] at hDr ⊢
     obtain ⟨kb,kcap',kcur,hke,hBk,hkb,hkc⟩:=Zao Hk.out (by omega)
     simp only [Value.slice.injEq] at hke
     obtain ⟨rfl,_,rfl⟩:=hke
     have hkbw:=Zab hkb
     have k0:wr.cell? ⟨kb,i,none⟩=some (.int .i64 k):=(HD.out.ext.cell (p:=⟨kb,i,none⟩) hkbw).trans (Zai Hk.out i _ (by simp only [ints,Qj,hk,Option.map_some]))
     have hkbl:kb<wr.heap.size:=by omega
     obtain ⟨lb,lcap',lcur,hle,_,hlb,_⟩:=Zao HP.out.owns (by omega)
     simp only [Value.slice.injEq] at hle
     obtain ⟨rfl,_,rfl⟩:=hle
     have hlbw:=Zab hlb
     obtain ⟨cv0,cv1,cv2,e0,e1,e2,hcl2⟩:=HP.out.cell hc
     obtain ⟨b2,b3,rfl⟩:=hcl2.body.shape
     obtain ⟨sg,scap',scur,hse,_,hsb,_⟩:=Zao hlr (by omega)
     simp only [Value.slice.injEq] at hse
     obtain ⟨rfl,_,rfl⟩:=hse
     have s0:wr.cell? ⟨sg,rs.length,none⟩=some (.int .i64 d):=Zai hlr _ _ (by simp [ints])
     have hsgl:=Zab hsb
     have HDr:=Zac hDr
     have Hdr:Hid (wr.ownsRow w.heap.size 3 1 (.slice da i dcap) i (ints dl)):=hdr
     have Hfo2:=Zac hfo2
     have Hbd2:=Zac hbd2
     have Hg2:=Zac hg2
     have Hd1:=Zac hd1
     have He1:=Zac e1
     have Hrs:=Zac hrs
     have Hdll:=Zac hdll
     have hn1:¬ ((rs.length:Int)<0):=by omega
     have hn2:¬ ((k:Int)<0):=by omega
     have hn3:¬ ((cs.length:Int)≤(k:Int)):=by omega
     clear hk hdk hfz hc hmg hq hgo hg1 hg2 hd1 hfo2 hbd2 hDr hlr hdr hdle hrs hkb hlb e0 e1 e2 hcl2 hsb hdll hrl
     go_wp2_with (at_builtin; go_loud (refine Zam wr rfl (.tmp 47) (.tmp 49) 22 rfl w.heap.size 3 Tryz.infoInt Tryz.underlying22 rfl (by decide) (.slice da i dcap) i (ints dl) rfl Hdr.out #[.int .i64 d] (N:=wr.heap.size) rfl (by simp) rfl (Zib _) ?_ ?_ ?_))
     ·omega
     intro v2 w2 hap
     obtain ⟨a2,c2,rfl⟩:=Zad hap.owns
     have hD2:=(HDr.out.depApp (d:=d) (w2:=w2) (dv2 := .slice a2 (i+1) c2) (by rw [Hdll.out]; exact hap)).cut
     have hz2:=hap.kept.size
     have hlbl:lb<w2.heap.size:=by omega
     have l1:w2.cell? ⟨lb,k * 3+1,none⟩=some (.slice b2 c.body.length b3):=(hD2.ext.cell (p:=⟨lb,k * 3+1,none⟩) hlbw).trans He1.out
     have hz0:=hD2.ext.size
     have HD2:=Zac hD2
     have hsgl2:sg<w2.heap.size:=by omega
     have hrcap:rs.length≤scap:=by omega
     clear hap hD2 k0 s0
     obtain ⟨wp,hwp⟩:∃ x,x=w2:=⟨_,rfl⟩
     subst hwp
     go_wp2
     go_loopg [8,60] (c.body.length+1) (fun gk lv iv wr=>∃ (j:Nat),iv = .int .i64 j∧j≤c.body.length∧c.body.length - j<gk∧DepAt w (dl++[d]) (rs++List.replicate j (d+1)) (.slice a2 (i+1) c2) lv wr)
     case atStart=>exact ⟨0,by go_num,Qm _,by omega,by simpa using HD2.out⟩
     case round =>
      obtain ⟨j,rfl,hj,hgj,hD3⟩:=hrel
      have hl3:=hD3.lef
      rw [Qg,List.length_replicate] at hl3
      obtain ⟨ta,tcap,rfl⟩:=Zad hl3
      have hs3:=hD3.ext.size
      have HD3:=Zac hD3
      have Hl3:=Zac hl3
      clear hD3 hl3
      by_cases hjl:j<c.body.length
      ·go_wp2_with (at_builtin; go_loud (refine Zam wr rfl (.tmp 62) (.tmp 65) 22 rfl w.heap.size 3 Tryz.infoInt Tryz.underlying22 rfl (by decide) (.slice ta (rs.length+j) tcap) (rs.length+j) (ints (rs++List.replicate j (d+1))) rfl Hl3.out #[.int .i64 ((d:Int)+1)] (N:=wr.heap.size) rfl (by simp) rfl (Zib _) ?_ ?_ ?_))
       ·omega
       ·omega
       intro v4 w4 hap
       obtain ⟨a4,c4,rfl⟩:=Zad hap.owns
       have hD4:=HD3.out.lefApp (d:=d+1) (w2:=w4) (lv2 := .slice a4 (rs.length+j+1) c4) (by rw [Qg,List.length_replicate]; exact hap)
       rw [Qi,← List.replicate_succ'] at hD4
       have HD4:=Zac hD4
       clear hap hD4
       go_wp2
       go_roundg (c.body.length - j)
       case measure=>omega
       case rel=>exact ⟨j+1,by go_num,by omega,by omega,HD4.out⟩
      ·have hej:j=c.body.length:=by omega
       subst hej
       go_wp2
       go_roundg (ks.length - i)
       case measure=>omega
       case rel =>
        refine ⟨i+1,(tryN m c k).1,by go_num,by omega,by omega,Hfo2.out,Hbd2.out,hgl2,hdl2,?_⟩
        rw [Hd1.out,Hg2.out,List.reverse_append,List.reverse_replicate,← Hrs.out]
        exact HD3.out
    ·have hei:i=ks.length:=by omega
     subst hei
     have hm:(Zau cs (topN a) ks 0).1=m:=by
      have h1:=Hf.out
      have e:Zau cs m [] ks.length=if m.goals=[] then (m,0,0) else (m,7,ks.length):=by unfold Zau; rfl
      rw [Hfo.out,List.drop_eq_nil_of_le (Qe _),e] at h1
      rw [Hfo.out,List.drop_eq_nil_of_le (Qe _),e]
      by_cases hg:m.goals=[]
      ·rw [if_pos hg]
      ·rw [if_neg hg] at h1; simp at h1
     have Hm:=Zac hm
     clear hm
     go_wp2
     go_ret
     rw [Hm.out]
     refine ⟨HD.out.ext,da,dcap,by rw [Ql,hdl]; rfl,?_⟩
     rw [Ql,hdl]
     exact Zba Hdn.out (Qm _)
theorem Yki:∀ {met:List Nat} {n k:Nat},(∀ i,i<k→met[i]?≠some n)→met[k]?=some n→met.idxOf n=k:=by
 intro met
 induction met with
 | nil=>intro n k _ h; simp at h
 | cons x met ih =>
  intro n k h1 h2
  rw [List.idxOf_cons]
  cases k with
  | zero=>simp at h2; subst h2; simp
  | succ k =>
   have hx:x≠n:=fun e=>h1 0 (by omega) (by simp [e])
   have:(x == n)=false:=by rw [Qu]; exact hx
   rw [this]
   simp only [cond_false]
   rw [ih (n:=n) (k:=k) (fun i hi=>by have:=h1 (i+1) (by omega); simpa using this) (by simpa using h2)]
theorem Yhm:∀ {met:List Nat} {n:Nat},(∀ i,i<met.length→met[i]?≠some n)→met.idxOf n=met.length:=by
 intro met
 induction met with
 | nil=>intro n _; rfl
 | cons x met ih =>
  intro n h1
  rw [List.idxOf_cons]
  have hx:x≠n:=fun e=>h1 0 (by simp) (by simp [e])
  have:(x == n)=false:=by rw [Qu]; exact hx
  rw [this]
  simp only [cond_false,Qf]
  rw [ih (n:=n) (fun i hi=>by have:=h1 (i+1) (by simp; omega); simpa using this)]
theorem Zvk (w:World) (n:Nat) (lv:Value) (met:List Nat) (h:w.ownsRow 0 3 1 lv met.length (ints met)) (hl:met.length≤10000) (hn:n≤200000) :
  Calls Tryz.prog 76 #[.int .i64 n,lv] w fun e w'=>e = .returned (.int .i64 (met.idxOf n))∧w'=w:=by
 obtain ⟨la,lcap,rfl⟩:=Zad h
 have H:=Zac h
 clear h
 go_enter Tryz.func76,Tryz.ntmps76
 go_wp2
 go_loopg [5] (met.length+1) (fun gk pv wr=>∃ (k:Nat),pv = .int .i64 k∧k≤met.length∧met.length - k<gk∧wr=w∧∀ i,i<k→met[i]?≠some n)
 case atStart=>exact ⟨0,by go_num,Qm _,by omega,rfl,fun i hi=>by omega⟩
 case round =>
  obtain ⟨k,rfl,hk,hgk,rfl,hbef⟩:=hrel
  have Hbef:=Zac hbef
  clear hbef
  by_cases hlt:k<met.length
  ·have hlt':(k:Int)<(met.length:Int):=by omega
   obtain ⟨x,hx⟩:∃ x,met[k]?=some x:=⟨_,Qb hlt⟩
   obtain ⟨g,cap',cur,he,_,hgb,_⟩:=Zao H.out (by omega)
   simp only [Value.slice.injEq] at he
   obtain ⟨rfl,_,rfl⟩:=he
   have x0:wr.cell? ⟨g,k,none⟩=some (.int .i64 x):=Zai H.out k _ (by simp only [ints,Qj,hx,Option.map_some])
   have hgl:=Zab hgb
   have Hx:=Zac hx
   clear hx hgb
   by_cases hxn:x=n
   ·subst hxn
    have Hi:Hid (met.idxOf x=k):=Yki Hbef.out Hx.out
    go_wp2
    go_ret
    exact ⟨by rw [Hi.out]; simp,rfl⟩
   ·have hb:((x:Int) != (n:Int))=true:=by rw [bne_iff_ne]; omega
    go_wp2
    go_roundg (met.length - k)
    case measure=>omega
    case rel =>
     refine ⟨k+1,by go_num,by omega,by omega,rfl,fun i hi => ?_⟩
     by_cases e:i=k
     ·subst e
      rw [Hx.out]
      simpa using hxn
     ·exact Hbef.out i (by omega)
  ·have hek:k=met.length:=by omega
   subst hek
   have Hi:Hid (met.idxOf n=met.length):=Yhm Hbef.out
   have hlt':¬ ((met.length:Int)<(met.length:Int)):=by omega
   go_wp2
   go_ret
   exact ⟨by rw [Hi.out]; simp,rfl⟩
theorem TermsAt.other {w w':World} {B B2 n s:Nat} {e:TypeId} {v vv:Value} {ls:List (List Sym)} {vs ys:List Value} (h:TermsAt w B v ls vs) (hv:w.ownsRow B2 e s vv n ys) (he1:72≠e) (he2:102≠e) (hk:Kept (Zbl vv) w w'):TermsAt w' B v ls vs :=
 ⟨hk.owns h.owns (fun j hj hS=>by
  obtain ⟨cur,hc⟩:=Zbk hv j hS
  exact Zag h.owns he1 hc hj),fun i l hi=>by
  obtain ⟨x,h1,h2⟩:=h.all i l hi
  refine ⟨x,h1,hk.owns h2 (fun j hj hS => ?_)⟩
  obtain ⟨cur,hc⟩:=Zbk hv j hS
  exact Zag h2 he2 hc hj⟩
structure OrdB (w:World) (Bc:Nat) (rl:List (List Sym)) (rv:Value) (xs:List Value) (met:List Nat) (mv:Value) (ch:List Sym) (cv:Value) (wr:World):Prop where
 ext:Ext w wr
 row:TermsAt wr w.heap.size rv rl xs
 low:∀ x ∈ xs,∀ j,x.ownBlock=some j→j<Bc
 met:wr.ownsRow w.heap.size 3 1 mv met.length (ints met)
 b1:w.heap.size≤Bc
 b2:Bc≤wr.heap.size
 chg:wr.ownsRow Bc 102 3 cv ch.length (Zaj ch)
theorem OrdB.on {w wr w1:World} {Bc:Nat} {rl:List (List Sym)} {rv mv cv:Value} {xs:List Value} {met:List Nat} {ch:List Sym} (h:OrdB w Bc rl rv xs met mv ch cv wr) (e:Ext wr w1):OrdB w Bc rl rv xs met mv ch cv w1:=by
 obtain ⟨h1,h2,h3,h4,h5,h6,h7⟩:=h
 exact ⟨h1.trans (e.mono h1.size),h2.ext e,h3,Zah h4 (fun j hj=>e.block j (h4.lt j hj).2),h5,Qq h6 e.size,Zah h7 (fun j hj=>e.block j (h7.lt j hj).2)⟩
theorem OrdB.metApp {w w1 w2:World} {Bc n:Nat} {rl:List (List Sym)} {rv mv mv2 cv:Value} {xs:List Value} {met:List Nat} {ch:List Sym} (h:OrdB w Bc rl rv xs met mv ch cv w1) (hap:Appended w1 w.heap.size 3 1 mv (met.length+1) (ints met++[.int .i64 n]) mv2 w2):OrdB w Bc rl rv xs (met++[n]) mv2 ch cv w2:=by
 obtain ⟨h1,h2,h3,h4,h5,h6,h7⟩:=h
 have hsz:=hap.kept.size
 refine ⟨h1.trans (hap.kept.below h1.size (fun j hj=>(h4.lt j hj).1)),h2.other h4 (by decide) (by decide) hap.kept,h3,?_,h5,by omega,hap.kept.owns h7 (fun j hj hS => ?_)⟩
 ·have:=hap.owns
  simpa [ints] using this
 ·obtain ⟨cur,hc⟩:=Zbk h4 j hS
  exact Zag h7 (by decide) hc hj
theorem OrdB.chApp {w w1 w2:World} {Bc:Nat} {rl:List (List Sym)} {rv mv cv cv2:Value} {xs:List Value} {met:List Nat} {ch:List Sym} {s:Sym} (h:OrdB w Bc rl rv xs met mv ch cv w1) (hap:Appended w1 Bc 102 3 cv (ch.length+1) (Zaj ch++Zbw s) cv2 w2):OrdB w Bc rl rv xs met mv (ch++[s]) cv2 w2:=by
 obtain ⟨h1,h2,h3,h4,h5,h6,h7⟩:=h
 have hsz:=hap.kept.size
 refine ⟨h1.trans (hap.kept.below h1.size (fun j hj=>Qq h5 (h7.lt j hj).1)),⟨hap.kept.owns h2.owns (fun j hj hS => ?_),fun i l hi => ?_⟩,h3,hap.kept.owns h4 (fun j hj hS => ?_),h5,by omega,?_⟩
 ·obtain ⟨cur,hc⟩:=Zbk h7 j hS
  exact Zag h2.owns (by decide) hc hj
 ·obtain ⟨x,e1,e2⟩:=h2.all i l hi
  refine ⟨x,e1,hap.kept.owns e2 (fun j hj hS => ?_)⟩
  have:=h3 x (Qh e1) j hj
  have:=(h7.lt j hS).1
  omega
 ·obtain ⟨cur,hc⟩:=Zbk h7 j hS
  exact Zag h4 (by decide) hc hj
 ·have:=hap.owns
  rw [Zdj,Qg]
  simpa [Zaj] using this
theorem OrdB.box {w w1 w2:World} {Bc M:Nat} {cs:Array Value} {fr:Nat × Nat} {rl:List (List Sym)} {rv mv cv:Value} {xs:List Value} {met:List Nat} {ch:List Sym} (h:OrdB w Bc rl rv xs met mv ch cv w1) (hM:w1.heap[M]?=some (.cells cs 102 fr)) (hB:Bc≤M) (hc:∀ j,cv.ownBlock=some j→j≠M) (hk:Kept (fun k=>k=M) w1 w2):OrdB w Bc rl rv xs met mv ch cv w2:=by
 obtain ⟨h1,h2,h3,h4,h5,h6,h7⟩:=h
 have hsz:=hk.size
 refine ⟨h1.trans (hk.below h1.size (fun j hj=>by omega)),⟨Zct h2.owns hM (by decide) hk,fun i l hi => ?_⟩,h3,Zct h4 hM (by decide) hk,h5,by omega,hk.owns h7 (fun j hj hS=>hc j hj hS)⟩
 obtain ⟨x,e1,e2⟩:=h2.all i l hi
 refine ⟨x,e1,hk.owns e2 (fun j hj hS => ?_)⟩
 have:=h3 x (Qh e1) j hj
 have hS:j=M:=hS
 omega
theorem TermsAt.words {w:World} {B:Nat} {v:Value} {ls:List (List Sym)} {vs:List Value} (h:TermsAt w B v ls vs):∀ x ∈ vs,∀ j,x.ownBlock=some j→j<w.heap.size:=fun x hx j hj=>by
 have hlen:vs.length=ls.length:=by have:=h.owns.1; omega
 obtain ⟨i,hi⟩:=List.mem_iff_getElem?.1 hx
 have hil:=(Qa.1 hi).1
 obtain ⟨y,h3,h4⟩:=h.all i _ (Qb (by omega))
 rw [hi] at h3
 simp only [Qo] at h3
 subst h3
 exact (h4.lt j hj).2
theorem Yhn (n:Nat) (met:List Nat):(meet n met).length≤met.length+1:=by unfold meet; split <;> simp
theorem Zox:∀ (l:List Sym) (met:List Nat),(Zaw l met).2.length≤met.length+l.length:=by
 intro l
 induction l with
 | nil=>intro met; simp [Zaw]
 | cons s l ih =>
  intro met
  simp only [Zaw]
  split
  ·have:=ih (meet s.num met); have:=Yhn s.num met; simp; omega
  ·have:=ih met; simp; omega
theorem Zoy:∀ (ts:List (List Sym)) (met:List Nat),(Zay ts met).2.length≤met.length+ts.flatten.length:=by
 intro ts
 induction ts with
 | nil=>intro met; simp [Zay]
 | cons t ts ih =>
  intro met
  simp only [Zay,List.flatten_cons,Qg]
  have:=ih (Zaw t met).2
  have:=Zox t met
  omega
def Ylo (ts:List (List Sym)) (w:World) (e:Ending) (w':World):Prop:=Ext w w'∧∃ x c,e = .returned (.slice x ts.length c)∧TermsIn w' (.slice x ts.length c) (Zay ts []).1
theorem Zvl (w:World) (tv:Value) (ts:List (List Sym)) (h:TermsIn w tv ts) (hl:ts.length≤1000) (hf:ts.flatten.length≤8000) (hok:∀ t ∈ ts,TmOk t) :
  Calls Tryz.prog 64 #[tv] w (Ylo ts w):=by
 obtain ⟨us,h⟩:=h
 obtain ⟨ta,tcap,rfl⟩:=Zad h.owns
 have H:=Zac h
 have Hok:=Zac hok
 have Hf:=Zac hf
 clear h hok hf
 go_enter Tryz.func64,Tryz.ntmps64
 go_wp2
 go_loopg [3,4,13] (ts.length+1) (fun gk rv mv iv wr=>∃ (k:Nat) (xs:List Value),iv = .int .i64 k∧k≤ts.length∧ts.length - k<gk∧OrdB w wr.heap.size (Zay (ts.take k) []).1 rv xs (Zay (ts.take k) []).2 mv [] (.slice none 0 0) wr)
 case atStart=>exact ⟨0,[],by go_num,Qm _,by omega,Below.refl _ _,TermsAt.nil _ _,by simp,World.ownsRow_nil _ _ _ _,Qe _,Qe _,World.ownsRow_nil _ _ _ _⟩
 case round =>
  obtain ⟨k,xs,rfl,hk,hgk,hA⟩:=hrel
  have hmet:(Zay (ts.take k) []).2.length≤8000:=by
   have h1:=Zoy (ts.take k) []
   have h2:=Hf.out
   have h3:(ts.take k).flatten.length≤ts.flatten.length:=by
    conv=>rhs; rw [← List.take_append_drop k ts,List.flatten_append,Qg]
    omega
   simp at h1
   simp at h2 h3
   omega
  have hlk:(Zay (ts.take k) []).1.length=k:=by rw [Zfr]; simp; omega
  obtain ⟨rl,hrl⟩:∃ r,r=(Zay (ts.take k) []).1:=⟨_,rfl⟩
  obtain ⟨met,hme⟩:∃ r,r=(Zay (ts.take k) []).2:=⟨_,rfl⟩
  rw [← hrl,← hme] at hA
  rw [← hme] at hmet
  rw [← hrl] at hlk
  have hrow:=hA.row.owns
  rw [hlk] at hrow
  obtain ⟨ra,rcap,rfl⟩:=Zad hrow
  obtain ⟨ma,mcap,rfl⟩:=Zad hA.met
  have hsr:=hA.ext.size
  have HA:=Zac hA
  have Hrl:=Zac hrl
  have Hme:=Zac hme
  have Hlk:=Zac hlk
  clear hA hrow hrl hme hlk
  by_cases hlt:k<ts.length
  ·obtain ⟨t,ht⟩:∃ t,ts[k]?=some t:=⟨_,Qb hlt⟩
   obtain ⟨x,hx,hxo⟩:=H.out.all _ t ht
   obtain ⟨xa,xcap,rfl⟩:=Zad hxo
   obtain ⟨g,cap',cur,he,_,hgb,_⟩:=Zao H.out.owns (by omega)
   simp only [Value.slice.injEq] at he
   obtain ⟨rfl,_,rfl⟩:=he
   have hgw:=Zab hgb
   have hgr:g<wr.heap.size:=by omega
   have x0:wr.cell? ⟨g,k,none⟩=some (.slice xa t.length xcap):=(HA.out.ext.cell (p:=⟨g,k,none⟩) hgw).trans (Zai H.out.owns _ _ hx)
   obtain ⟨o1,o2,o3⟩:=Hok.out t (Qh ht)
   have Hxo:Hid (WordAt w (.slice xa t.length xcap) t):=hxo
   have Ht:=Zac ht
   have Ho3:=Zac o3
   have Hta:Hid (∀ (i:Nat) s,t[i]?=some s→s.name=[]→s.args=0):=fun i s hs=>by obtain ⟨j,hj⟩:=o1; exact (Zjo hj hs).1
   have hm8:met.length+t.length≤9000:=by omega
   obtain ⟨wo,hwo⟩:∃ x,x=wr:=⟨_,rfl⟩
   subst hwo
   clear ht hx hxo hgb o1 o3
   go_wp2
   go_loopg [4,7,19] (t.length+1) (fun gk mv cv iv wr=>∃ (i:Nat),iv = .int .i64 i∧i≤t.length∧t.length - i<gk∧OrdB w wo.heap.size rl (.slice ra k rcap) xs (Zaw (t.take i) met).2 mv (Zaw (t.take i) met).1 cv wr)
   case atStart=>exact ⟨0,by go_num,Qm _,by omega,HA.out⟩
   case round =>
    obtain ⟨i,rfl,hi,hgi,hB⟩:=hrel
    have hmi:(Zaw (t.take i) met).2.length≤9000:=by
     have:=Zox (t.take i) met
     simp at this
     omega
    have hci:(Zaw (t.take i) met).1.length=i:=by rw [Zkb]; simp; omega
    obtain ⟨ch,hch⟩:∃ r,r=(Zaw (t.take i) met).1:=⟨_,rfl⟩
    obtain ⟨mt,hmt⟩:∃ r,r=(Zaw (t.take i) met).2:=⟨_,rfl⟩
    rw [← hch,← hmt] at hB
    rw [← hmt] at hmi
    rw [← hch] at hci
    have hcg:=hB.chg
    rw [hci] at hcg
    obtain ⟨ca,ccap,rfl⟩:=Zad hcg
    obtain ⟨na,ncap,rfl⟩:=Zad hB.met
    have hsi:=hB.ext.size
    have hb2:=hB.b2
    have HB:=Zac hB
    have Hch:=Zac hch
    have Hmt:=Zac hmt
    have Hci:=Zac hci
    clear hB hcg hch hmt hci x0
    by_cases hit:i<t.length
    ·obtain ⟨s,hs⟩:∃ s,t[i]?=some s:=⟨_,Qb hit⟩
     obtain ⟨g2,cap2,cur2,he2,_,hgb2,_⟩:=Zao Hxo.out (by omega)
     simp only [Value.slice.injEq] at he2
     obtain ⟨rfl,_,rfl⟩:=he2
     have ho:=Zah Hxo.out (fun j hj=>HB.out.ext.block j (Hxo.out.lt j hj).2)
     have hgw2:=Zab hgb2
     have hgr2:g2<wr.heap.size:=by omega
     have e0:wr.cell? ⟨g2,i * 3,none⟩=some (.string ⟨s.name.toArray⟩):=Zai ho _ _ (by have:=Zaz t i s hs 0 (by omega); rw [Nat.add_zero] at this; rw [this]; rfl)
     have e1:wr.cell? ⟨g2,i * 3+1,none⟩=some (.int .i64 s.num):=Zai ho _ _ (by rw [Zaz t i s hs 1 (by omega)]; rfl)
     have e2:wr.cell? ⟨g2,i * 3+2,none⟩=some (.int .i64 s.args):=Zai ho _ _ (by rw [Zaz t i s hs 2 (by omega)]; rfl)
     have hsn:=Ho3.out s (Qh hs)
     have hnx:Zaw (t.take (i+1)) met=(if s.name=[] then (ch++[⟨[],mt.idxOf s.num,s.args⟩],meet s.num mt) else (ch++[s],mt)):=by
      rw [List.take_add_one,hs]
      simp only [Option.toList]
      rw [Zka,← Hch.out,← Hmt.out]
      simp only [Zaw]
      split <;> rfl
     have Hnx:=Zac hnx
     clear hs ho hgb2 hnx
     cases hnm:s.name with
     | cons y ys =>
      rw [hnm] at e0
      have Hnx2:Hid (Zaw (t.take (i+1)) met=(ch++[s],mt)):=by show _=_; rw [Hnx.out,if_neg (by rw [hnm]; simp)]
      have Hs2:Hid (s=⟨y::ys,s.num,s.args⟩):=by show _=_; rw [← hnm]
      have hE:Ext wr (wr.alloc (.cells #[.string ⟨(y::ys).toArray⟩,.int .i64 s.num,.int .i64 s.args] 102)):=(Ext.of (by repeat' (first | with_reducible(first|exact Qx _ _|apply Kept.drew|apply Kept.drewN|apply Qz|refine Qy ?_ ?_ _)|exact fun h=>absurd h (by simp <;> omega))))
      have HB1:=Zac (HB.out.on hE)
      have Hrow:Hid ((wr.alloc (.cells #[.string ⟨(y::ys).toArray⟩,.int .i64 s.num,.int .i64 s.args] 102)).ownsRow wo.heap.size 102 3 (.slice ca i ccap) i (Zaj ch)):=by have:=HB1.out.chg; rw [Hci.out] at this; exact this
      clear hnm hE
      go_wp2_with (at_builtin; go_loud (refine Zam (wr.alloc (.cells #[.string ⟨(y::ys).toArray⟩,.int .i64 s.num,.int .i64 s.args] 102)) rfl (.tmp 41) (.tmp 43) 72 rfl wo.heap.size 102 Tryz.infoSym Tryz.underlying72 rfl (by decide) (.slice ca i ccap) i (Zaj ch) rfl Hrow.out #[.string ⟨(y::ys).toArray⟩,.int .i64 s.num,.int .i64 s.args] (N:=wr.heap.size+1) rfl (by simp) rfl (Zhk _ _ _) ?_ ?_ ?_))
      ·omega
      ·simp; omega
      intro v2 w2 hap
      obtain ⟨a2,c2,rfl⟩:=Zad hap.owns
      have hB2:=HB1.out.chApp (s:=s) (cv2 := .slice a2 (i+1) c2) (w2:=w2) (by rw [Hci.out,Hs2.out]; simpa [Zbw] using hap)
      have HB2:=Zac hB2
      clear hap hB2
      go_wp2
      go_roundg (t.length - i)
      case measure=>omega
      case rel=>exact ⟨i+1,by go_num,by omega,by omega,by rw [Hnx2.out]; exact HB2.out⟩
     | nil =>
      rw [hnm] at e0
      obtain ⟨P,hP⟩:∃ p,p=mt.idxOf s.num:=⟨_,rfl⟩
      have hPl:P≤mt.length:=by rw [hP]; exact List.idxOf_le_length
      have hE:∀ o,Ext wr (wr.alloc o):=fun o=>(Ext.of (by repeat' (first | with_reducible(first|exact Qx _ _|apply Kept.drew|apply Kept.drewN|apply Qz|refine Qy ?_ ?_ _)|exact fun h=>absurd h (by simp <;> omega))))
      have HPl:=Zac (Zvk (wr.alloc (.cells #[.string ⟨#[]⟩,.int .i64 s.num,.int .i64 s.args] 102)) s.num (.slice na mt.length ncap) mt (Zba (HB.out.on (hE _)).met (Qm _)) (by omega) hsn)
      rw [← hP] at HPl
      have Hnx2:Hid (Zaw (t.take (i+1)) met=(ch++[⟨[],P,s.args⟩],meet s.num mt)):=by show _=_; rw [Hnx.out,if_pos hnm,← hP]
      have Hmeet:Hid (meet s.num mt=if P=mt.length then mt++[s.num] else mt):=by show _=_; unfold meet; rw [← hP]
      have HE:=Zac hE
      have HBm:=Zac (HB.out.on (hE (.cells #[.string ⟨#[]⟩,.int .i64 s.num,.int .i64 s.args] 102)))
      clear hnm hE hP
      go_wp2_with fail
      refine HPl.out.mono ?_
      rintro e w1 ⟨rfl,rfl⟩
      by_cases hnew:P=mt.length
      ·subst hnew
       have hz:((mt.length:Int) == (mt.length:Int))=true:=by simp
       have Hmrow:Hid ((wr.alloc (.cells #[.string ⟨#[]⟩,.int .i64 s.num,.int .i64 s.args] 102)).ownsRow w.heap.size 3 1 (.slice na mt.length ncap) mt.length (ints mt)):=HBm.out.met
       go_wp2_with (at_builtin; go_loud (refine Zam (wr.alloc (.cells #[.string ⟨#[]⟩,.int .i64 s.num,.int .i64 s.args] 102)) rfl (.tmp 34) (.tmp 37) 22 rfl w.heap.size 3 Tryz.infoInt Tryz.underlying22 rfl (by decide) (.slice na mt.length ncap) mt.length (ints mt) rfl Hmrow.out #[.int .i64 s.num] (N:=wr.heap.size+1) rfl (by simp) rfl (Zib _) ?_ ?_ ?_))
       ·omega
       ·simp; omega
       intro v2 w2 hap
       obtain ⟨a2,c2,rfl⟩:=Zad hap.owns
       have hB2:=HBm.out.metApp (n:=s.num) hap
       have hbx:w2.heap[wr.heap.size]?=some (.cells #[.string ⟨#[]⟩,.int .i64 s.num,.int .i64 s.args] 102 (0,0)):=(hap.kept.block _ (by simp) (Zag Hmrow.out (by decide) (heap_alloc_new wr _))).trans (heap_alloc_new wr _)
       have hK:Kept (fun k=>k=wr.heap.size) w2 (w2.setCell ⟨wr.heap.size,1,none⟩ (.int .i64 mt.length)):=(Qx (only wr.heap.size) w2).put 1 _
       have hB3:=hB2.box hbx hb2 (fun j hj=>by have:=(HB.out.chg.lt j hj).2; omega) hK
       have y0:=Zaa hbx 0 _ rfl
       have y1:=Zaa hbx 1 _ rfl
       have y2:=Zaa hbx 2 _ rfl
       have yf:=fun i=>Zae hbx i
       have yl:=Zab hbx
       have hsz2:=hap.kept.size
       simp at hsz2
       have HB3:=Zac hB3
       have Hrow:Hid ((w2.setCell ⟨wr.heap.size,1,none⟩ (.int .i64 mt.length)).ownsRow wo.heap.size 102 3 (.slice ca i ccap) i (Zaj ch)):=by have:=hB3.chg; rw [Hci.out] at this; exact this
       have Hme2:Hid (meet s.num mt=mt++[s.num]):=by show _=_; rw [Hmeet.out]; simp
       clear hap hB2 hbx hK hB3 e0 e1 e2
       go_wp2_with (at_builtin; go_loud (refine Zam (w2.setCell ⟨wr.heap.size,1,none⟩ (.int .i64 mt.length)) rfl (.tmp 41) (.tmp 43) 72 rfl wo.heap.size 102 Tryz.infoSym Tryz.underlying72 rfl (by decide) (.slice ca i ccap) i (Zaj ch) rfl Hrow.out #[.string ⟨#[]⟩,.int .i64 mt.length,.int .i64 s.args] (N:=w2.heap.size) rfl (by simp) rfl (Zhk _ _ _) ?_ ?_ ?_))
       ·omega
       ·simp; omega
       intro v4 w4 hap
       obtain ⟨a4,c4,rfl⟩:=Zad hap.owns
       have hB4:=HB3.out.chApp (s:=⟨[],mt.length,s.args⟩) (cv2 := .slice a4 (i+1) c4) (w2:=w4) (by rw [Hci.out]; simpa [Zbw] using hap)
       have HB4:=Zac hB4
       clear hap hB4
       go_wp2
       go_roundg (t.length - i)
       case measure=>omega
       case rel=>exact ⟨i+1,by go_num,by omega,by omega,by rw [Hnx2.out,Hme2.out]; exact HB4.out⟩
      ·have hz:((P:Int) == (mt.length:Int))=false:=by rw [Qu]; omega
       have Hme2:Hid (meet s.num mt=mt):=by show _=_; rw [Hmeet.out,if_neg hnew]
       have HB3:=Zac (HB.out.on (HE.out (.cells #[.string ⟨#[]⟩,.int .i64 P,.int .i64 s.args] 102)))
       have Hrow:Hid ((wr.alloc (.cells #[.string ⟨#[]⟩,.int .i64 P,.int .i64 s.args] 102)).ownsRow wo.heap.size 102 3 (.slice ca i ccap) i (Zaj ch)):=by have:=HB3.out.chg; rw [Hci.out] at this; exact this
       clear hnew
       go_wp2_with (at_builtin; go_loud (refine Zam (wr.alloc (.cells #[.string ⟨#[]⟩,.int .i64 P,.int .i64 s.args] 102)) rfl (.tmp 41) (.tmp 43) 72 rfl wo.heap.size 102 Tryz.infoSym Tryz.underlying72 rfl (by decide) (.slice ca i ccap) i (Zaj ch) rfl Hrow.out #[.string ⟨#[]⟩,.int .i64 P,.int .i64 s.args] (N:=wr.heap.size+1) rfl (by simp) rfl (Zhk _ _ _) ?_ ?_ ?_))
       ·omega
       ·simp; omega
       intro v4 w4 hap
       obtain ⟨a4,c4,rfl⟩:=Zad hap.owns
       have hB4:=HB3.out.chApp (s:=⟨[],P,s.args⟩) (cv2 := .slice a4 (i+1) c4) (w2:=w4) (by rw [Hci.out]; simpa [Zbw] using hap)
       have HB4:=Zac hB4
       clear hap hB4
       go_wp2
       go_roundg (t.length - i)
       case measure=>omega
       case rel=>exact ⟨i+1,by go_num,by omega,by omega,by rw [Hnx2.out,Hme2.out]; exact HB4.out⟩
    ·have hei:i=t.length:=by omega
     subst hei
     have Hrow:Hid (wr.ownsRow w.heap.size 72 1 (.slice ra k rcap) k xs):=by have:=HB.out.row.owns; rw [Hlk.out] at this; exact this
     go_wp2_with (at_builtin; go_loud (refine Zam wr rfl (.tmp 46) (.tmp 48) 63 rfl w.heap.size 72 Tryz.infoSyms Tryz.underlying63 rfl (by decide) (.slice ra k rcap) k xs rfl Hrow.out #[.slice ca t.length ccap] (N:=wr.heap.size) rfl (by simp) rfl (Zeb _ _ _) ?_ ?_ ?_))
     ·omega
     ·omega
     intro v2 w2 hap
     obtain ⟨a2,c2,rfl⟩:=Zad hap.owns
     have hfin:OrdB w w2.heap.size (Zay (ts.take (k+1)) []).1 (.slice a2 (k+1) c2) (xs++[.slice ca t.length ccap]) (Zay (ts.take (k+1)) []).2 (.slice na mt.length ncap) [] (.slice none 0 0) w2:=by
      have hch:=Hch.out
      have hmt:=Hmt.out
      rw [List.take_length] at hch hmt
      have hnx:Zay (ts.take (k+1)) []=(rl++[ch],mt):=by
       rw [List.take_add_one,Ht.out]
       simp only [Option.toList]
       rw [Zpt,← Hrl.out,← Hme.out]
       simp only [Zay]
       rw [hch,hmt]
      rw [hnx]
      obtain ⟨q1,q2,q3,q4,q5,q6,q7⟩:=HB.out
      have hsz:=hap.kept.size
      have hx:WordAt wr (.slice ca t.length ccap) ch:=Zba q7 (Qm _)
      have ht:TermsAt w2 w.heap.size (.slice a2 (k+1) c2) (rl++[ch]) (xs++[.slice ca t.length ccap]):=q2.snoc (by rw [Hlk.out]; exact hap) hx
      refine ⟨q1.trans (hap.kept.below q1.size (fun j hj=>(Hrow.out.lt j hj).1)),ht,ht.words,hap.kept.owns q4 (fun j hj hS => ?_),by omega,Qe _,World.ownsRow_nil _ _ _ _⟩
      obtain ⟨cur,hc⟩:=Zbk Hrow.out j hS
      exact Zag q4 (by decide) hc hj
     have Hfin:=Zac hfin
     clear hap hfin
     go_wp2
     go_roundg (ts.length - k)
     case measure=>omega
     case rel=>exact ⟨k+1,_,by go_num,by omega,by omega,Hfin.out⟩
  ·have hek:k=ts.length:=by omega
   subst hek
   go_wp2
   go_ret
   have hr:=Hrl.out
   rw [List.take_length] at hr
   obtain ⟨q1,q2,_⟩:=HA.out
   rw [hr] at q2
   exact ⟨q1,ra,rcap,rfl,q2.inn⟩
structure TxOk (ts:List (List Sym)):Prop where
 len:ts.length≤1000
 all:ts.flatten.length≤8000
 ok:∀ t ∈ ts,TmOk t
 sym:∀ t ∈ (Zay ts []).1,Yge t
 txt:∀ t ∈ (Zay ts []).1,(Zci t []).length≤1000000
def Znh (ts:List (List Sym)):List (List UInt8):=(Zay ts []).1.map (fun t=>Zci t [])
def Yho (ts:List (List Sym)) (w:World) (e:Ending) (w':World):Prop:=Ext w w'∧∃ x c,e = .returned (.slice x ts.length c)∧w'.ownsRow 0 9 1 (.slice x ts.length c) ts.length (strs (Znh ts))
theorem Yev (w:World) (tv:Value) (ts:List (List Sym)) (h:TermsIn w tv ts) (ho:TxOk ts):Calls Tryz.prog 53 #[tv] w (Yho ts w):=by
 obtain ⟨ta,tcap,rfl⟩:=h.shape
 have HI:=Zac (Zvl w _ ts h ho.len ho.all ho.ok)
 have Ho:=Zac ho
 have hl:=ho.len
 have hcl:(Zay ts []).1.length=ts.length:=Zfr _ _
 obtain ⟨C,hC⟩:∃ C,C=(Zay ts []).1:=⟨_,rfl⟩
 have Htx:Hid (Znh ts=C.map (fun t=>Zci t [])):=by show _=_; unfold Znh; rw [hC]
 rw [← hC] at hcl
 have HC:=Zac hC
 have Hcl:=Zac hcl
 clear h ho hC hcl
 go_enter Tryz.func53,Tryz.ntmps53
 go_wp2_with fail
 refine HI.out.mono ?_
 rintro e w1 ⟨hE1,xa,xc,rfl,hT⟩
 rw [← HC.out] at hT
 obtain ⟨us,hT⟩:=hT
 have hz1:=hE1.size
 have HE1:=Zac hE1
 have HT:=Zac hT
 clear hE1 hT HI
 go_wp2
 go_loopg [3,9] (ts.length+1) (fun gk rv iv wr=>∃ (k:Nat),iv = .int .i64 k∧k≤ts.length∧ts.length - k<gk∧Ext w1 wr∧wr.ownsRow w1.heap.size 9 1 rv k (strs ((C.take k).map (fun t=>Zci t []))))
 case atStart=>exact ⟨0,by go_num,Qm _,by omega,Below.refl _ _,World.ownsRow_nil _ _ _ _⟩
 case round =>
  obtain ⟨k,rfl,hk,hgk,hE,hown⟩:=hrel
  obtain ⟨ra,rcap,rfl⟩:=Zad hown
  have hsr:=hE.size
  have HE:=Zac hE
  have Hown:=Zac hown
  clear hE hown
  by_cases hlt:k<ts.length
  ·have hkC:k<C.length:=by rw [Hcl.out]; exact hlt
   obtain ⟨t,ht⟩:∃ t,C[k]?=some t:=⟨_,Qb hkC⟩
   obtain ⟨y,hy,hyo⟩:=HT.out.all _ t ht
   obtain ⟨ya,ycap,rfl⟩:=Zad hyo
   have hor:=HT.out.owns
   rw [Hcl.out] at hor
   obtain ⟨g,cap',cur,he,_,hgb,_⟩:=Zao hor (by omega)
   simp only [Value.slice.injEq] at he
   obtain ⟨rfl,_,rfl⟩:=he
   have hgw:=Zab hgb
   have hgr:g<wr.heap.size:=by omega
   have x0:wr.cell? ⟨g,k,none⟩=some (.slice ya t.length ycap):=(HE.out.cell (p:=⟨g,k,none⟩) hgw).trans (Zai hor _ _ hy)
   have htm:t ∈ (Zay ts []).1:=by rw [← HC.out]; exact Qh ht
   have hso:=Ho.out.sym t htm
   have htx:=Ho.out.txt t htm
   have HA:=Zac (Zrq wr 0 (.slice ya t.length ycap) t (WordAt.ext hyo HE.out) hso.1 hso.2 (by omega))
   have hnx:C.take (k+1)=C.take k++[t]:=by rw [List.take_add_one,ht]; rfl
   obtain ⟨A,hA⟩:∃ A,A=Zci t []:=⟨_,rfl⟩
   rw [← hA] at HA htx
   have HAA:=Zac hA
   have Hnx:=Zac hnx
   clear ht hy hyo hor hgb htm hso hnx hA
   go_wp2_with fail
   refine HA.out.mono ?_
   rintro e w2 ⟨rfl,hE2⟩
   have hz2:=hE2.size
   have HE2:Hid (Ext w1 w2):=HE.out.trans (hE2.mono hsr)
   have Hrow:Hid (w2.ownsRow w1.heap.size 9 1 (.slice ra k rcap) k (strs ((C.take k).map (fun t=>Zci t [])))):=Zah Hown.out (fun j hj=>hE2.block j (Hown.out.lt j hj).2)
   clear hE2 x0
   go_wp2_with (at_builtin; go_loud (refine Zam w2 rfl (.tmp 13) (.tmp 16) 35 rfl w1.heap.size 9 Tryz.infoStr Tryz.underlying35 rfl (by decide) (.slice ra k rcap) k (strs ((C.take k).map (fun t=>Zci t []))) rfl Hrow.out #[.string ⟨A.toArray⟩] (N:=w2.heap.size) rfl (by simp) rfl (Ybn _) ?_ ?_ ?_))
   ·omega
   ·omega
   intro v3 w3 hap
   obtain ⟨a3,c3,rfl⟩:=Zad hap.owns
   have hE3:Ext w1 w3:=HE2.out.trans (hap.kept.below (by omega) (fun j hj=>(Hrow.out.lt j hj).1))
   have hrow3:w3.ownsRow w1.heap.size 9 1 (.slice a3 (k+1) c3) (k+1) (strs ((C.take (k+1)).map (fun t=>Zci t []))):=by
    have:=hap.owns
    rw [Hnx.out,Qr]
    simp only [List.map_cons,List.map_nil,strs,Qr]
    rw [← HAA.out]
    rw [← List.map_take] at this
    exact this
   have HE3:=Zac hE3
   have Hrow3:=Zac hrow3
   clear hap hE3 hrow3
   go_wp2
   go_roundg (ts.length - k)
   case measure=>omega
   case rel=>exact ⟨k+1,by go_num,by omega,by omega,HE3.out,Hrow3.out⟩
  ·have hek:k=ts.length:=by omega
   subst hek
   go_wp2
   go_ret
   have hrow:=Hown.out
   rw [← Hcl.out,List.take_length] at hrow
   rw [← Htx.out,Hcl.out] at hrow
   exact ⟨HE1.out.trans (HE.out.mono hz1),ra,rcap,rfl,Zba hrow (Qm _)⟩
theorem Zgu (w:World) (nv vv:Value) (names:Names) (ts:List (List Sym)) (hn:w.ownsRow 0 9 1 nv names.length (strs names)) (h:TermsIn w vv ts) (ho:TxOk ts) (hl:names.length=ts.length) (hL:(Ziz [] names (Zay ts []).1).length≤100000000) :
  Calls Tryz.prog 39 #[nv,vv] w fun e w'=>Ext w w'∧e = .returned (.string ⟨(if names=[] then [121,101,115] else Ziz [] names (Zay ts []).1).toArray⟩):=by
 obtain ⟨na,ncap,rfl⟩:=Zad hn
 obtain ⟨ta,tcap,rfl⟩:=h.shape
 by_cases h0:names=[]
 ·subst h0
  clear hn h ho hl hL
  go_enter Tryz.func39,Tryz.ntmps39
  go_wp2
  go_ret
  exact ⟨Below.refl _ _,by simp⟩
 ·have hpos:0<names.length:=List.length_pos_iff.2 h0
  rw [if_neg h0]
  have HI:=Zac (Yev w _ ts h ho)
  have hcl:(Zay ts []).1.length=ts.length:=Zfr _ _
  have hlen:=ho.len
  obtain ⟨C,hC⟩:∃ C,C=(Zay ts []).1:=⟨_,rfl⟩
  have Htx:Hid (Znh ts=C.map (fun t=>Zci t [])):=by show _=_; unfold Znh; rw [hC]
  rw [← hC] at hcl hL ⊢
  obtain ⟨F,hF⟩:∃ F,F=Ziz [] names C:=⟨_,rfl⟩
  rw [← hF] at hL ⊢
  have HF:=Zac hF
  have Hn:=Zac hn
  have Hcl:=Zac hcl
  have z1:((names.length:Int) == 0)=false:=by rw [Qu]; omega
  have Hl:=Zac hl
  obtain ⟨N,hN⟩:∃ N,N=names.length:=⟨_,rfl⟩
  rw [← hN] at z1 hpos ⊢
  have hNl:N≤1000:=by omega
  have htN:ts.length=N:=by omega
  rw [htN]
  have HN:=Zac hN
  have HtN:=Zac htN
  rw [htN] at HI
  clear hn h ho hC hF hcl hl h0 hN htN
  go_enter Tryz.func39,Tryz.ntmps39
  go_wp2_with fail
  refine HI.out.mono ?_
  rintro e w1 ⟨hE1,xa,xc,rfl,hT⟩
  rw [HtN.out] at hT ⊢
  rw [Htx.out] at hT
  have hz1:=hE1.size
  have HE1:=Zac hE1
  have HT:=Zac hT
  clear hE1 hT HI
  go_wp2
  go_loopg [5,14] (N+1) (fun gk tx iv wr=>∃ (k:Nat) (acc:List UInt8),iv = .int .i64 k∧k≤N∧N - k<gk∧tx = .string ⟨acc.toArray⟩∧acc++Ziz (if k=0 then [] else [44]) (names.drop k) (C.drop k)=F∧wr=w1)
  case atStart=>exact ⟨0,[],by go_num,Qm _,by omega,rfl,by rw [HF.out]; rfl,rfl⟩
  case round =>
   obtain ⟨k,acc,rfl,hk,hgk,rfl,hacc,rfl⟩:=hrel
   by_cases hlt:k<N
   ·have hkn:k<names.length:=by rw [← HN.out]; exact hlt
    have hkC:k<C.length:=by rw [Hcl.out,HtN.out]; exact hlt
    obtain ⟨x,hx⟩:∃ x,names[k]?=some x:=⟨_,Qb hkn⟩
    obtain ⟨t,ht⟩:∃ t,C[k]?=some t:=⟨_,Qb hkC⟩
    have hdx:names.drop k=x::names.drop (k+1):=by rw [List.drop_eq_getElem_cons hkn,(Qa.1 hx).2]
    have hdt:C.drop k=t::C.drop (k+1):=by rw [List.drop_eq_getElem_cons hkC,(Qa.1 ht).2]
    rw [hdx,hdt,Ziz] at hacc
    have hor:w.ownsRow 0 9 1 (.slice na N ncap) N (strs names):=by have:=Hn.out; rw [← HN.out] at this; exact this
    obtain ⟨g,cap',cur,he,_,hgb,_⟩:=Zao hor (by omega)
    simp only [Value.slice.injEq] at he
    obtain ⟨rfl,_,rfl⟩:=he
    have hgw:=Zab hgb
    have hgr:g<wr.heap.size:=by omega
    have x0:wr.cell? ⟨g,k,none⟩=some (.string ⟨x.toArray⟩):=(HE1.out.cell (p:=⟨g,k,none⟩) hgw).trans (Zai hor _ _ (by simp [strs,hx]))
    obtain ⟨g2,cap2,cur2,he2,_,hgb2,_⟩:=Zao HT.out (by omega)
    simp only [Value.slice.injEq] at he2
    obtain ⟨rfl,_,rfl⟩:=he2
    have hgr2:=Zab hgb2
    obtain ⟨A,hA⟩:∃ A,A=Zci t []:=⟨_,rfl⟩
    have y0:wr.cell? ⟨g2,k,none⟩=some (.string ⟨A.toArray⟩):=Zai HT.out _ _ (by simp [strs,ht,hA])
    rw [← hA] at hacc
    have hlen2:=Zue hacc
    simp only [Qg,Qf] at hlen2
    have Hacc:=Zac hacc
    have hkN:¬ ((N:Int)≤(k:Int)):=by omega
    clear hacc hdx hdt hx ht hor hgb hgb2 hA
    by_cases hk0:k=0
    ·subst hk0
     have Hacc2:Hid (acc++(x++[61]++A)++Ziz [44] (names.drop (0+1)) (C.drop (0+1))=F):=by show _=_; rw [← Hacc.out]; simp
     simp only [if_pos,Jt] at hlen2
     go_wp2
     go_roundg (N - 0)
     case measure=>omega
     case rel =>
      refine ⟨0+1,acc++(x++[61]++A),by go_num,by omega,by omega,?_,Hacc2.out,rfl⟩
      show Value.string (_++(_++(⟨[61].toArray⟩:ByteArray)++_))=_
      rw [Zbd,Zbd,Zbd]
    ·have Hacc2:Hid (acc++[44]++(x++[61]++A)++Ziz [44] (names.drop (k+1)) (C.drop (k+1))=F):=by show _=_; rw [← Hacc.out,if_neg hk0]; simp
     rw [if_neg hk0] at hlen2
     simp only [Qf,Jt] at hlen2
     have hk1:(0:Int)<(k:Int):=by omega
     go_wp2
     go_roundg (N - k)
     case measure=>omega
     case rel =>
      refine ⟨k+1,acc++[44]++(x++[61]++A),by go_num,by omega,by omega,?_,by rw [if_neg (by omega)]; exact Hacc2.out,rfl⟩
      show Value.string (_++(⟨[44].toArray⟩:ByteArray)++(_++(⟨[61].toArray⟩:ByteArray)++_))=_
      rw [Zbd,Zbd,Zbd,Zbd]
   ·have hek:k=N:=by omega
    subst hek
    have Hacc:Hid (acc=F):=by
     show _=_
     rw [List.drop_eq_nil_of_le (by rw [← HN.out]; exact Qe _)] at hacc
     simpa [Ziz] using hacc
    clear hacc
    go_wp2
    go_ret
    rw [← Hacc.out]
    exact ⟨HE1.out,rfl⟩
structure HeldC (p q x:ByteArray) (a:List (List Sym) × Names) (ks:List Nat) (n m:ND):Prop where
 ask:Zdx q=some a
 held:Zeg p q x=(a.2,m,0,0)
 ok:NOk n
 nm:NNm n
 few:NFew n
 same:Same n m
 fol:∃ cs,Zcl p=some cs∧Zau cs (topN a) ks 0=(m,0,0)
def Zdk:Value := .agg #[.slice none 0 0,.slice none 0 0,.slice none 0 0,.slice none 0 0,.int .i64 0,.slice none 0 0,.slice none 0 0]
def Zxn (p q x:ByteArray) (w:World) (e:Ending) (w':World):Prop:=Ext w w' ∧
 (((Zeg p q x).2.2.1≠0∧e = .returned (.tuple #[Zdk,.agg #[.int .i64 (Zeg p q x).2.2.1,.int .i64 (Zeg p q x).2.2.2]])) ∨
  (∃ a ks n m,HeldC p q x a ks n m∧∃ n1 nc g1 g2 g3 v1 v2 v3 r1 r2 r3,∃ uu:Nat,∃ k1 kc d1 dc,e = .returned (.tuple #[.agg #[.slice n1 a.2.length nc,.slice g1 g2 g3,.slice v1 v2 v3,.slice r1 r2 r3,.int .i64 uu,.slice k1 ks.length kc,.slice d1 (m.done.map (·.2)).length dc],.agg #[.int .i64 0,.int .i64 0]]) ∧
   NodeIn w' (.slice g1 g2 g3) (.slice v1 v2 v3) (.slice r1 r2 r3) n∧w'.ownsRow 0 9 1 (.slice n1 a.2.length nc) a.2.length (strs a.2)∧w'.ownsRow 0 3 1 (.slice k1 ks.length kc) ks.length (ints ks)∧w'.ownsRow 0 3 1 (.slice d1 (m.done.map (·.2)).length dc) (m.done.map (·.2)).length (ints (m.done.map (·.2)))))
theorem Yam (p q x:ByteArray) (w:World) (hp:p.size≤maxLen) (hq:q.size≤maxLen) (hx:x.size≤maxLen):Calls Tryz.prog 23 #[.string p,.string q,.string x] w (Zxn p q x w):=by
 have HBo:=Zac (fun u=>Znf p q u hp hq)
 have HNu:=Zac (fun u=>Yhl x u hx)
 clear hp hq hx
 obtain ⟨W,hW⟩:∃ W,W=(w.alloc (.cells #[.slice none 0 0,.slice none 0 0,.slice none 0 0,.slice none 0 0,.int .i64 0,.slice none 0 0,.slice none 0 0] 67)).alloc (.cells #[.int .i64 0,.int .i64 0] 60):=⟨_,rfl⟩
 have hE0:Ext w W:=by rw [hW]; exact (Ext.of (by repeat' (first | with_reducible(first|exact Qx _ _|apply Kept.drew|apply Kept.drewN|apply Qz|refine Qy ?_ ?_ _)|exact fun h=>absurd h (by simp <;> omega))))
 have hWs:W.heap.size=w.heap.size+2:=by rw [hW]; simp
 have hb0:W.heap[w.heap.size]?=some (.cells #[.slice none 0 0,.slice none 0 0,.slice none 0 0,.slice none 0 0,.int .i64 0,.slice none 0 0,.slice none 0 0] 67 (0,0)):=by rw [hW]; exact Zar (heap_alloc_new w _) _
 have hb1:W.heap[w.heap.size+1]?=some (.cells #[.int .i64 0,.int .i64 0] 60 (0,0)):=by rw [hW]; exact Zdn (by simp) _
 have HB:Hid (∀ y,Ext W y→y.cell? ⟨w.heap.size,0,none⟩=some (.slice none 0 0)∧y.cell? ⟨w.heap.size,1,none⟩=some (.slice none 0 0)∧y.cell? ⟨w.heap.size,2,none⟩=some (.slice none 0 0)∧y.cell? ⟨w.heap.size,3,none⟩=some (.slice none 0 0)∧y.cell? ⟨w.heap.size,4,none⟩=some (.int .i64 0)∧y.cell? ⟨w.heap.size,5,none⟩=some (.slice none 0 0)∧y.cell? ⟨w.heap.size,6,none⟩=some (.slice none 0 0)∧(∀ i,y.frozen? ⟨w.heap.size,i,none⟩=false) ∧
   y.cell? ⟨w.heap.size+1,0,none⟩=some (.int .i64 0)∧y.cell? ⟨w.heap.size+1,1,none⟩=some (.int .i64 0)∧(∀ i,y.frozen? ⟨w.heap.size+1,i,none⟩=false)∧w.heap.size<y.heap.size∧w.heap.size+1<y.heap.size):=fun y hE=>by
  have e0:=(hE.block _ (Zab hb0)).trans hb0
  have e1:=(hE.block _ (Zab hb1)).trans hb1
  exact ⟨Zaa e0 0 _ rfl,Zaa e0 1 _ rfl,Zaa e0 2 _ rfl,Zaa e0 3 _ rfl,Zaa e0 4 _ rfl,Zaa e0 5 _ rfl,Zaa e0 6 _ rfl,fun i=>Zae e0 i,Zaa e1 0 _ rfl,Zaa e1 1 _ rfl,fun i=>Zae e1 i,Zab e0,Zab e1⟩
 have Hb0:=Zac hb0
 have Hb1:=Zac hb1
 have HE0:=Zac hE0
 clear hb0 hb1 hE0
 go_enter Tryz.func23,Tryz.ntmps23
 go_wp2_with fail
 rw [← hW]
 have HW:=Zac hW
 clear hW
 refine (HBo.out W).mono ?_
 rintro e w1 ⟨hE1,hout⟩
 obtain ⟨p0,p1,p2,p3,p4,p5,p6,pf,f0,f1,ff,pl,fl⟩:=HB.out w1 hE1
 have hz1:=hE1.size
 have hEw1:Ext w w1:=HE0.out.trans (hE1.mono (by omega))
 have HE1:=Zac hE1
 have HEw1:=Zac hEw1
 clear hE1 hEw1
 rcases hout with ⟨hno,rfl⟩ | ⟨⟨cs,hcs⟩,hno,rfl⟩ | ⟨cs,a,l1,lc,xs,h1,h2,h3,b1,bc,n1,nc,hcs,hask,rfl,hP,hA,hN⟩
 ·have Hh:Hid ((Zeg p q x).2.2=(4,0)):=by show _=_; simp [Zeg,hno]
  clear hno
  go_wp2
  refine bodyPost_ret (v := .tuple #[Zdk,.agg #[.int .i64 4,.int .i64 0]]) (by simp [results,Tryz.results23,go_sem,Zdk,p0,p1,p2,p3,p4,p5,p6,pf,f0,f1,ff,pl,fl]) rfl ?_
  exact ⟨HEw1.out.trans (Kept.below (S:=fun i=>w.heap.size≤i) (by repeat' (first | with_reducible(first|exact Qx _ _|apply Kept.drew|apply Kept.drewN|apply Qz|refine Qy ?_ ?_ _)|(intro _; simp only; omega))) (by omega) (fun i e=>e)),Or.inl (by rw [Hh.out]; exact ⟨by simp,rfl⟩)⟩
 ·have Hh:Hid ((Zeg p q x).2.2=(5,0)):=by show _=_; simp [Zeg,hcs,hno]
  clear hno hcs
  go_wp2
  refine bodyPost_ret (v := .tuple #[Zdk,.agg #[.int .i64 5,.int .i64 0]]) (by simp [results,Tryz.results23,go_sem,Zdk,p0,p1,p2,p3,p4,p5,p6,pf,f0,f1,ff,pl,fl]) rfl ?_
  exact ⟨HEw1.out.trans (Kept.below (S:=fun i=>w.heap.size≤i) (by repeat' (first | with_reducible(first|exact Qx _ _|apply Kept.drew|apply Kept.drewN|apply Qz|refine Qy ?_ ?_ _)|(intro _; simp only; omega))) (by omega) (fun i e=>e)),Or.inl (by rw [Hh.out]; exact ⟨by simp,rfl⟩)⟩
 ·obtain ⟨_,_,_,hNO,hNN,hal,_,han,_⟩:=Zcy hask
  obtain ⟨_,_,_,hCO,hcl⟩:=Zdr hcs
  have Hhe:Hid (Zeg p q x=if 400<x.size then ([],⟨[],[],[],[],0⟩,1,0) else match Zcj x with
   | (none,at')=>([],⟨[],[],[],[],0⟩,6,at')
   | (some ks,_)=>(a.2,Zau cs (topN a) ks 0)):=by show _=_; unfold Zeg; rw [hcs,hask]; rfl
  have HP:=Zac hP
  have HA:=Zac hA
  have HN:=Zac hN
  have HNO:=Zac hNO
  have HNN:=Zac hNN
  have HNF:=Zac (Zvi hask)
  have HCF:=Zac (Zqr hcs)
  have HCO:Hid (∀ c ∈ cs,COk c∧CNm c):=hCO
  have Hask:=Zac hask
  have Hcs:=Zac hcs
  clear hP hA hN hNO hNN hCO hask hcs
  go_wp2_with fail
  refine (HNu.out _).mono ?_
  rintro e w2 ⟨hE2,hout⟩
  have hz2:=hE2.size
  have hz2:w1.heap.size+1≤w2.heap.size:=by simpa using hz2
  have hE12:Ext w1 w2:=(Below.refl _ w1 |>.alloc (Qe _) _).trans (hE2.mono (by simp))
  have hcb:w2.heap[w1.heap.size]?=some (.cells #[.slice h1 h2 h3,.slice b1 a.1.length bc,.slice n1 a.2.length nc] 74 (0,0)):=(hE2.block _ (by simp)).trans (heap_alloc_new w1 _)
  have hEw2:Ext w w2:=HEw1.out.trans (hE12.mono (by omega))
  obtain ⟨p0,p1,p2,p3,p4,p5,p6,pf,f0,f1,ff,pl,fl⟩:=HB.out w2 (HE1.out.trans (hE12.mono (by omega)))
  have q0:=Zaa hcb 0 _ rfl
  have q1:=Zaa hcb 1 _ rfl
  have q2:=Zaa hcb 2 _ rfl
  have ql:=Zab hcb
  have HE12:=Zac hE12
  have HEw2:=Zac hEw2
  clear hE2 hE12 hEw2 hcb
  rcases hout with ⟨hbig,rfl⟩ | ⟨hsm,⟨ks,ka,kc,hnum,rfl,hks,hkl,hk9⟩ | ⟨pp,hnum,rfl⟩⟩
  ·have Hh:Hid ((Zeg p q x).2.2=(1,0)):=by show _=_; rw [Hhe.out,if_pos hbig]
   clear hbig
   go_wp2_with fail
   go_region
   all_goals
    go_wp2
    refine bodyPost_ret (v := .tuple #[Zdk,.agg #[.int .i64 1,.int .i64 0]]) (by simp [results,Tryz.results23,go_sem,Zdk,p0,p1,p2,p3,p4,p5,p6,pf,f0,f1,ff,pl,fl]) rfl ?_
    exact ⟨HEw2.out.trans (Kept.below (S:=fun i=>w.heap.size≤i) (by repeat' (first | with_reducible(first|exact Qx _ _|apply Kept.drew|apply Kept.drewN|apply Qz|refine Qy ?_ ?_ _)|(intro _; simp only; omega))) (by omega) (fun i e=>e)),Or.inl (by rw [Hh.out]; exact ⟨by simp,rfl⟩)⟩
  ·have Hh0:Hid (Zeg p q x=(a.2,Zau cs (topN a) ks 0)):=by show _=_; rw [Hhe.out,if_neg (by omega),hnum]
   have hP2:=HP.out.ext HE12.out
   have hA2:=HA.out.ext HE12.out
   have hN2:=Zah HN.out (fun j hj=>HE12.out.block j (HN.out.lt j hj).2)
   have HFo:Hid (∀ o,Calls Tryz.prog 37 #[.slice l1 cs.length lc,.agg #[.slice h1 h2 h3,.slice b1 a.1.length bc,.slice n1 a.2.length nc],.slice ka ks.length kc] (w2.alloc o) (Ziw cs a ks (w2.alloc o))):=fun o=>by
    have hE:Ext w2 (w2.alloc o):=(Ext.of (by repeat' (first | with_reducible(first|exact Qx _ _|apply Kept.drew|apply Kept.drewN|apply Qz|refine Qy ?_ ?_ _)|exact fun h=>absurd h (by simp <;> omega))))
    exact Zvj _ _ _ _ _ _ cs xs a ks (hP2.ext hE) ⟨_,_,_,rfl⟩ (hA2.ext hE) (Zah hN2 (fun j hj=>hE.block j (hN2.lt j hj).2)) (Zah hks (fun j hj=>hE.block j (hks.lt j hj).2)) HCO.out HCF.out hcl HNO.out HNN.out HNF.out hal han hkl hk9
   have HDp:Hid ((Zau cs (topN a) ks 0).2=(0,0)→∀ y,Ext w2 y→Calls Tryz.prog 38 #[.slice l1 cs.length lc,.agg #[.slice h1 h2 h3,.slice b1 a.1.length bc,.slice n1 a.2.length nc],.slice ka ks.length kc] y (Yis ((Zau cs (topN a) ks 0).1.done.map (·.2)) y)):=fun hf y hE =>
    Ztk y _ _ _ _ _ cs xs a ks (hP2.ext hE) ⟨_,_,_,rfl⟩ (hA2.ext hE) (Zah hN2 (fun j hj=>hE.block j (hN2.lt j hj).2)) (Zah hks (fun j hj=>hE.block j (hks.lt j hj).2)) (fun c hc=>(HCO.out c hc).1) hcl hal hkl hk9 hf
   have HN2:=Zac hN2
   have Hks:=Zac hks
   clear hP2 hA2 hN2 hks hk9 hnum
   go_wp2_with fail
   refine (HFo.out _).mono ?_
   rintro e w3 ⟨hE3,hout⟩
   have hz3:=hE3.size
   have hz3:w2.heap.size+1≤w3.heap.size:=by simpa using hz3
   have hE23:Ext w2 w3:=(Below.refl _ w2 |>.alloc (Qe _) _).trans (hE3.mono (by simp))
   have hfb:w3.heap[w2.heap.size]?=some (.cells #[.int .i64 0,.int .i64 0] 60 (0,0)):=(hE3.block _ (by simp)).trans (heap_alloc_new w2 _)
   have hEw3:Ext w w3:=HEw2.out.trans (hE23.mono (by omega))
   obtain ⟨p0,p1,p2,p3,p4,p5,p6,pf,f0,f1,ff,pl,fl⟩:=HB.out w3 (HE1.out.trans ((HE12.out.mono (by omega)).trans (hE23.mono (by omega))))
   have t0:=Zaa hfb 0 _ rfl
   have t1:=Zaa hfb 1 _ rfl
   have tf:=fun i=>Zae hfb i
   have tl:=Zab hfb
   have q0:w3.cell? ⟨w1.heap.size,0,none⟩=some (.slice h1 h2 h3):=(hE23.cell (p:=⟨w1.heap.size,0,none⟩) ql).trans q0
   have q1:w3.cell? ⟨w1.heap.size,1,none⟩=some (.slice b1 a.1.length bc):=(hE23.cell (p:=⟨w1.heap.size,1,none⟩) ql).trans q1
   have q2:w3.cell? ⟨w1.heap.size,2,none⟩=some (.slice n1 a.2.length nc):=(hE23.cell (p:=⟨w1.heap.size,2,none⟩) ql).trans q2
   have ql3:w1.heap.size<w3.heap.size:=by omega
   have HE23:=Zac hE23
   have HEw3:=Zac hEw3
   have Hfb:=Zac hfb
   clear hE3 hE23 hEw3 hfb HFo
   rcases hout with ⟨hne,rfl⟩ | ⟨hz,g1,g2,g3,v1,v2,v3,r1,r2,r3,uu,n,rfl,hNd,hok,hnm,hfw,hsame⟩
   ·obtain ⟨er,her⟩:∃ r,r=(Zau cs (topN a) ks 0).2.1:=⟨_,rfl⟩
    obtain ⟨pe,hpe⟩:∃ r,r=(Zau cs (topN a) ks 0).2.2:=⟨_,rfl⟩
    rw [← her,← hpe]
    rw [← her] at hne
    have Hh:Hid ((Zeg p q x).2.2.1=er∧(Zeg p q x).2.2.2=pe):=by show _∧_; rw [Hh0.out]; exact ⟨her.symm,hpe.symm⟩
    have hb:((er:Int) != 0)=true:=by rw [bne_iff_ne]; omega
    have Hne:=Zac hne
    clear her hpe hne
    go_wp2_with fail
    go_region
    all_goals
     go_wp2
     refine bodyPost_ret (v := .tuple #[Zdk,.agg #[.int .i64 er,.int .i64 pe]]) (by simp [results,Tryz.results23,go_sem,Zdk,p0,p1,p2,p3,p4,p5,p6,pf,f0,f1,ff,pl,fl]) rfl ?_
     exact ⟨HEw3.out.trans (Kept.below (S:=fun i=>w.heap.size≤i) (by repeat' (first | with_reducible(first|exact Qx _ _|apply Kept.drew|apply Kept.drewN|apply Qz|refine Qy ?_ ?_ _)|(intro _; simp only; omega))) (by omega) (fun i e=>e)),Or.inl (by rw [Hh.out.1,Hh.out.2]; exact ⟨Hne.out,rfl⟩)⟩
   ·have HNd:=Zac hNd
    have Hok:=Zac hok
    have Hnm:=Zac hnm
    have Hfw:=Zac hfw
    have Hsame:=Zac hsame
    have Hz:=Zac hz
    have HDp2:=Zac (HDp.out hz)
    clear hNd hok hnm hfw hsame hz HDp
    go_wp2_with fail
    refine (HDp2.out _ (HE23.out.trans (Kept.below (S:=fun i=>w2.heap.size≤i) (by repeat' (first | with_reducible(first|exact Qx _ _|apply Kept.drew|apply Kept.drewN|apply Qz|refine Qy ?_ ?_ _)|(intro _; simp only; omega))) (by omega) (fun i e=>e)))).mono ?_
    rintro e w4 ⟨hE4,da,dc,rfl,hds⟩
    obtain ⟨M,hM⟩:∃ M,M=(Zau cs (topN a) ks 0).1:=⟨_,rfl⟩
    rw [← hM] at hds ⊢
    have hfo:Zau cs (topN a) ks 0=(M,0,0):=by rw [hM,← Hz.out]
    have hsm2:Same n M:=by rw [hM]; exact Hsame.out
    have hz4:=hE4.size
    simp at hz4
    have hE24:Ext w2 w4:=(HE23.out.trans (Kept.below (S:=fun i=>w2.heap.size≤i) (by repeat' (first | with_reducible(first|exact Qx _ _|apply Kept.drew|apply Kept.drewN|apply Qz|refine Qy ?_ ?_ _)|(intro _; simp only; omega))) (by omega) (fun i e=>e))).trans (hE4.mono (by simp; omega))
    have hK3:Kept (fun j=>j=w2.heap.size) w3 ((w3.setCell ⟨w2.heap.size,0,none⟩ (.int .i64 0)).setCell ⟨w2.heap.size,1,none⟩ (.int .i64 0)):=((Qx (only w2.heap.size) w3).put 0 _).put 1 _
    have hT4:∀ {v:Value} {ls:List (List Sym)},TermsIn w3 v ls→TermsIn w4 v ls:=fun {v ls} h=>((h.box Hfb.out (by decide) (by decide) hK3).ext ((Ext.of (by repeat' (first | with_reducible(first|exact Qx _ _|apply Kept.drew|apply Kept.drewN|apply Qz|refine Qy ?_ ?_ _)|exact fun h=>absurd h (by simp <;> omega)))):Ext _ (((w3.setCell ⟨w2.heap.size,0,none⟩ (.int .i64 0)).setCell ⟨w2.heap.size,1,none⟩ (.int .i64 0)).alloc (.cells #[.slice g1 g2 g3,.slice v1 v2 v3,.slice r1 r2 r3,.int .i64 uu] 65)))).ext hE4
    have hnb:w4.heap[w3.heap.size]?=some (.cells #[.slice g1 g2 g3,.slice v1 v2 v3,.slice r1 r2 r3,.int .i64 uu] 65 (0,0)):=(hE4.block _ (by simp)).trans (Zdn (by simp) _)
    have hEw4:Ext w w4:=HEw2.out.trans (hE24.mono (by omega))
    have hEW4:Ext W w4:=HE1.out.trans ((HE12.out.mono (by omega)).trans (hE24.mono (by omega)))
    obtain ⟨p0,p1,p2,p3,p4,p5,p6,pf,f0,f1,ff,pl,fl⟩:=HB.out w4 hEW4
    have hpb:=(hEW4.block _ (Zab Hb0.out)).trans Hb0.out
    have hfb2:=(hEW4.block _ (Zab Hb1.out)).trans Hb1.out
    have u0:=Zaa hnb 0 _ rfl
    have u1:=Zaa hnb 1 _ rfl
    have u2:=Zaa hnb 2 _ rfl
    have u3:=Zaa hnb 3 _ rfl
    have ul:=Zab hnb
    have q2:w4.cell? ⟨w1.heap.size,2,none⟩=some (.slice n1 a.2.length nc):=(hE24.cell (p:=⟨w1.heap.size,2,none⟩) ql).trans ((HE23.out.cell (p:=⟨w1.heap.size,2,none⟩) ql).symm.trans q2)
    have ql4:w1.heap.size<w4.heap.size:=by omega
    have hN4:=Zah HN2.out (fun j hj=>hE24.block j (HN2.out.lt j hj).2)
    have hk4:=Zah Hks.out (fun j hj=>hE24.block j (Hks.out.lt j hj).2)
    obtain ⟨D,hDe⟩:∃ D,D=M.done.map (·.2):=⟨_,rfl⟩
    rw [← hDe] at hds ⊢
    have hKp:∀ x0 x1 x2 x3 x4 x5 x6,Kept (fun j=>j=w.heap.size) w4 (((((((w4.setCell ⟨w.heap.size,0,none⟩ x0).setCell ⟨w.heap.size,1,none⟩ x1).setCell ⟨w.heap.size,2,none⟩ x2).setCell ⟨w.heap.size,3,none⟩ x3).setCell ⟨w.heap.size,4,none⟩ x4).setCell ⟨w.heap.size,5,none⟩ x5).setCell ⟨w.heap.size,6,none⟩ x6):=fun x0 x1 x2 x3 x4 x5 x6=>(((((((Qx (only w.heap.size) w4).put 0 _).put 1 _).put 2 _).put 3 _).put 4 _).put 5 _).put 6 _
    have hKf:∀ (y:World) z0 z1,Kept (fun j=>j=w.heap.size+1) y ((y.setCell ⟨w.heap.size+1,0,none⟩ z0).setCell ⟨w.heap.size+1,1,none⟩ z1):=fun y z0 z1=>((Qx (only (w.heap.size+1)) y).put 0 _).put 1 _
    have hout:∀ x0 x1 x2 x3 x4 x5 x6 z0 z1,Zxn p q x w (.returned (.tuple #[.agg #[.slice n1 a.2.length nc,.slice g1 g2 g3,.slice v1 v2 v3,.slice r1 r2 r3,.int .i64 uu,.slice ka ks.length kc,.slice da D.length dc],.agg #[.int .i64 0,.int .i64 0]])) (((((((((w4.setCell ⟨w.heap.size,0,none⟩ x0).setCell ⟨w.heap.size,1,none⟩ x1).setCell ⟨w.heap.size,2,none⟩ x2).setCell ⟨w.heap.size,3,none⟩ x3).setCell ⟨w.heap.size,4,none⟩ x4).setCell ⟨w.heap.size,5,none⟩ x5).setCell ⟨w.heap.size,6,none⟩ x6).setCell ⟨w.heap.size+1,0,none⟩ z0).setCell ⟨w.heap.size+1,1,none⟩ z1):=fun x0 x1 x2 x3 x4 x5 x6 z0 z1=>by
     have hf5:=((hKp x0 x1 x2 x3 x4 x5 x6).block _ fl (by simp)).trans hfb2
     have hT:∀ {v:Value} {ls:List (List Sym)},TermsIn w3 v ls→TermsIn (((((((((w4.setCell ⟨w.heap.size,0,none⟩ x0).setCell ⟨w.heap.size,1,none⟩ x1).setCell ⟨w.heap.size,2,none⟩ x2).setCell ⟨w.heap.size,3,none⟩ x3).setCell ⟨w.heap.size,4,none⟩ x4).setCell ⟨w.heap.size,5,none⟩ x5).setCell ⟨w.heap.size,6,none⟩ x6).setCell ⟨w.heap.size+1,0,none⟩ z0).setCell ⟨w.heap.size+1,1,none⟩ z1) v ls:=fun {v ls} h =>
      ((hT4 h).box hpb (by decide) (by decide) (hKp x0 x1 x2 x3 x4 x5 x6)).box hf5 (by decide) (by decide) (hKf _ z0 z1)
     refine ⟨hEw4.trans (Kept.below (S:=fun i=>w.heap.size≤i) (by repeat' (first | with_reducible(first|exact Qx _ _|apply Kept.drew|apply Kept.drewN|apply Qz|refine Qy ?_ ?_ _)|(intro _; simp only; omega))) (by omega) (fun i e=>e)),Or.inr ⟨a,ks,n,M,⟨Hask.out,by rw [Hh0.out,hfo],Hok.out,Hnm.out,Hfw.out,hsm2,cs,Hcs.out,hfo⟩,n1,nc,g1,g2,g3,v1,v2,v3,r1,r2,r3,uu,ka,kc,da,dc,by rw [← hDe],⟨hT HNd.out.goals,hT HNd.out.vals,hT HNd.out.done⟩,?_,?_,?_⟩⟩
     ·exact Zct (Zct hN4 hpb (by decide) (hKp x0 x1 x2 x3 x4 x5 x6)) hf5 (by decide) (hKf _ z0 z1)
     ·exact Zct (Zct hk4 hpb (by decide) (hKp x0 x1 x2 x3 x4 x5 x6)) hf5 (by decide) (hKf _ z0 z1)
     ·rw [← hDe]; exact Zct (Zct hds hpb (by decide) (hKp x0 x1 x2 x3 x4 x5 x6)) hf5 (by decide) (hKf _ z0 z1)
    have Hout:=Zac hout
    clear hout hKp hKf hT4 hN4 hk4 hds hE24 hK3 hnb hEw4 hEW4 hpb hfb2 hfo hsm2 hE4 hM hDe HDp2
    go_wp2
    refine bodyPost_ret (v := .tuple #[.agg #[.slice n1 a.2.length nc,.slice g1 g2 g3,.slice v1 v2 v3,.slice r1 r2 r3,.int .i64 uu,.slice ka ks.length kc,.slice da D.length dc],.agg #[.int .i64 0,.int .i64 0]]) (by simp [results,Tryz.results23,go_sem,p0,p1,p2,p3,p4,p5,p6,pf,f0,f1,ff,pl,fl]) rfl ?_
    exact Hout.out _ _ _ _ _ _ _ _ _
  ·have Hh:Hid ((Zeg p q x).2.2=(6,pp)):=by show _=_; rw [Hhe.out,if_neg (by omega),hnum]
   clear hnum
   go_wp2_with fail
   go_region
   all_goals
    go_wp2
    refine bodyPost_ret (v := .tuple #[Zdk,.agg #[.int .i64 6,.int .i64 pp]]) (by simp [results,Tryz.results23,go_sem,Zdk,p0,p1,p2,p3,p4,p5,p6,pf,f0,f1,ff,pl,fl]) rfl ?_
    exact ⟨HEw2.out.trans (Kept.below (S:=fun i=>w.heap.size≤i) (by repeat' (first | with_reducible(first|exact Qx _ _|apply Kept.drew|apply Kept.drewN|apply Qz|refine Qy ?_ ?_ _)|(intro _; simp only; omega))) (by omega) (fun i e=>e)),Or.inl (by rw [Hh.out]; exact ⟨by simp,rfl⟩)⟩
theorem Yew {p:List Tok→Names→Option (List Sym × List Tok × Names)} (hp:∀ ts names r,p ts names=some r→2 * r.1.length+r.2.1.length≤ts.length+1) :
  ∀ (g:Nat) (ts:List Tok) (names:Names) (acc:List (List Sym)) r,Zeo p g ts names acc=some r→2 * r.1.flatten.length+r.2.1.length+1≤2 * acc.flatten.length+ts.length:=by
 intro g
 induction g with
 | zero=>intro ts names acc r h; simp [Zeo] at h
 | succ g ih =>
  intro ts names acc r h
  cases ts with
  | nil=>simp [Zeo] at h
  | cons t ts =>
   rw [Zeo] at h
   split at h
   ·simp at h; subst h
    simp only [Qf]; omega
   ·split at h
    ·simp at h
    ·rename_i q hq
     have h1:=hp _ _ _ hq
     have h4:=ih _ _ _ _ h
     simp only [List.flatten_append,List.flatten_cons,List.flatten_nil,Qs,Qg,Qf] at h4 ⊢
     omega
theorem Yex:∀ (f:Nat) (ts:List Tok) (names:Names) r,Zda f ts names=some r→2 * r.1.length+r.2.1.length≤ts.length+1:=by
 intro f
 induction f with
 | zero=>intro ts names r h; simp [Zda] at h
 | succ f ih =>
  intro ts names r h
  cases ts with
  | nil=>simp [Zda] at h
  | cons t ts =>
   rw [Zda] at h
   split at h
   ·simp at h; subst h
    simp only [Qf,Jt]; omega
   ·cases ts with
    | nil=>simp [Zju] at h
    | cons u us =>
     rw [Zju] at h
     split at h
     ·simp at h; subst h
      simp only [Qf,Jt]; omega
     ·rw [Option.map_eq_some_iff] at h
      obtain ⟨q,hq,rfl⟩:=h
      have h1:=Yew ih _ _ _ _ _ hq
      simp only [List.flatten_nil,Jt,Qf] at h1 ⊢
      omega
theorem Yan {f:Nat}:∀ (g:Nat) (ts:List Tok) (names:Names) (acc:List (List Sym)) r,Zdh f g ts names acc=some r→2 * r.1.flatten.length+r.2.1.length≤2 * acc.flatten.length+ts.length:=by
 intro g
 induction g with
 | zero=>intro ts names acc r h; simp [Zdh] at h
 | succ g ih =>
  intro ts names acc r h
  rw [Zdh] at h
  split at h
  ·simp at h
  ·rename_i q hq
   have h1:=Yex f _ _ _ hq
   split at h
   ·simp at h
   ·rename_i x rest hx
    rw [hx] at h1
    simp only [Qf] at h1
    split at h
    ·simp at h; subst h
     simp only [List.flatten_append,List.flatten_cons,List.flatten_nil,Qs,Qg]
     omega
    ·have h4:=ih _ _ _ _ h
     simp only [List.flatten_append,List.flatten_cons,List.flatten_nil,Qs,Qg] at h4
     omega
theorem Zni {s:ByteArray} {a:List (List Sym) × Names} (h:Zdx s=some a):a.2.length≤60:=by
 unfold Zdx at h
 split at h
 ·simp at h
 ·split at h
  ·simp at h
  ·rename_i hs he
   have hs:s.size≤120:=by omega
   obtain ⟨r1,_,_⟩:=Zdu s true
   have h0:(runs s true).1=0:=by rw [r1]; omega
   obtain ⟨q,e1,e2,_⟩:=Zit s hs h0
   rw [e1] at h
   simp at h
   subst h
   obtain ⟨g1,g2,_⟩:=Zha 1000 0 1000 (Zbb s) [] [] q (Zed s) (by simp) rfl e1
   obtain ⟨x1,x2,x3⟩:=Zex _ _ _ g2
   have hl:=Zev s
   have h2:=Yan 1000 (Zbb s) [] [] q e1
   simp only [List.flatten_nil,Jt] at h2
   simp only
   omega
theorem Yao:∀ (l:List Sym) (met:List Nat) (M:Nat),(Zaw l met).2.length≤M→(∀ s ∈ l,s.name≠[]→s.num=0)→0<M→∀ s ∈ (Zaw l met).1,s.num<M:=by
 intro l
 induction l with
 | nil=>intro met M _ _ _ s hs; simp [Zaw] at hs
 | cons s l ih =>
  intro met M hM hz hp t ht
  have hgrow:∀ (l:List Sym) (met:List Nat),met.length≤(Zaw l met).2.length:=by
   intro l
   induction l with
   | nil=>intro met; simp [Zaw]
   | cons s l ih =>
    intro met
    simp only [Zaw]
    split
    ·have:=ih (meet s.num met)
     have h1:met.length≤(meet s.num met).length:=by unfold meet; split <;> simp
     simp; omega
    ·exact ih met
  simp only [Zaw] at hM ht
  split at ht
  ·rename_i hn
   rw [if_pos hn] at hM
   simp only at hM
   rcases Qp.1 ht with rfl | ht
   ·show met.idxOf s.num<M
    have h1:=hgrow l (meet s.num met)
    have h2:met.idxOf s.num<(meet s.num met).length:=by
     unfold meet
     split
     ·rename_i e; rw [e]; simp
     ·rename_i e
      have:=List.idxOf_le_length (a:=s.num) (l:=met)
      omega
    omega
   ·exact ih _ M hM (fun u hu=>hz u (by simp [hu])) hp t ht
  ·rename_i hn
   rw [if_neg hn] at hM
   simp only at hM
   rcases Qp.1 ht with rfl | ht
   ·rw [hz t (by simp) hn]; exact hp
   ·exact ih _ M hM (fun u hu=>hz u (by simp [hu])) hp t ht
theorem Yap:∀ (ts:List (List Sym)) (met:List Nat) (M:Nat),(Zay ts met).2.length≤M→(∀ t ∈ ts,∀ s ∈ t,s.name≠[]→s.num=0)→0<M→∀ t ∈ (Zay ts met).1,∀ s ∈ t,s.num<M:=by
 intro ts
 induction ts with
 | nil=>intro met M _ _ _ t ht; simp [Zay] at ht
 | cons u ts ih =>
  intro met M hM hz hp t ht
  have hgrow:∀ (ts:List (List Sym)) (met:List Nat),met.length≤(Zay ts met).2.length:=by
   intro ts
   induction ts with
   | nil=>intro met; simp [Zay]
   | cons v ts ih =>
    intro met
    simp only [Zay]
    have h1:=ih (Zaw v met).2
    have h2:met.length≤(Zaw v met).2.length:=by
     clear h1 ih
     induction v generalizing met with
     | nil=>simp [Zaw]
     | cons s l ih =>
      simp only [Zaw]
      split
      ·have:=ih (meet s.num met)
       have h1:met.length≤(meet s.num met).length:=by unfold meet; split <;> simp
       simp; omega
      ·exact ih met
    omega
  simp only [Zay] at hM ht
  rcases Qp.1 ht with rfl | ht
  ·exact Yao u met M (Qq (hgrow ts _) hM) (fun s hs=>hz u (by simp) s hs) hp
  ·exact ih _ M hM (fun v hv=>hz v (by simp [hv])) hp t ht
theorem Zvm:∀ (l:List Sym) (met:List Nat) (P:Nat→Prop),(∀ s ∈ l,P s.args)→∀ s ∈ (Zaw l met).1,P s.args:=by
 intro l
 induction l with
 | nil=>intro met P _ s hs; simp [Zaw] at hs
 | cons s l ih =>
  intro met P h t ht
  simp only [Zaw] at ht
  split at ht
  ·rcases Qp.1 ht with rfl | ht
   ·exact h s (by simp)
   ·exact ih _ P (fun u hu=>h u (by simp [hu])) t ht
  ·rcases Qp.1 ht with rfl | ht
   ·exact h t (by simp)
   ·exact ih _ P (fun u hu=>h u (by simp [hu])) t ht
theorem Znj:∀ (ts:List (List Sym)) (met:List Nat) (u:List Sym),u ∈ (Zay ts met).1→∃ t ∈ ts,∃ m,u=(Zaw t m).1:=by
 intro ts
 induction ts with
 | nil=>intro met u h; simp [Zay] at h
 | cons t ts ih =>
  intro met u h
  simp only [Zay] at h
  rcases Qp.1 h with rfl | h
  ·exact ⟨t,by simp,met,rfl⟩
  ·obtain ⟨t',h1,m,h2⟩:=ih _ u h
   exact ⟨t',by simp [h1],m,h2⟩
def Ykj:Prop:=∀ (p q x:ByteArray) (w:World),p.size≤maxLen→q.size≤maxLen→x.size≤maxLen→Calls Tryz.prog 18 #[.string p,.string q,.string x] w fun e w'=>e = .returned (.tuple #[.string ⟨(yesN p q x).1.toArray⟩,.int .i64 (yesN p q x).2.1,.int .i64 (yesN p q x).2.2])∧Ext w w'
theorem Zvn {ts:List (List Sym)} {N:Nat} (h:∀ t ∈ ts,t.length≤N):ts.flatten.length≤N * ts.length:=by
 induction ts with
 | nil=>simp
 | cons t ts ih =>
  have h1:=h t (by simp)
  have h2:=ih (fun y hy=>h y (by simp [hy]))
  simp only [List.flatten_cons,Qg,Qf]
  rw [Nat.mul_add]
  omega
theorem Yaq:∀ (ts:List (List Sym)) (seen:List Nat),(∀ t ∈ ts,Wf 1 t∧t.length≤30∧∀ s ∈ t,s.name.length≤4096)→seen.length+ts.flatten.length≤4000→∀ u ∈ (Zay ts seen).1,(Zci u []).length≤200000:=by
 intro ts
 induction ts with
 | nil=>intro seen _ _ u hu; simp [Zay] at hu
 | cons t ts ih =>
  intro seen h hs u hu
  simp only [List.flatten_cons,Qg] at hs
  obtain ⟨h1,h2,h3⟩:=h t (by simp)
  have hc:=Zsn (l:=t) (by omega) h1 h3 (seen:=seen) (by omega)
  simp only [Zay] at hu
  rcases Qp.1 hu with rfl | hu
  ·omega
  ·exact ih _ (fun v hv=>h v (by simp [hv])) (by omega) u hu
theorem tx_ok {n:ND} (hn:NOk n) (hm:NNm n) {ts:List (List Sym)} (ht:∀ t ∈ ts,t ∈ n.terms∧t.length≤30) (hl:ts.length≤130) (hv:(Zay ts []).2.length≤2599):TxOk ts:=by
 have hfl:ts.flatten.length≤30 * ts.length:=Zvn (fun t h=>(ht t h).2)
 have hV:n.vars≤101000:=by have:=hn.vars; have:=hn.ul; omega
 refine ⟨by omega,by omega,fun t h=>Zng (hn.wf t (ht t h).1) (by have:=(ht t h).2; omega) (hn.occ t (ht t h).1) (by omega),fun u hu=>⟨?_,fun s hs=>⟨?_,?_⟩⟩,fun u hu => ?_⟩
 ·obtain ⟨t,h1,m,rfl⟩:=Znj ts [] u hu
  rw [Zkb]
  have:=(ht t h1).2
  omega
 ·exact Yap ts [] 2600 (by omega) (fun t h1 x hx hne=>by
   obtain ⟨i,hi⟩:=List.mem_iff_getElem?.1 hx
   exact (Zjo (hn.wf t (ht t h1).1) hi).2 hne) (by omega) u hu s hs
 ·obtain ⟨t,h1,m,rfl⟩:=Znj ts [] u hu
  refine Qq (Zvm t m (fun a=>a≤30) (fun x hx => ?_) s hs) (by omega)
  obtain ⟨i,hi⟩:=List.mem_iff_getElem?.1 hx
  have hil:=(Qa.1 hi).1
  have:=Zvc (hn.wf t (ht t h1).1) (i:=i) hil
  have he:Zav t i=x:=by unfold Zav; rw [List.getD_eq_getElem?_getD,hi]; rfl
  rw [he] at this
  have:=(ht t h1).2
  omega
 ·refine Qq (Yaq ts [] (fun t h1=>⟨hn.wf t (ht t h1).1,(ht t h1).2,fun s hs=>Qq (hm t (ht t h1).1 s hs) (by omega)⟩) ?_ u hu) (by omega)
  simp only [Jt]
  omega
theorem Zvo {n:ND} (hn:NOk n) (hm:NNm n) (hl:n.vals.length≤60):TxOk n.vals:=by
 have hfl:n.vals.flatten.length≤30 * n.vals.length:=Zvn (fun t h=>hn.vsize h)
 refine tx_ok hn hm (fun t h=>⟨by unfold ND.terms; simp [h],hn.vsize h⟩) (by omega) ?_
 have:=Zoy n.vals []
 simp only [Jt] at this
 omega
theorem Zll {n:ND} (hn:NOk n) (hm:NNm n) (hl:n.vals.length≤60) {names:Names} (hs:names.length≤60) (hns:∀ x ∈ names,x.length≤8):(Ziz [] names (Zay n.vals []).1).length≤100000000:=by
 have hfl:n.vals.flatten.length≤30 * n.vals.length:=Zvn (fun t h=>hn.vsize h)
 have:=Ydo names n.vals [] [] (fun x hx=>Qq (hns x hx) (by omega)) (fun t ht=>⟨hn.wf t (by unfold ND.terms; simp [ht]),by have:=hn.vsize ht; omega,fun s hs=>Qq (hm t (by unfold ND.terms; simp [ht]) s hs) (by omega)⟩) (by simp) (by simp only [Jt]; omega)
 omega
theorem Zvp (w:World) (nv gv vv rv kv dv:Value) (uu:Nat) (names:Names) (n:ND) (hg:∃ a l c,gv = .slice a l c) (hr:∃ a l c,rv = .slice a l c) (hk:∃ a l c,kv = .slice a l c) (hd:∃ a l c,dv = .slice a l c) (hnv:w.ownsRow 0 9 1 nv names.length (strs names)) (hv:TermsIn w vv n.vals) (hn:NOk n) (hm:NNm n) (hl:n.vals.length=names.length) (hs:names.length≤60) (hns:∀ x ∈ names,x.length≤8) :
  Calls Tryz.prog 24 #[.agg #[nv,gv,vv,rv,.int .i64 uu,kv,dv]] w fun e w'=>Ext w w'∧e = .returned (.string ⟨(Zbu names n).toArray⟩):=by
 obtain ⟨g1,g2,g3,rfl⟩:=hg
 obtain ⟨r1,r2,r3,rfl⟩:=hr
 obtain ⟨k1,k2,k3,rfl⟩:=hk
 obtain ⟨d1,d2,d3,rfl⟩:=hd
 obtain ⟨na,ncap,rfl⟩:=Zad hnv
 obtain ⟨va,vcap,rfl⟩:=hv.shape
 have HA:Hid (∀ o,Calls Tryz.prog 39 #[.slice na names.length ncap,.slice va n.vals.length vcap] (w.alloc o) fun e w'=>Ext (w.alloc o) w'∧e = .returned (.string ⟨(Zbu names n).toArray⟩)):=fun o=>by
  have hE:Ext w (w.alloc o):=(Ext.of (by repeat' (first | with_reducible(first|exact Qx _ _|apply Kept.drew|apply Kept.drewN|apply Qz|refine Qy ?_ ?_ _)|exact fun h=>absurd h (by simp <;> omega))))
  exact Zgu _ _ _ names n.vals (Zah hnv (fun j hj=>hE.block j (hnv.lt j hj).2)) (hv.ext hE) (Zvo hn hm (by omega)) hl.symm (Zll hn hm (by omega) hs hns)
 clear hnv hv hn hm hl hs hns
 go_enter Tryz.func24,Tryz.ntmps24
 go_wp2_with fail
 refine (HA.out _).mono ?_
 rintro e w1 ⟨hE1,rfl⟩
 have HE1:=Zac hE1
 clear hE1
 go_wp2
 go_ret
 exact ⟨(Below.refl _ w |>.alloc (Qe _) _).trans (HE1.out.mono (by simp)),rfl⟩
theorem Yhp:Ykj:=by
 intro p q x w hp hq hx
 have HC:=Zac (Yam p q x w hp hq hx)
 obtain ⟨Y,hY⟩:∃ Y,Y=yesN p q x:=⟨_,rfl⟩
 rw [← hY]
 have HY:=Zac hY
 clear hp hq hx hY
 go_enter Tryz.func18,Tryz.ntmps18
 go_wp2_with fail
 refine HC.out.mono ?_
 rintro e w1 ⟨hE1,hout⟩
 have hz1:=hE1.size
 have HE1:=Zac hE1
 clear hE1 HC
 rcases hout with ⟨hne,rfl⟩ | ⟨a,ks,n,m,hH,n1,nc,g1,g2,g3,v1,v2,v3,r1,r2,r3,uu,k1,kc,d1,dc,rfl,hN,hnames,hks,hds⟩
 ·obtain ⟨er,her⟩:∃ r,r=(Zeg p q x).2.2.1:=⟨_,rfl⟩
  obtain ⟨pe,hpe⟩:∃ r,r=(Zeg p q x).2.2.2:=⟨_,rfl⟩
  rw [← her,← hpe]
  rw [← her] at hne
  have Hy:Hid (Y=([],er,pe)):=by show _=_; rw [HY.out,yesN,if_neg (by rw [← her]; exact hne),← her,← hpe]
  have hb:((er:Int) != 0)=true:=by rw [bne_iff_ne]; omega
  clear her hpe hne
  unfold Zdk
  go_wp2_with fail
  go_quiet (fail)
  go_wp2
  go_ret3
  rw [Hy.out]
  exact ⟨rfl,HE1.out.trans (Kept.below (S:=fun i=>w.heap.size≤i) (by repeat' (first | with_reducible(first|exact Qx _ _|apply Kept.drew|apply Kept.drewN|apply Qz|refine Qy ?_ ?_ _)|(intro _; simp only; omega))) (by omega) (fun _ h=>h))⟩
 ·have hvl:=Zzo hH.ask hH.held
  have hsm:=Zni hH.ask
  obtain ⟨_,_,_,_,_,_,_,_,ha8⟩:=Zcy hH.ask
  have hans:Zbu a.2 n=Zbu a.2 m:=by unfold Zbu; rw [hH.same.valsC hH.ok]
  have Hy:Hid (Y=(Zbu a.2 n,0,0)):=by show _=_; rw [HY.out,yesN,hH.held,hans]; simp
  have HAn:Hid (∀ y,Ext w1 y→Calls Tryz.prog 24 #[.agg #[.slice n1 a.2.length nc,.slice g1 g2 g3,.slice v1 v2 v3,.slice r1 r2 r3,.int .i64 uu,.slice k1 ks.length kc,.slice d1 (m.done.map (·.2)).length dc]] y fun e w'=>Ext y w'∧e = .returned (.string ⟨(Zbu a.2 n).toArray⟩)):=fun y hE =>
   Zvp y _ _ _ _ _ _ uu a.2 n ⟨_,_,_,rfl⟩ ⟨_,_,_,rfl⟩ ⟨_,_,_,rfl⟩ ⟨_,_,_,rfl⟩ (Zah hnames (fun j hj=>hE.block j (hnames.lt j hj).2)) (hN.vals.ext hE) hH.ok hH.nm (by rw [hH.same.vl,hvl]) hsm ha8
  obtain ⟨T,hT⟩:∃ T,T=Zbu a.2 n:=⟨_,rfl⟩
  rw [← hT] at HAn Hy
  obtain ⟨D,hD⟩:∃ D,D=(m.done.map (·.2)).length:=⟨_,rfl⟩
  rw [← hD] at HAn ⊢
  clear hvl hsm ha8 hans hH hN hnames hks hds hT hD
  go_wp2_with fail
  refine (HAn.out _ ((Below.refl _ w1 |>.alloc (Qe _) _).alloc (by simp) _)).mono ?_
  rintro e w2 ⟨hE2,rfl⟩
  have HE2:=Zac hE2
  clear hE2
  go_wp2
  go_ret3
  rw [Hy.out]
  exact ⟨rfl,(HE1.out.trans (Kept.below (S:=fun i=>w.heap.size≤i) (by repeat' (first | with_reducible(first|exact Qx _ _|apply Kept.drew|apply Kept.drewN|apply Qz|refine Qy ?_ ?_ _)|(intro _; simp only; omega))) (by omega) (fun _ h=>h))).trans (HE2.out.mono (by simp; omega))⟩
theorem Yar {cs:List Cls} {a:List (List Sym) × Names} (hcl:cs.length≤24):∀ {n:Nat} {s:SN},InvN cs a s→(Zcf cs n s).1.tries=s.tries+(Zcf cs n s).2:=by
 intro n
 induction n with
 | zero=>intro s _; rfl
 | succ n ih =>
  intro s hI
  simp only [Zcf]
  split
  ·rename_i hgo
   obtain ⟨m,k,r,c,hw,hc,_⟩:=hI.head hgo.2.1
   have hI1:InvN cs a (Zas cs s):=hI.try' hcl hgo.1 hw hc hgo.2.2
   have e3:=(Zho hw hc hgo.1).2.2.1
   have:=ih hI1
   simp only
   omega
  ·rfl
theorem Zoz {cs:List Cls} {a:List (List Sym) × Names} (hcl:cs.length≤24) {n:Nat} {s:SN} (hI:InvN cs a s):(Zch cs n s).1.tries=s.tries+(Zch cs n s).2:=by
 unfold Zch
 split
 ·rfl
 ·have h:=Yar (n:=n) hcl (hI.seek (by omega))
  simp only
  have he:∀ z:SN,(endN z).tries=z.tries:=fun z=>by
   unfold endN Zhb
   split
   ·rfl
   ·split
    ·split
     ·rfl
     ·split <;> rfl
    ·rfl
  rw [he]
  exact h
theorem Yhq {cs:List Cls} {a:List (List Sym) × Names} (hcl:cs.length≤24) {tries size:Nat}:∀ {f:Nat} {m:SN} {t:Tr},InvN cs a m→m.tries=t.tries→t.tries≤tries→InvN cs a (aftN cs a tries size f m t).1∧(aftN cs a tries size f m t).1.tries≤tries:=by
 intro f
 induction f with
 | zero=>intro m t hI h1 h2; exact ⟨hI,by show m.tries≤tries; omega⟩
 | succ f ih =>
  intro m t hI h1 h2
  rw [aftN]
  split
  ·have hI1:=hI.step hcl (n:=Zee size (tries - t.tries))
   have h3:=Zoz (n:=Zee size (tries - t.tries)) hcl hI
   have h4:=Zqf (cs:=cs) (n:=Zee size (tries - t.tries)) (s:=m)
   have h5:Zee size (tries - t.tries)≤tries - t.tries:=by unfold Zee; split <;> omega
   split
   ·exact ⟨hI1,by show (Zch cs _ m).1.tries≤tries; omega⟩
   ·exact ih hI1 (by rw [Zhc,h3,h1]) (by rw [Zhc]; omega)
  ·exact ⟨hI,by show m.tries≤tries; omega⟩
def layN:Nat→List UInt8
 | 0=>[114]
 | 1=>[113]
 | _=>[112]
theorem Zxo {a b:Nat} (ha:a≤2) (hb:b≤2) (h:layN a=layN b):a=b:=by
 rcases (by omega:a=0∨a=1∨a=2) with rfl | rfl | rfl <;> rcases (by omega:b=0∨b=1∨b=2) with rfl | rfl | rfl <;> first | rfl | (simp [layN] at h)
def layB:Nat→List Nat
 | 0=>[]
 | 1=>[0,0]
 | _=>[1]
def hdN (l:List Sym):List UInt8:=match l with
 | s::_=>s.name
 | []=>[]
theorem Zkp {σ:Nat→List Sym} {l:List Sym} (h:FA l):hdN (ap σ l)=hdN l:=by
 obtain ⟨P,x,y,rfl,hP,_⟩:=h
 rw [Zqh σ hP]
 rfl
def LvG (n:ND) (L:List Nat):Prop:=n.goals.map (fun g=>hdN g.1)=L.map layN
def LvC (c:Cls) (a:Nat):Prop:=a≤2∧hdN c.head=layN a∧c.body.map hdN=(layB a).map layN
theorem LvG.same {n m:ND} {L:List Nat} (h:LvG n L) (hf:FFn n) (hs:Same m n):LvG m L:=by
 obtain ⟨τ,_,e⟩:=hs.al.2
 have lg:=hs.gl
 have e1:m.goals.map (·.1)=(n.goals.map (·.1)).map (ap τ):=by
  unfold ND.terms at e
  rw [Qr] at e
  exact (List.append_inj e (by simp [lg])).1
 unfold LvG at h ⊢
 rw [← h]
 have e2:∀ z:ND,z.goals.map (fun g=>hdN g.1)=(z.goals.map (·.1)).map hdN:=fun z=>by rw [List.map_map]; rfl
 rw [e2 m,e2 n,e1,List.map_map]
 refine List.map_congr_left (fun t ht => ?_)
 obtain ⟨g,hg,rfl⟩:=List.mem_map.1 ht
 exact Zkp (hf.goals g hg)
theorem Ykk {n:ND} (hn:NOk n) (hf:FFn n) {c:Cls} (hc:COk c) (hfc:FFc c) {k a:Nat} {b:Nat} {L:List Nat} (hL:LvG n (a::L)) (ha:a≤2) (hb:LvC c b) (hg:n.goals.length≤30) (hu:n.used.length≤50) :
  (tryN n c k).2=0∨(((tryN n c k).2=1∨(tryN n c k).2=2)∧b=a∧NOk (tryN n c k).1∧FFn (tryN n c k).1∧LvG (tryN n c k).1 (layB a++L)∧(tryN n c k).1.used=n.used++[k]):=by
 by_cases hex:∃ r:ND × Nat,∃ m,NOk m∧Same m n∧Out m c k r.2 r.1
 ·have e:tryN n c k=Classical.choose hex:=by unfold tryN; rw [dif_pos hex]
  obtain ⟨m,hm,hS,ho⟩:=Classical.choose_spec hex
  have hfm:FFn m:=hf.same hn.wf hS
  have hLm:LvG m (a::L):=hL.same hf hS
  have hbl:c.body.length≤2:=by
   have:=congrArg List.length hb.2.2
   simp only [Ql] at this
   rw [this]
   unfold layB
   split <;> simp
  have h3:(Classical.choose hex).2≠3:=Yjr hm hfm hc hfc (by rw [hS.gl]; omega) (by rw [hS.used]; omega) ho
  by_cases h0:(Classical.choose hex).2=0
  ·left
   rw [e]
   exact h0
  ·right
   have hk:(tryN n c k).2=1∨(tryN n c k).2=2:=by
    have:=Zgd n c k
    rw [e] at this ⊢
    omega
   have hk':=hk
   rw [e] at hk'
   have hff:=hfm.child hm hc hfc ho hk'
   have hused:=Zgc hk
   have hnk:=Ygx hc hk
   refine ⟨hk,?_,hnk,by rw [e]; exact hff,?_,hused⟩
   ·obtain ⟨g,gs,hgm,ho⟩:=ho
    rcases ho with ⟨q0,_⟩ | ⟨q3,_⟩ | ⟨σ,h1,_,_,_⟩
    ·omega
    ·exact absurd q3 h3
    ·have hga:FA g.1:=hfm.goals g (by rw [hgm]; simp)
     have hha:FA (ap (Zcx m.vars) c.head):=hfc.1.apF (fun _=>Zsx _)
     have e1:=congrArg hdN h1.unif
     rw [Zkp hga,Zkp hha,Zkp hfc.1,hb.2.1] at e1
     unfold LvG at hLm
     rw [hgm] at hLm
     simp only [List.map_cons,List.cons.injEq] at hLm
     rw [hLm.1] at e1
     exact (Zxo ha hb.1 e1).symm
   ·rw [e]
    obtain ⟨g,gs,hgm,ho⟩:=ho
    rcases ho with ⟨q0,_⟩ | ⟨q3,_⟩ | ⟨σ,h1,_,_,hch⟩
    ·omega
    ·exact absurd q3 h3
    ·have hba:b=a:=by
      have hga:FA g.1:=hfm.goals g (by rw [hgm]; simp)
      have hha:FA (ap (Zcx m.vars) c.head):=hfc.1.apF (fun _=>Zsx _)
      have e1:=congrArg hdN h1.unif
      rw [Zkp hga,Zkp hha,Zkp hfc.1,hb.2.1] at e1
      unfold LvG at hLm
      rw [hgm] at hLm
      simp only [List.map_cons,List.cons.injEq] at hLm
      rw [hLm.1] at e1
      exact (Zxo ha hb.1 e1).symm
     rw [hch]
     unfold LvG at hLm ⊢
     rw [hgm] at hLm
     simp only [List.map_cons,List.cons.injEq] at hLm
     have hσ:∀ t,FA t→hdN (ap σ t)=hdN t:=fun t ht=>Zkp ht
     simp only [Zaq,carr,Qr,List.map_map]
     congr 1
     ·rw [← hba,← hb.2.2]
      refine List.map_congr_left (fun t ht => ?_)
      show hdN (ap σ (ap (Zcx m.vars) t))=hdN t
      have hfa:FA (ap (Zcx m.vars) t):=(hfc.2 t ht).apF (fun _=>Zsx _)
      rw [hσ _ hfa,Zkp (hfc.2 t ht)]
     ·rw [← hLm.2]
      refine List.map_congr_left (fun x hx => ?_)
      exact hσ _ (hfm.goals x (by rw [hgm]; simp [hx]))
 ·left
  have e:tryN n c k=(⟨[],[],[],[],0⟩,0):=by unfold tryN; rw [dif_neg hex]
  rw [e]
def wtL:List Nat→Nat
 | []=>0
 | 0::L=>1+wtL L
 | 1::L=>3+wtL L
 | _::L=>4+wtL L
def layM:Nat→Nat
 | 0=>3
 | _=>2
def Ykl:Nat→List Nat→Nat
 | 0,_=>0
 | _+1,[]=>0
 | f+1,a::L=>7+layM a * Ykl f (layB a++L)
def cost (L:List Nat):Nat:=Ykl (wtL L) L
theorem Yey (a:Nat) (L:List Nat):wtL (a::L)=wtL (layB a++L)+1:=by
 match a with
 | 0=>simp [wtL,layB]; omega
 | 1=>simp [wtL,layB]; omega
 | a+2=>simp [wtL,layB]; omega
theorem Ztl (a:Nat) (L:List Nat):cost (a::L)=7+layM a * cost (layB a++L):=by
 unfold cost
 rw [Yey,Ykl]
theorem Yhr:∀ a≤2,cost [a]≤133:=by decide
def cntF (lv:List Nat) (a k:Nat):Nat:=((lv.drop k).filter (fun b=>b == a)).length
theorem Yhs {lv:List Nat} {a b k:Nat} (h:lv[k]?=some b):cntF lv a k=(if b=a then 1 else 0)+cntF lv a (k+1):=by
 obtain ⟨hk,hb⟩:=Qa.1 h
 unfold cntF
 rw [List.drop_eq_getElem_cons hk,hb,List.filter_cons]
 by_cases e:b=a
 ·simp [e]; omega
 ·have:(b == a)=false:=by simpa using e
  simp [this,e]
structure NodeL (n:ND) (L:List Nat):Prop where
 ok:NOk n
 ff:FFn n
 lv:LvG n L
 le:∀ a ∈ L,a≤2
 wt:wtL L+n.used.length≤4
theorem Ylp:∀ (L:List Nat),L.length≤wtL L:=by
 intro L
 induction L with
 | nil=>simp [wtL]
 | cons a L ih =>
  match a with
  | 0=>simp only [wtL,Qf]; omega
  | 1=>simp only [wtL,Qf]; omega
  | a+2=>simp only [wtL,Qf]; omega
theorem NodeL.small {n:ND} {L:List Nat} (h:NodeL n L):n.goals.length≤30∧n.used.length≤50:=by
 have h1:=congrArg List.length h.lv
 simp only [Ql] at h1
 have h2:=Ylp L
 have h3:=h.wt
 omega
structure LayC (cs:List Cls) (lv:List Nat):Prop where
 len:cs.length=lv.length
 seven:cs.length≤7
 each:∀ (k:Nat) (c:Cls),cs[k]?=some c→∃ b,lv[k]?=some b∧LvC c b∧COk c∧FFc c
 few:∀ a,cntF lv a 0≤layM a
def PotW (lv:List Nat):List (ND × Nat)→Nat→Prop
 | [],p=>p=0
 | (n,k)::r,p=>∃ a L p',NodeL n (a::L)∧k≤lv.length∧PotW lv r p'∧p=(lv.length - k)+cntF lv a k * cost (layB a++L)+p'
theorem PotW.leave {cs:List Cls} {lv:List Nat} (hl:cs.length=lv.length):∀ {way:List (ND × Nat)} {t:List UInt8} {p:Nat},PotW lv way p→PotW lv (Zdw cs way t).1 p:=by
 intro way
 induction way with
 | nil=>intro t p h; exact h
 | cons x r ih =>
  intro t p h
  obtain ⟨n,k⟩:=x
  unfold Zdw
  split
  ·rename_i hk
   obtain ⟨a,L,p',h1,h2,h3,h4⟩:=h
   have e:k=lv.length:=by omega
   have hc:cntF lv a k=0:=by unfold cntF; rw [e]; simp
   rw [hc] at h4
   have:p=p':=by rw [h4,e]; simp
   rw [this]
   exact ih h3
  ·exact h
def LayI (lv:List Nat) (s:SN):Prop:=s.status≠3∧∃ p,PotW lv s.way p∧s.tries+p≤133
theorem Yez (a:Nat):∀ b ∈ layB a,b≤2:=by
 intro b hb
 unfold layB at hb
 split at hb <;> simp at hb <;> omega
theorem LayI.try' {cs:List Cls} {lv:List Nat} (hC:LayC cs lv) {s:SN} (h:LayI lv s) (h0:s.status=0):LayI lv (Zas cs s):=by
 obtain ⟨h3,p,hp,ht⟩:=h
 have hl:=hC.len
 have h7:=hC.seven
 unfold Zas
 cases hw:s.way with
 | nil=>exact ⟨h3,p,hp,ht⟩
 | cons x r =>
  obtain ⟨n,k⟩:=x
  simp only
  cases hc:cs[k]? with
  | none=>exact ⟨h3,p,hp,ht⟩
  | some c =>
   simp only
   rw [hw] at hp
   obtain ⟨a,L,p',hN,hk,hr,e⟩:=hp
   obtain ⟨b,hb,hLc,hco,hfc⟩:=hC.each k c hc
   have hkl:=(Qa.1 hc).1
   have ha:=hN.le a (by simp)
   obtain ⟨s1,s2⟩:=hN.small
   have hcnt:=Yhs (a:=a) hb
   have hmul:∀ C:Nat,cntF lv a k * C=(if b=a then C else 0)+cntF lv a (k+1) * C:=fun C=>by
    rw [hcnt,Nat.add_mul]
    split <;> simp
   have hp1:PotW lv ((n,k+1)::r) ((lv.length - (k+1))+cntF lv a (k+1) * cost (layB a++L)+p'):=⟨a,L,p',hN,by omega,hr,rfl⟩
   have hm:=hmul (cost (layB a++L))
   rcases Ykk (k:=k) hN.ok hN.ff hco hfc hN.lv ha hLc s1 s2 with hz | ⟨hk12,hba,hok,hff,hlv,hus⟩
   ·rw [if_neg (by omega),if_neg (by omega)]
    refine ⟨by show s.status≠3; omega,_,PotW.leave hl hp1,?_⟩
    show s.tries+1+_≤133
    have:cntF lv a (k+1) * cost (layB a++L)≤cntF lv a k * cost (layB a++L):=by rw [hm]; omega
    omega
   ·rw [if_neg (by omega),if_pos hk12]
    rw [if_pos hba] at hm
    unfold Zbz
    split
    ·refine ⟨by show (1:Nat)≠3; omega,_,PotW.leave hl hp1,?_⟩
     show s.tries+1+_≤133
     omega
    ·rename_i hg
     have hne:layB a++L≠[]:=fun e0=>hg (by
      unfold LvG at hlv
      rw [e0] at hlv
      simpa using hlv)
     obtain ⟨a2,L2,hL2⟩:∃ a2 L2,layB a++L=a2::L2:=List.exists_cons_of_ne_nil hne
     have hwt:=Yey a L
     have hN2:NodeL (tryN n c k).1 (a2::L2):=by
      rw [← hL2]
      refine ⟨hok,hff,hlv,fun z hz => ?_,?_⟩
      ·rcases Qk.1 hz with hz | hz
       ·exact Yez a z hz
       ·exact hN.le z (by simp [hz])
      ·have:=hN.wt
       rw [hus,Qg,Qn]
       omega
     have hpc:PotW lv (((tryN n c k).1,0)::(n,k+1)::r) ((lv.length - 0)+cntF lv a2 0 * cost (layB a2++L2)+((lv.length - (k+1))+cntF lv a (k+1) * cost (layB a++L)+p')):=⟨a2,L2,_,hN2,by omega,hp1,rfl⟩
     have hcc:(lv.length - 0)+cntF lv a2 0 * cost (layB a2++L2)≤cost (layB a++L):=by
      rw [hL2,Ztl]
      have:=Nat.mul_le_mul_right (cost (layB a2++L2)) (hC.few a2)
      omega
     refine ⟨by show s.status≠3; omega,_,PotW.leave hl hpc,?_⟩
     show s.tries+1+_≤133
     omega
theorem LayI.loop {cs:List Cls} {lv:List Nat} (hC:LayC cs lv):∀ {n:Nat} {s:SN},LayI lv s→LayI lv (Zcf cs n s).1:=by
 intro n
 induction n with
 | zero=>intro s h; exact h
 | succ n ih =>
  intro s h
  simp only [Zcf]
  split
  ·rename_i hgo
   exact ih (h.try' hC hgo.1)
  ·exact h
theorem LayI.step {cs:List Cls} {lv:List Nat} (hC:LayC cs lv) {n:Nat} {s:SN} (h:LayI lv s):LayI lv (Zch cs n s).1:=by
 unfold Zch
 split
 ·exact h
 ·have h1:LayI lv (Zcf cs n { s with status:=0 }).1:=LayI.loop hC ⟨by show (0:Nat)≠3; omega,h.2⟩
  simp only
  generalize (Zcf cs n { s with status:=0 }).1=z at h1
  unfold endN
  rw [if_neg h1.1]
  split
  ·split
   ·exact ⟨by show (2:Nat)≠3; omega,h1.2⟩
   ·have h1':=h1
    obtain ⟨_,p,_,hp⟩:=h1'
    rw [if_neg (by omega)]
    exact h1
  ·exact h1
theorem Yht {cs:List Cls} {lv:List Nat} {a:List (List Sym) × Names} (hC:LayC cs lv):∀ {f:Nat} {m:SN} {t:Tr},InvN cs a m→LayI lv m→m.tries=t.tries→(m.status=0∨m.status=1)→3001 - t.tries<f→(aftN cs a 3001 3000 f m t).1.status=2:=by
 have hcl:cs.length≤24:=by have:=hC.seven; omega
 intro f
 induction f with
 | zero=>intro m t _ _ _ _ h; omega
 | succ f ih =>
  intro m t hI hLy hmt hm hf
  have h133:t.tries≤133:=by obtain ⟨_,p,_,hp⟩:=hLy; omega
  rw [aftN,if_pos (by omega)]
  obtain ⟨N,hN⟩:∃ N,N=Zee 3000 (3001 - t.tries):=⟨_,rfl⟩
  have hN0:0<N:=by rw [hN]; unfold Zee; split <;> omega
  rw [← hN]
  have hI1:=hI.step hcl (n:=N)
  have hL1:=hLy.step hC (n:=N)
  have htr:=Zoz (n:=N) hcl hI
  have hsm:=Zld (cs:=cs) (n:=N) (s:=m) hN0 (by omega)
  split
  ·rename_i h23
   simp only
   have:=hL1.1
   omega
  ·rename_i h23
   have hst:(Zch cs N m).1.status=0∨(Zch cs N m).1.status=1:=by have:=hI1.st; omega
   have:=hsm hst
   exact ih hI1 hL1 (by rw [Zhc,htr,hmt]) hst (by rw [Zhc]; omega)
theorem LayI.new {cs:List Cls} {lv:List Nat} {a:List (List Sym) × Names} (hC:LayC cs lv) {b:Nat} (hb:b≤2) (ha:a.1≠[]) (hN:NodeL (topN a) [b]):LayI lv (newN cs a):=by
 have hg:=Zey ha
 unfold newN Zbz
 rw [if_neg hg]
 have hp:PotW lv [(topN a,0)] ((lv.length - 0)+cntF lv b 0 * cost (layB b++[])+0):=⟨b,[],0,hN,by omega,rfl,rfl⟩
 refine ⟨by show (0:Nat)≠3; omega,_,PotW.leave hC.len hp,?_⟩
 show 0+_≤133
 have h1:=Yhr b hb
 rw [Ztl] at h1
 have h2:=Nat.mul_le_mul_right (cost (layB b++[])) (hC.few b)
 have h3:=hC.len
 have h4:=hC.seven
 omega
def Zcp (t:TypeId):Prop:=t=102∨t=72∨t=74∨t=9∨t=3
def OffCode (S:Nat→Prop) (w:World):Prop:=∀ k,S k→∃ cl t fr,w.heap[k]?=some (.cells cl t fr)∧¬ Zcp t
theorem OffCode.own {S:Nat→Prop} {w w':World} {B:Nat} {e:TypeId} {size n:Nat} {v:Value} {xs:List Value} (hS:OffCode S w) (he:Zcp e) (hk:Kept S w w') (h:w.ownsRow B e size v n xs):w'.ownsRow B e size v n xs :=
 Zah h (fun k hj=>hk.block k (h.lt k hj).2 (fun hs=>by
  obtain ⟨cl,t,fr,h1,h2⟩:=hS k hs
  rcases h.2 with ⟨rfl,_⟩ | ⟨g,cap,cur,rfl,_,hg,_⟩
  ·simp [Zbl,Value.ownBlock] at hj
  ·simp [Zbl,Value.ownBlock] at hj
   subst hj
   rw [hg] at h1
   simp at h1
   exact h2 (h1.2.1 ▸ he)))
theorem OffCode.terms {S:Nat→Prop} {w w':World} {v:Value} {ls:List (List Sym)} (hS:OffCode S w) (hk:Kept S w w') (h:TermsIn w v ls):TermsIn w' v ls:=by
 obtain ⟨vs,h⟩:=h
 exact ⟨vs,hS.own (by simp [Zcp]) hk h.owns,fun i l hl=>by
  obtain ⟨x,h1,h2⟩:=h.all i l hl
  exact ⟨x,h1,hS.own (by simp [Zcp]) hk h2⟩⟩
theorem OffCode.prog {S:Nat→Prop} {w w':World} {v:Value} {cs:List Cls} {xs:List (List Value)} (hS:OffCode S w) (hk:Kept S w w') (h:ProgIn w v cs xs):ProgIn w' v cs xs :=
 ⟨hS.own (by simp [Zcp]) hk h.owns,h.len,h.three,fun i c hc=>by
  obtain ⟨hv,bv,vv,h1,h2⟩:=h.all i c hc
  exact ⟨hv,bv,vv,h1,hS.own (by simp [Zcp]) hk h2.head,hS.terms hk h2.body,hS.own (by simp [Zcp]) hk h2.names⟩⟩
def CNode (w:World) (gv vv rv uv:Value) (n0:ND):Prop:=∃ n,NodeIn w gv vv rv n∧uv = .int .i64 n.vars∧NOk n∧NNm n∧NFew n∧Same n n0
theorem CNode.ext {w w':World} {gv vv rv uv:Value} {n0:ND} (h:CNode w gv vv rv uv n0) (e:Ext w w'):CNode w' gv vv rv uv n0:=by
 obtain ⟨n,h1,h2⟩:=h
 exact ⟨n,h1.ext e,h2⟩
theorem CNode.keep {S:Nat→Prop} {w w':World} {gv vv rv uv:Value} {n0:ND} (h:CNode w gv vv rv uv n0) (hk:Kept S w w') (hS:OffCode S w):CNode w' gv vv rv uv n0:=by
 obtain ⟨n,h1,h2⟩:=h
 exact ⟨n,⟨hS.terms hk h1.goals,hS.terms hk h1.vals,hS.terms hk h1.done⟩,h2⟩
theorem CNode.shape {w:World} {gv vv rv uv:Value} {n0:ND} (h:CNode w gv vv rv uv n0):∃ ga gc va vl vc ra rl rc,∃ u:Nat,gv = .slice ga n0.goals.length gc∧vv = .slice va vl vc∧rv = .slice ra rl rc∧uv = .int .i64 u∧u≤101000:=by
 obtain ⟨n,h1,rfl,h3,_,_,hs⟩:=h
 obtain ⟨ga,gcap,rfl⟩:=h1.goals.shape
 obtain ⟨va,vcap,rfl⟩:=h1.vals.shape
 obtain ⟨ra,rcap,rfl⟩:=h1.done.shape
 exact ⟨ga,gcap,va,_,vcap,ra,_,rcap,n.vars,by rw [Ql,hs.gl],rfl,rfl,rfl,by have:=h3.vars; have:=h3.ul; omega⟩
structure RowL (w:World) (v:Value) (ds:List (ND × Nat)) (xs:List Value):Prop where
 owns:w.ownsRow 0 104 5 v ds.length xs
 all:∀ (i:Nat) (d:ND × Nat),ds[i]?=some d→∃ x0 x1 x2 x3,xs[i * 5]?=some x0∧xs[i * 5+1]?=some x1∧xs[i * 5+2]?=some x2∧xs[i * 5+3]?=some x3∧xs[i * 5+4]?=some (.int .i64 d.2)∧CNode w x0 x1 x2 x3 d.1
theorem RowL.nil (w:World):RowL w (.slice none 0 0) [] []:=⟨World.ownsRow_nil _ _ _ _,fun i d h=>by simp at h⟩
theorem RowL.ext {w w':World} {v:Value} {ds:List (ND × Nat)} {xs:List Value} (h:RowL w v ds xs) (e:Ext w w'):RowL w' v ds xs :=
 ⟨Zah h.owns (fun k hk=>e.block k (h.owns.lt k hk).2),fun i d hd=>by
  obtain ⟨x0,x1,x2,x3,y0,y1,y2,y3,y4,g⟩:=h.all i d hd
  exact ⟨x0,x1,x2,x3,y0,y1,y2,y3,y4,g.ext e⟩⟩
theorem RowL.keep {S:Nat→Prop} {w w':World} {v:Value} {ds:List (ND × Nat)} {xs:List Value} (h:RowL w v ds xs) (hk:Kept S w w') (hS:OffCode S w) (ho:∀ k,v.ownBlock=some k→¬ S k):RowL w' v ds xs :=
 ⟨Zah h.owns (fun k hj=>hk.block k (h.owns.lt k hj).2 (ho k hj)),fun i d hd=>by
  obtain ⟨x0,x1,x2,x3,y0,y1,y2,y3,y4,g⟩:=h.all i d hd
  exact ⟨x0,x1,x2,x3,y0,y1,y2,y3,y4,g.keep hk hS⟩⟩
theorem RowL.pop {w:World} {g n cap:Nat} {ds:List (ND × Nat)} {d:ND × Nat} {xs:List Value} (h:RowL w (.slice (some ⟨g,0,none⟩) (n+1) cap) (ds++[d]) xs) (hn:ds.length=n):RowL w (.slice (some ⟨g,0,none⟩) n cap) ds (xs.take (n * 5)):=by
 have ho:=h.owns
 rw [Qg,Qn,hn] at ho
 refine ⟨by rw [hn]; exact Zsp ho,fun i x hx => ?_⟩
 have hi:=(Qa.1 hx).1
 obtain ⟨x0,x1,x2,x3,y0,y1,y2,y3,y4,g⟩:=h.all i x (by rw [Qc hi]; exact hx)
 exact ⟨x0,x1,x2,x3,by rw [List.getElem?_take_of_lt (by omega)]; exact y0,by rw [List.getElem?_take_of_lt (by omega)]; exact y1,by rw [List.getElem?_take_of_lt (by omega)]; exact y2,by rw [List.getElem?_take_of_lt (by omega)]; exact y3,by rw [List.getElem?_take_of_lt (by omega)]; exact y4,g⟩
theorem Zjs {w:World} {B n size:Nat} {v:Value} {xs:List Value} (h:w.ownsRow B 104 size v n xs):OffCode (Zbl v) w:=fun j hj=>by
 rcases h.2 with ⟨rfl,_⟩ | ⟨g,cap,cur,rfl,_,hg,_⟩
 ·simp [Zbl,Value.ownBlock] at hj
 ·simp [Zbl,Value.ownBlock] at hj
  subst hj
  exact ⟨_,_,_,hg,by simp [Zcp]⟩
theorem RowL.step {w w':World} {cv cv':Value} {ds:List (ND × Nat)} {xs:List Value} {x0 x1 x2 x3:Value} {n:ND} {k:Nat} (h:RowL w cv ds xs) (hn:CNode w x0 x1 x2 x3 n) (ha:Appended w 0 104 5 cv (ds.length+1) (xs++[x0,x1,x2,x3,.int .i64 k]) cv' w') :
  RowL w' cv' (ds++[(n,k)]) (xs++[x0,x1,x2,x3,.int .i64 k]):=by
 have hS:=Zjs h.owns
 have hxl:=h.owns.1
 refine ⟨by simpa using ha.owns,fun i d hd => ?_⟩
 rcases Nat.lt_or_ge i ds.length with hi | hi
 ·rw [Qc hi] at hd
  obtain ⟨p0,p1,p2,p3,y0,y1,y2,y3,y4,g⟩:=h.all i d hd
  exact ⟨p0,p1,p2,p3,by rw [Qc (by omega)]; exact y0,by rw [Qc (by omega)]; exact y1,by rw [Qc (by omega)]; exact y2,by rw [Qc (by omega)]; exact y3,by rw [Qc (by omega)]; exact y4,g.keep ha.kept hS⟩
 ·have e:i=ds.length:=by
   have:=(Qa.1 hd).1
   simp at this; omega
  subst e
  rw [Qd (Qe _)] at hd
  simp at hd
  subst hd
  exact ⟨x0,x1,x2,x3,by rw [Qd (by omega)]; simp [hxl],by rw [Qd (by omega),show ds.length * 5+1 - xs.length=1 by omega]; rfl,by rw [Qd (by omega),show ds.length * 5+2 - xs.length=2 by omega]; rfl,by rw [Qd (by omega),show ds.length * 5+3 - xs.length=3 by omega]; rfl,by rw [Qd (by omega),show ds.length * 5+4 - xs.length=4 by omega]; rfl,hn.keep ha.kept hS⟩
structure CX where
 ca:Option Addr
 cc:Nat
 na:Option Addr
 nc:Nat
 wa:Option Addr
 wc:Nat
 va:Option Addr
 vl:Nat
 vc:Nat
 fa:Option Addr
 fl:Nat
 fc:Nat
def CX.cells (x:CX) (cl nl wl tr st:Nat) (T:List UInt8):Array Value:=#[.slice x.ca cl x.cc,.slice x.na nl x.nc,.slice x.wa wl x.wc,.int .i64 tr,.int .i64 st,.slice x.va x.vl x.vc,.slice x.fa x.fl x.fc,.string ⟨T.toArray⟩]
structure CSr (w:World) (b:Nat) (x:CX) (cs:List Cls) (a:List (List Sym) × Names) (m:SN):Prop where
 box:w.heap[b]?=some (.cells (x.cells cs.length a.2.length m.way.length m.tries m.status m.tree) 79 (0,0))
 prog:∃ xs,ProgIn w (.slice x.ca cs.length x.cc) cs xs
 names:w.ownsRow 0 9 1 (.slice x.na a.2.length x.nc) a.2.length (strs a.2)
 way:∃ ys,RowL w (.slice x.wa m.way.length x.wc) m.way.reverse ys
 found:m.status=1→(∃ n,TermsIn w (.slice x.va x.vl x.vc) n.vals∧NOk n∧NNm n∧Same n m.found)∧w.ownsRow 0 3 1 (.slice x.fa x.fl x.fc) m.found.used.length (ints m.found.used)
theorem CSr.ext {w w':World} {b:Nat} {x:CX} {cs:List Cls} {a:List (List Sym) × Names} {m:SN} (h:CSr w b x cs a m) (e:Ext w w'):CSr w' b x cs a m:=by
 obtain ⟨xs,h1⟩:=h.prog
 obtain ⟨ys,h2⟩:=h.way
 refine ⟨(e.block _ (Zab h.box)).trans h.box,⟨xs,h1.ext e⟩,Zah h.names (fun k hk=>e.block k (h.names.lt k hk).2),⟨ys,h2.ext e⟩,fun hs => ?_⟩
 obtain ⟨⟨n,g1,g2⟩,g3⟩:=h.found hs
 exact ⟨⟨n,g1.ext e,g2⟩,Zah g3 (fun k hk=>e.block k (g3.lt k hk).2)⟩
def ownS (b:Nat) (x:CX):Nat→Prop:=fun k=>k=b∨(∃ a,x.wa=some a∧a.block=k)
theorem CSr.keep {S:Nat→Prop} {w w':World} {b:Nat} {x:CX} {cs:List Cls} {a:List (List Sym) × Names} {m:SN} (h:CSr w b x cs a m) (hk:Kept S w w') (hS:OffCode S w) (ho:∀ k,ownS b x k→¬ S k):CSr w' b x cs a m:=by
 obtain ⟨xs,h1⟩:=h.prog
 obtain ⟨ys,h2⟩:=h.way
 refine ⟨(hk.block _ (Zab h.box) (ho _ (Or.inl rfl))).trans h.box,⟨xs,hS.prog hk h1⟩,hS.own (by simp [Zcp]) hk h.names,⟨ys,h2.keep hk hS (fun k hj=>ho k (Or.inr ?_))⟩,fun hs => ?_⟩
 ·rcases h2.owns.2 with ⟨e,_⟩ | ⟨g,cap,cur,e,_⟩
  ·rw [e] at hj; simp [Value.ownBlock] at hj
  ·rw [e] at hj
   simp [Value.ownBlock] at hj
   simp at e
   exact ⟨_,e.1,hj⟩
 ·obtain ⟨⟨n,g1,g2⟩,g3⟩:=h.found hs
  exact ⟨⟨n,hS.terms hk g1,g2⟩,hS.own (by simp [Zcp]) hk g3⟩
theorem CSr.upd {w w':World} {b:Nat} {x x':CX} {cs:List Cls} {a:List (List Sym) × Names} {m m':SN} (h:CSr w b x cs a m) (hk:Kept (only b) w w') (hbox:w'.heap[b]?=some (.cells (x'.cells cs.length a.2.length m'.way.length m'.tries m'.status m'.tree) 79 (0,0))) (hx:x'.ca=x.ca∧x'.cc=x.cc∧x'.na=x.na∧x'.nc=x.nc)
  (hway:∃ ys,RowL w (.slice x'.wa m'.way.length x'.wc) m'.way.reverse ys) (hf:m'.status=1→(∃ n,TermsIn w (.slice x'.va x'.vl x'.vc) n.vals∧NOk n∧NNm n∧Same n m'.found)∧w.ownsRow 0 3 1 (.slice x'.fa x'.fl x'.fc) m'.found.used.length (ints m'.found.used)):CSr w' b x' cs a m':=by
 obtain ⟨xs,h1⟩:=h.prog
 obtain ⟨ys,h2⟩:=hway
 have hS:OffCode (only b) w:=fun k e=>by
  have e:k=b:=e
  subst e
  exact ⟨_,_,_,h.box,by simp [Zcp]⟩
 obtain ⟨e1,e2,e3,e4⟩:=hx
 refine ⟨hbox,⟨xs,by rw [e1,e2]; exact hS.prog hk h1⟩,by rw [e3,e4]; exact hS.own (by simp [Zcp]) hk h.names,⟨ys,h2.keep hk hS (fun k hj e => ?_)⟩,fun hs => ?_⟩
 ·have e:k=b:=e
  subst e
  rcases h2.owns.2 with ⟨e,_⟩ | ⟨g,cap,cur,e,_,hg,_⟩
  ·rw [e] at hj; simp [Value.ownBlock] at hj
  ·rw [e] at hj
   simp [Value.ownBlock] at hj
   subst hj
   rw [h.box] at hg
   simp at hg
 ·obtain ⟨⟨n,g1,g2⟩,g3⟩:=hf hs
  exact ⟨⟨n,hS.terms hk g1,g2⟩,hS.own (by simp [Zcp]) hk g3⟩
theorem CSr.off {w:World} {b:Nat} {x:CX} {cs:List Cls} {a:List (List Sym) × Names} {m:SN} (h:CSr w b x cs a m):OffCode (only b) w:=fun k e=>by
 have e:k=b:=e
 subst e
 exact ⟨_,_,_,h.box,by simp [Zcp]⟩
theorem CSr.upd' {w w':World} {b:Nat} {x x':CX} {cs:List Cls} {a:List (List Sym) × Names} {m m':SN} (h:CSr w b x cs a m) (hk:Kept (only b) w w') (hbox:w'.heap[b]?=some (.cells (x'.cells cs.length a.2.length m'.way.length m'.tries m'.status m'.tree) 79 (0,0))) (hx:x'.ca=x.ca∧x'.cc=x.cc∧x'.na=x.na∧x'.nc=x.nc)
  (hway:∃ ys,RowL w (.slice x'.wa m'.way.length x'.wc) m'.way.reverse ys) (hf:m'.status=1→(∃ n,TermsIn w' (.slice x'.va x'.vl x'.vc) n.vals∧NOk n∧NNm n∧Same n m'.found)∧w'.ownsRow 0 3 1 (.slice x'.fa x'.fl x'.fc) m'.found.used.length (ints m'.found.used)):CSr w' b x' cs a m':=by
 obtain ⟨xs,h1⟩:=h.prog
 obtain ⟨ys,h2⟩:=hway
 have hS:=h.off
 obtain ⟨e1,e2,e3,e4⟩:=hx
 refine ⟨hbox,⟨xs,by rw [e1,e2]; exact hS.prog hk h1⟩,by rw [e3,e4]; exact hS.own (by simp [Zcp]) hk h.names,⟨ys,h2.keep hk hS (fun k hj e => ?_)⟩,hf⟩
 have e:k=b:=e
 subst e
 rcases h2.owns.2 with ⟨e,_⟩ | ⟨g,cap,cur,e,_,hg,_⟩
 ·rw [e] at hj; simp [Value.ownBlock] at hj
 ·rw [e] at hj
  simp [Value.ownBlock] at hj
  subst hj
  rw [h.box] at hg
  simp at hg
def Zhe (w:World) (x x':CX):Prop:=(∀ k,(∃ p,x'.wa=some p∧p.block=k)→(∃ p,x.wa=some p∧p.block=k)∨w.heap.size≤k)∧x'.ca=x.ca∧x'.cc=x.cc∧x'.na=x.na∧x'.nc=x.nc
theorem Zlm {wa:Option Addr} {n c k:Nat}:(Value.slice wa n c).ownBlock=some k↔∃ p,wa=some p∧p.block=k:=by
 cases wa <;> simp [Value.ownBlock]
theorem CSr.offS {w:World} {b:Nat} {x:CX} {cs:List Cls} {a:List (List Sym) × Names} {m:SN} (h:CSr w b x cs a m):OffCode (ownS b x) w:=fun k hk=>by
 rcases hk with rfl | hk
 ·exact ⟨_,_,_,h.box,by simp [Zcp]⟩
 ·obtain ⟨ys,h2⟩:=h.way
  exact Zjs h2.owns k (Zlm.2 hk)
theorem box8 {w:World} {b:Nat} {u0 u1 u2 u3 u4 u5 u6 u7:Value} {t:TypeId} (h:w.heap[b]?=some (.cells #[u0,u1,u2,u3,u4,u5,u6,u7] t (0,0))) :
  w.cell? ⟨b,0,none⟩=some u0∧w.cell? ⟨b,1,none⟩=some u1∧w.cell? ⟨b,2,none⟩=some u2∧w.cell? ⟨b,3,none⟩=some u3∧w.cell? ⟨b,4,none⟩=some u4∧w.cell? ⟨b,5,none⟩=some u5∧w.cell? ⟨b,6,none⟩=some u6∧w.cell? ⟨b,7,none⟩=some u7∧∀ i,w.frozen? ⟨b,i,none⟩=false :=
 ⟨Zaa h 0 _ rfl,Zaa h 1 _ rfl,Zaa h 2 _ rfl,Zaa h 3 _ rfl,Zaa h 4 _ rfl,Zaa h 5 _ rfl,Zaa h 6 _ rfl,Zaa h 7 _ rfl,fun i=>Zae h i⟩
theorem Yfa {way:List (ND × Nat)} {i:Nat} {d:ND × Nat} (h:way.reverse[i]?=some d):(Zgh way)[i]?=some (d.2 - 1):=by
 unfold Zgh
 rw [← List.map_reverse,Qj,h]
 rfl
theorem Zqs (w:World) (b:Nat) (wa:Option Addr) (wc:Nat) (way:List (ND × Nat)) (ys:List Value) (hb2:w.cell? ⟨b,2,none⟩=some (.slice wa way.length wc)) (hW:RowL w (.slice wa way.length wc) way.reverse ys) (hw:way.length≤200000) (hk:∀ y ∈ way,1≤y.2∧y.2≤4000) :
  Calls Tryz.prog 43 #[.pointer (some ⟨b,0,none⟩)] w fun e w'=>∃ fa fc,e = .returned (.slice fa way.length fc)∧Ext w w'∧w'.ownsRow w.heap.size 3 1 (.slice fa way.length fc) way.length (ints (Zgh way)):=by
 have hbl:b<w.heap.size:=World.block_lt_of_cell? w ⟨b,2,none⟩ hb2
 obtain ⟨L,hL⟩:∃ L,L=way.length:=⟨_,rfl⟩
 rw [← hL] at hW hb2 hw ⊢
 have hul:(Zgh way).length=L:=by rw [hL]; simp [Zgh]
 have HW:=Zac hW
 have Hul:=Zac hul
 have Hk:=Zac hk
 have HL:=Zac hL
 clear hW hul hk hL
 go_enter Tryz.func43,Tryz.ntmps43
 go_wp2
 go_loopg [3,11] (L+1) (fun gk nv iv wr=>∃ (i:Nat) (ga:Option Addr) (gc:Nat),nv = .slice ga i gc∧iv = .int .i64 i∧i≤L∧L - i<gk∧Ext w wr∧wr.ownsRow w.heap.size 3 1 (.slice ga i gc) i (ints ((Zgh way).take i)))
 case atStart=>exact ⟨0,none,0,rfl,by go_num,by omega,by omega,Ext.of (Qx _ _),by simpa [ints] using World.ownsRow_nil w w.heap.size 3 1⟩
 case round =>
  obtain ⟨i,ga,gc,rfl,rfl,hi,hgk,hE,hrow⟩:=hrel
  have hs:=hE.size
  have HE:=Zac hE
  have Hrow:=Zac hrow
  clear hE hrow
  by_cases hlt:i<L
  ·obtain ⟨d,hd⟩:∃ d,way.reverse[i]?=some d:=⟨_,Qb (by rw [List.length_reverse,← HL.out]; exact hlt)⟩
   have hu:=Yfa hd
   have hdm:d ∈ way:=List.mem_reverse.1 (Qh hd)
   obtain ⟨hd1,hd2⟩:=Hk.out d hdm
   obtain ⟨x0,x1,x2,x3,y0,y1,y2,y3,y4,hnode⟩:=HW.out.all i d hd
   obtain ⟨ga',gc',va',vl',vc',ra',rl',rc',u',rfl,rfl,rfl,rfl,hu'⟩:=hnode.shape
   have ho:=HW.out.owns
   rw [List.length_reverse,← HL.out] at ho
   obtain ⟨wb,wcap,wcur,hwe,_,hwb,_⟩:=Zao ho (by omega)
   simp only [Value.slice.injEq] at hwe
   obtain ⟨rfl,_,rfl⟩:=hwe
   have hwl:=Zab hwb
   have c0:=(HE.out.cell (p:=⟨wb,i * 5,none⟩) hwl).trans (Zai ho _ _ y0)
   have c1:=(HE.out.cell (p:=⟨wb,i * 5+1,none⟩) hwl).trans (Zai ho _ _ y1)
   have c2:=(HE.out.cell (p:=⟨wb,i * 5+2,none⟩) hwl).trans (Zai ho _ _ y2)
   have c3:=(HE.out.cell (p:=⟨wb,i * 5+3,none⟩) hwl).trans (Zai ho _ _ y3)
   have c4:=(HE.out.cell (p:=⟨wb,i * 5+4,none⟩) hwl).trans (Zai ho _ _ y4)
   obtain ⟨W1,hW1⟩:∃ W1,W1=wr.alloc (.cells #[.slice ga' d.1.goals.length gc',.slice va' vl' vc',.slice ra' rl' rc',.int .i64 u',.int .i64 d.2] 104):=⟨_,rfl⟩
   have hE1:Ext wr W1:=by rw [hW1]; exact (Ext.of (by repeat' (first | with_reducible(first|exact Qx _ _|apply Kept.drew|apply Kept.drewN|apply Qz|refine Qy ?_ ?_ _)|exact fun h=>absurd h (by simp <;> omega))))
   have Hrow1:=Zac (Zah Hrow.out (fun k hk=>hE1.block k (Hrow.out.lt k hk).2))
   have hs1:W1.heap.size=wr.heap.size+1:=by rw [hW1]; simp
   have Htk:Hid (ints ((Zgh way).take (i+1))=ints ((Zgh way).take i)++[.int .i64 ((d.2:Int) - 1)]):=by
    show _=_
    rw [List.take_add_one,hu]
    simp [ints]
    omega
   have HE1:=Zac hE1
   have HW1:=Zac hW1
   have hd3:(-(2:Int) ^ 63≤(d.2:Int) - 1):=by omega
   clear hd hu hdm y0 y1 y2 y3 y4 hnode ho hwb hE1 hW1
   go_wp2_with (at_builtin; rw [← HW1.out]; go_loud (refine Zam W1 rfl (.tmp 15) (.tmp 19) 22 rfl w.heap.size 3 Tryz.infoInt Tryz.underlying22 rfl (by decide) (.slice ga i gc) i (ints ((Zgh way).take i)) rfl Hrow1.out #[.int .i64 ((d.2:Int) - 1)] rfl (by omega) rfl (Zib _) ?_ ?_ ?_))
   ·omega
   ·omega
   intro v' w2 hap
   obtain ⟨ga2,gc2,rfl⟩:=Zad hap.owns
   have Hap:=Zac hap
   clear hap
   go_wp2
   go_roundg (L - i)
   case measure=>omega
   case rel =>
    refine ⟨i+1,ga2,gc2,rfl,by go_num,by omega,by omega,(HE.out.trans (HE1.out.mono hs)).trans (Hap.out.kept.below (by omega) (fun k e=>(Hrow1.out.lt k e).1)),?_⟩
    rw [Htk.out]
    exact Hap.out.owns
  ·have he:i=L:=by omega
   subst he
   have Hfin:Hid (ints ((Zgh way).take i)=ints (Zgh way)):=by
    show _=_
    rw [List.take_of_length_le (by rw [Hul.out]; omega)]
   go_wp2
   go_ret
   exact ⟨ga,gc,rfl,HE.out,by rw [← Hfin.out]; exact Hrow.out⟩
set_option maxHeartbeats 8000000 in
theorem Ztm (w:World) (b:Nat) (x:CX) (cs:List Cls) (a:List (List Sym) × Names) (m:SN) (h:CSr w b x cs a m) (hw:m.way.length≤200000) (hk:∀ y ∈ m.way,y.2≤4000) (hcl:cs.length≤24) (hT:m.tree.length+m.way.length≤200000) :
  Calls Tryz.prog 28 #[.pointer (some ⟨b,0,none⟩)] w fun e w'=>e = .returned (.tuple #[])∧Kept (only b) w w'∧CSr w' b x cs a (Zdf cs m):=by
 have hbx:=h.box
 obtain ⟨ca,cc,na,nc,wa,wc,va,vl,vc,fa,fl,fc⟩:=x
 simp only [CX.cells] at hbx
 obtain ⟨b0,b1,b2,b3,b4,b5,b6,b7,bf⟩:=box8 hbx
 have H:=Zac h
 have Hk:=Zac hk
 have HT:=Zac hT
 have hbl:=Zab hbx
 clear h hbx hk hT
 go_enter Tryz.func28,Tryz.ntmps28
 go_wp2
 go_loopg [2] (m.way.length+1) (fun gk lv wr=>∃ (way':List (ND × Nat)) (T':List UInt8),way'.length<gk∧lv = .int .i64 ((way'.length:Int) - 1)∧Zdw cs way' T'=Zdw cs m.way m.tree∧T'.length+way'.length≤200000∧way'.length≤200000∧(∀ y ∈ way',y.2≤4000)∧Kept (only b) w wr∧CSr wr b ⟨ca,cc,na,nc,wa,wc,va,vl,vc,fa,fl,fc⟩ cs a { m with way:=way',tree:=T' })
 case atStart=>exact ⟨m.way,m.tree,by omega,rfl,rfl,HT.out,hw,Hk.out,Qx _ _,H.out⟩
 case round =>
  clear b0 b1 b2 b3 b4 b5 b6 b7 bf
  obtain ⟨way',T',hgk,hlv,hlw,hT,hwl,hk',hK,hC⟩:=hrel
  have hbx:=hC.box
  simp only [CX.cells] at hbx
  obtain ⟨b0,b1,b2,b3,b4,b5,b6,b7,bf⟩:=box8 hbx
  have hbl':=Zab hbx
  cases hw':way' with
  | nil =>
   have hlv':u2 = .int .i64 (-1):=by rw [hlv,hw']; rfl
   subst hlv'
   have Hfin:Hid (∀ u,Kept (only b) wr u→(∀ k,u.heap[k]?=wr.heap[k]?)→Kept (only b) w u∧CSr u b ⟨ca,cc,na,nc,wa,wc,va,vl,vc,fa,fl,fc⟩ cs a (Zdf cs m)):=fun u hu he=>by
    refine ⟨hK.trans hu,?_⟩
    have e:Zdf cs m = { m with way:=way',tree:=T' }:=by
     unfold Zdf
     rw [← hlw,hw']
     rfl
    rw [e]
    exact hC.ext ⟨hu.os,hu.tape,hu.output,hu.size,fun k _=>he k⟩
   clear hC hbx hK hlw hk' hlv hw' hgk hwl hT
   go_wp2_with fail
   go_quiet (fail)
   go_wp2
   go_end0
   exact ⟨rfl,Hfin.out _ ((Qx _ wr).drewN _) (fun _=>rfl)⟩
  | cons y r =>
   obtain ⟨yn,yk⟩:=y
   have hlv':u2 = .int .i64 (r.length:Int):=by rw [hlv,hw']; simp
   subst hlv'
   subst hw'
   simp only [Qf] at b2 hgk hwl hT
   obtain ⟨ys,hrow⟩:=hC.way
   simp only [List.reverse_cons,Qf] at hrow
   have ho:=hrow.owns
   rw [Qg,List.length_reverse,Qn] at ho
   obtain ⟨wb,wcap,wcur,hwe,_,hwb,_⟩:=Zao ho (by omega)
   simp only [Value.slice.injEq] at hwe
   obtain ⟨rfl,_,rfl⟩:=hwe
   obtain ⟨x0,x1,x2,x3,y0,y1,y2,y3,y4,hnode⟩:=hrow.all r.length (yn,yk) (by rw [Qd (by simp)]; simp)
   have c4:=Zai ho _ _ y4
   simp only at c4
   have hyk:=hk' (yn,yk) (by simp)
   simp only at hyk
   have hwbl:=Zab hwb
   by_cases hN:cs.length≤yk
   ·have hN':(cs.length:Int)≤(yk:Int):=by omega
    have hpop:=hrow.pop List.length_reverse
    have Hstr:=Zac (Zbd T' [41])
    have Hbx:=Zac hbx
    have Hnext:Hid (∀ u,Kept (only b) wr u→u.heap[b]?=some (.cells #[.slice ca cs.length cc,.slice na a.2.length nc,.slice (some ⟨wb,0,none⟩) r.length wc,.int .i64 m.tries,.int .i64 m.status,.slice va vl vc,.slice fa fl fc,.string ⟨(T'++[41]).toArray⟩] 79 (0,0))→Kept (only b) w u∧CSr u b ⟨ca,cc,na,nc,some ⟨wb,0,none⟩,wc,va,vl,vc,fa,fl,fc⟩ cs a { m with way:=r,tree:=T'++[41] }):=fun u hu hb=>⟨hK.trans hu,hC.upd hu hb ⟨rfl,rfl,rfl,rfl⟩ ⟨_,hpop⟩ hC.found⟩
    have Hlw:Hid (Zdw cs r (T'++[41])=Zdw cs m.way m.tree):=by
     have h1:=hlw
     simp only [Zdw] at h1
     rw [if_pos hN] at h1
     exact h1
    have Hk2:Hid (∀ y ∈ r,y.2≤4000):=fun y hy=>hk' y (by simp [hy])
    clear hC hbx hK hlw hk' hlv hrow ho y0 y1 y2 y3 y4 hnode hwb hpop hN
    go_wp2_with fail
    go_quiet (fail)
    go_wp2
    go_roundg (r.length+1)
    case measure=>omega
    case rel =>
     obtain ⟨g1,g2⟩:=Hnext.out _ ((((Qx (only b) wr).drewN _).put 7 _).put 2 _) (Zaf (Zaf (w:=wr.drewN _) Hbx.out 7 _) 2 _)
     exact ⟨r,T'++[41],by omega,rfl,Hlw.out,by simp; omega,by omega,Hk2.out,g1,g2⟩
   ·have hN':¬ (cs.length:Int)≤(yk:Int):=by omega
    have Hfin:Hid (∀ u,Kept (only b) wr u→(∀ k,u.heap[k]?=wr.heap[k]?)→Kept (only b) w u∧CSr u b ⟨ca,cc,na,nc,some ⟨wb,0,none⟩,wc,va,vl,vc,fa,fl,fc⟩ cs a (Zdf cs m)):=fun u hu he=>by
     refine ⟨hK.trans hu,?_⟩
     have e:Zdf cs m = { m with way:=(yn,yk)::r,tree:=T' }:=by
      unfold Zdf
      rw [← hlw]
      simp only [Zdw]
      rw [if_neg hN]
     rw [e]
     exact hC.ext ⟨hu.os,hu.tape,hu.output,hu.size,fun k _=>he k⟩
    clear hC hbx hK hlw hk' hlv hrow ho y0 y1 y2 y3 y4 hnode hwb hN
    go_wp2_with fail
    go_quiet (fail)
    go_wp2
    go_end0
    exact ⟨rfl,Hfin.out _ ((Qx _ wr).drewN _) (fun _=>rfl)⟩
end Go.Proofs.YtlmjilpjmgjjcabGreatDoor
